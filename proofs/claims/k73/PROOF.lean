import PyProof.Rows.All
import Wide.Line
import OpenK.KOwn
import KE.RegKIsAll
import KE.RegKTryMore
import Wide.FinOn
import Lean
import PyProof.EqAt
import PyProof.EqKinds
import PyProof.TupleCall
import PyProof.Cells
import PyProof.SumWalkG
import PyProof.EnumStmt
import PyProof.EnumMake
import PyProof.InstStoreFacts
import KE.KDictList
import KE.KItem
import KE.KIntText
import PySem.Challenge.RW_ohmyard_k73_a_net_watched
set_option Elab.async false
set_option linter.all false
local macro_rules|`(())=>`(by lia)
local macro_rules|`(∅)=>`(by decide +kernel)
local macro_rules|`(⋯)=>`(by simp)
set_option maxRecDepth 100000
open PySem.W (Frag)
set_option maxHeartbeats 4000000
open List
namespace L2
open PySem PySem.Spec PyProof.Rows
abbrev Key:=Sum Int Str
def zA:Key->Value->Bool
 | .inl k,v=>Value.isInt k v
 | .inr x,v=>Value.isStrOf x v
def qu5 (w:World):Key->Int
 | .inl k=>hashInt k
 | .inr x=>hashStr w x
theorem eO:∀{k:Key} {v:Value},zA k v=true->(∃i t,k=Sum.inl i/\v=Value.int i t)\/(∃x t,k=Sum.inr x/\v=Value.str x t)
 | .inl i,v,h=>by
  obtain⟨t,e⟩:=Value.isInt_shape (k:=i) (v:=v) h;exact .inl ⟨i,t,rfl,e⟩
 | .inr x,v,h=>by
  obtain⟨t,e⟩:=Value.isStrOf_shape (x:=x) (v:=v) h;exact .inr ⟨x,t,rfl,e⟩
theorem Mb (i:Int)(t:Tok):zA (.inl i) (.int i t)=true:=by simp[zA,Value.isInt]
theorem Lq (x:Str)(t:Tok):zA (.inr x) (.str x t)=true:=by simp[zA,Value.isStrOf]
theorem qf3 (a b:Int):decide ((Sum.inl a:Key)=Sum.inl b)=(a == b):=by
 by_cases e:a=b
 .subst e;simp
 .have h:¬(Sum.inl a:Key)=Sum.inl b:=λq=>e (Sum.inl.inj q);rw[decide_eq_false h];exact(beq_eq_false_iff_ne.mpr e).symm
theorem qh7 (a b:Str):decide ((Sum.inr a:Key)=Sum.inr b)=decide (a=b):=by
 by_cases e:a=b
 .subst e;simp
 .have h:¬(Sum.inr a:Key)=Sum.inr b:=λq=>e (Sum.inr.inj q);rw[decide_eq_false h,decide_eq_false e]
theorem qg4 (a:Int)(b:Str):decide ((Sum.inl a:Key)=Sum.inr b)=false:=decide_eq_false (λq=>nomatch q)
theorem Zj (a:Str)(b:Int):decide ((Sum.inr a:Key)=Sum.inl b)=false:=decide_eq_false (λq=>nomatch q)
def eP (prog:Program)(w:World):PySem.KeyKind prog w Key where
 is:=zA
 hash:=qu5 w
 inj:=λv a b ha hb=>by
  rcases eO ha with ⟨i,t,rfl,rfl⟩ | ⟨x,t,rfl,rfl⟩
  .rcases eO hb with ⟨j,u,rfl,e⟩ | ⟨y,u,rfl,e⟩
   .injection e with e1 _;rw[e1]
   .exact nomatch e
  .rcases eO hb with ⟨j,u,rfl,e⟩ | ⟨y,u,rfl,e⟩
   .exact nomatch e
   .injection e with e1 _;rw[e1]
 byValue:=λk v h=>by
  rcases eO h with ⟨i,t,rfl,rfl⟩ | ⟨x,t,rfl,rfl⟩<;>rfl
 pyHash:=λhv h=>by
  rcases eO hv with ⟨i,t,rfl,rfl⟩ | ⟨x,t,rfl,rfl⟩
  .exact wpAny_pyHash_int h
  .exact wpAny_pyHash_str h
 eqBool:=λhu hv h=>by
  rcases eO hu with ⟨i,t,rfl,rfl⟩ | ⟨x,t,rfl,rfl⟩
  .rcases eO hv with ⟨j,u,rfl,rfl⟩ | ⟨y,u,rfl,rfl⟩
   .rw[qf3] at h;exact wpAny_eqBool_int h
   .rw[qg4] at h;exact SeqAt.EqAt.int_str i t y u _ _ _ _ h
  .rcases eO hv with ⟨j,u,rfl,rfl⟩ | ⟨y,u,rfl,rfl⟩
   .rw[Zj] at h;exact SeqAt.EqAt.str_int x t j u _ _ _ _ h
   .rw[qh7] at h;exact wpAny_eqBool_str h
 «strs»:=λk x t v h=>by
  rcases eO h with ⟨i,u,rfl,e⟩ | ⟨y,u,rfl,e⟩
  .exact nomatch e
  .injection e with e1 _
   subst e1
   cases v<;>rfl
theorem Dp (prog:Program)(w:World)(i:Int)(t:Tok):(eP prog w).is (.inl i) (.int i t)=true:=Mb i t
theorem Ei (prog:Program)(w:World)(x:Str)(t:Tok):(eP prog w).is (.inr x) (.str x t)=true:=Lq x t
inductive V where
 |non | bl (b:Bool) | int (i:Int) | str (x:Str) | byt (b:Array UInt8) | flt (b:UInt64) | ref (a:Addr) | ty (n:String)
 deriving DecidableEq
def cG:V->Value->Prop
 | .non,u=>u=Value.none
 | .bl b,u=>u=Value.bool b
 | .int i,u=>∃t,u=Value.int i t
 | .str x,u=>∃t,u=Value.str x t
 | .byt b,u=>∃t,u=Value.bytes b t
 | .flt b,u=>∃t,u=Value.float b t
 | .ref a,u=>u=Value.ref a
 | .ty n,u=>u=Value.type n
abbrev cE:List V->List Value->Prop:=Paired cG
theorem cE.length (r:cE xs us):xs.length=us.length:=Paired.length r
theorem cE.get:∀{xs:List V} {us:List Value} {i:Nat} {x:V},cE xs us->xs[i]?=some x->∃u,us[i]?=some u/\cG x u
 |_,_,_,_,.nil,e=>by simp at e
 |_,_,0,_,.cons r _,e=>by simp at e;subst e;exact⟨_,rfl,r⟩
 |_,_,i+1,x,.cons _ t,e=>by
  obtain⟨u,h1,h2⟩:=cE.get (i:=i) (x:=x) t (by simpa using e);exact⟨u,by simpa using h1,h2⟩
theorem cE.set (r:cG x u):∀{xs:List V} {us:List Value} (i:Nat),cE xs us->cE (xs.set i x) (us.set i u)
 |_,_,_,.nil=>.nil
 |_,_,0,.cons _ t=>.cons r t
 |_,_,i+1,.cons q t=>.cons q (cE.set r i t)
theorem cE.append:∀{xs ys:List V} {us ws:List Value},cE xs us->cE ys ws->cE (xs++ys) (us++ws)
 |_,_,_,_,.nil,s=>s
 |_,_,_,_,.cons r t,s=>.cons r (cE.append t s)
theorem cE.take:∀{xs:List V} {us:List Value} (n:Nat),cE xs us->cE (xs.take n) (us.take n)
 |_,_,0,_=>.nil
 |_,_,_+1,.nil=>.nil
 |_,_,n+1,.cons r t=>.cons r (cE.take n t)
theorem cE.drop:∀{xs:List V} {us:List Value} (n:Nat),cE xs us->cE (xs.drop n) (us.drop n)
 |_,_,0,r=>r
 |_,_,_+1,.nil=>.nil
 |_,_,n+1,.cons _ t=>cE.drop n t
def lG:Option V->Option Value->Prop
 |some v,some u=>cG v u
 |none,none=>True
 |_,_=>False
def KV {κ:Type}:List (κ × V)->List (κ × Value)->Prop:=Paired λ(p:κ × V) (q:κ × Value)=>p.1=q.1/\cG p.2 q.2
def kV:Key->V
 | .inl i=>.int i
 | .inr x=>.str x
inductive HO where
 |lst (xs:List V)
 |tup (xs:List V)
 |dK (kvs:List (Key × V)) | dT (kvs:List (List Key × V))
 |set (S:Int->Bool) (n:Nat)
 |ins (C dx:Addr) (fs:List (Str × V))
 |own (x:Addr)
 |xd (fs:List (Str × V))
 |met (f x:Addr)
 |rng (lo hi:Int)
 |frz (o:Obj) (u:HO)
 |tbl (ps:Array Value)
 |ext (φ:Heap->Prop)
abbrev Hp:=Addr->Option HO
def upd (H:Hp)(a:Addr)(o:HO):Hp:=λb=>if b=a then some o else H b
theorem aB:upd H a o a=some o:=by unfold upd;rw[if_pos rfl]
theorem aX (h:b≠a):upd H a o b=H b:=by unfold upd;rw[if_neg h]
theorem rC:upd (upd H a o) a u=upd H a u:=by
 funext b;unfold upd;split<;>rfl
theorem cZ {H:Hp}(h:H a=some o)(h':H b=some u)(d:o≠u):a≠b:=by
 intro e;subst e;rw[h] at h';exact d (Option.some.inj h')
theorem aQ {H:Hp}(h:H a=some o)(h':H b=none):a≠b:=by
 intro e;subst e;rw[h] at h';cases h'
section
variable (P:Program) (w:World)
def dP (H:Hp)(h:Heap)(a:Addr):HO->Prop
 | .lst xs=>xs.length<=sizeLine/\∃(its:List Value) (n:Nat),cE xs its/\h.get? a=some { cls:=.type "list",data:=.seq its.toArray n }
 | .tup xs=>xs.length<=sizeLine/\∃its:List Value,cE xs its/\IsTup h a its.toArray
 | .dK kvs=>kvs.length<=sizeLine/\(a == sysModules)=false/\∃vs,KV kvs vs/\h.DictOf (eP P w) a vs
 | .dT kvs=>kvs.length<=sizeLine/\(a == sysModules)=false/\∃xs:List (List Key × Addr × Value),
   Paired (λ(p:List Key × V) (q:List Key × Addr × Value)=>p.1=q.1/\H q.2.1=some (.tup (p.1.map kV))/\cG p.2 q.2.2) kvs xs/\
   ∃o es ep,h.get? a=some o/\o.ExactDict/\o.data=.dict es ep/\es.toList=xs.map (entryOfKey (tupleKind (eP P w)))/\(xs.map (·.1)).Nodup
 | .set S n=>h.SetOf (intKind P w) a S n
 | .ins C dx fs=>H dx=some (.own a)/\fs.length<=1000/\dx≠a/\h.get? a=some (W.instObj C dx)/\
   ∃mA,h.Ns1 dx mA/\(∀f,lG (fs.lookup f) (mA f))/\PySem.Within mA (fs.map (·.1))
 | .own _=>∃o,h.get? a=some o
 | .xd fs=>∃mA,h.Ns1 a mA/\∀f,lG (fs.lookup f) (mA f)
 | .rng lo hi=>∃t u v,h.get? a=some { cls:=.type "range",data:=.fields #[.int lo t,.int hi u,.int 1 v] }
 | .frz o u=>h.get? a=some o/\dP H h a u
 | .tbl ps=>h.get? a=some { cls:=.none,data:=.fields ps }
 | .met f x=>h.get? a=some (W.methodObj (.ref f) (.ref x))
 | .ext φ=>φ h/\(∃o,h.get? a=some o)/\∀h1 h2:Heap,φ h1->(∀o,h1.get? a=some o->h2.get? a=some o)->φ h2
def HOk (H:Hp)(h:Heap):Prop:=∀a o,H a=some o->dP P w H h a o
end
section
variable {P:Program} {w:World} {H H':Hp} {h h':Heap} {a:Addr} {o:HO}
theorem dP.lt (x:dP P w H h a o):a < h.objs.size:=by
 cases o with
 |lst xs=>obtain⟨_,_,_,_,e⟩:=x;exact Heap.lt_size e
 |tup xs=>obtain⟨_,_,_,p⟩:=x;exact p.lt
 |dK kvs=>obtain⟨_,_,_,_,o,_,_,e,_⟩:=x;exact Heap.lt_size e
 |dT kvs=>obtain⟨_,_,_,_,o,_,_,e,_⟩:=x;exact Heap.lt_size e
 |set S n=>obtain⟨o,_,_,_,e,_⟩:=x;exact Heap.lt_size e
 |ins C dx fs=>obtain⟨_,_,_,e,_⟩:=x;exact Heap.lt_size e
 |own y=>obtain⟨_,e⟩:=x;exact Heap.lt_size e
 |xd fs=>obtain⟨_,⟨_,_,_,e,_⟩,_⟩:=x;exact Heap.lt_size e
 |rng lo hi=>obtain⟨_,_,_,e⟩:=x;exact Heap.lt_size e
 |frz ob u=>obtain⟨e,_⟩:=x;exact Heap.lt_size e
 |tbl ps=>exact Heap.lt_size (show h.get? a=some _ from x)
 |met f y=>exact Heap.lt_size (show h.get? a=some _ from x)
 |ext φ=>obtain⟨_,⟨_,e⟩,_⟩:=x;exact Heap.lt_size e
theorem Paired.mapP:∀{l₁:List α} {l₂:List β},Paired F l₁ l₂->(∀a b,F a b->G a b)->Paired G l₁ l₂
 |_,_,.nil,_=>.nil
 |_,_,.cons r t,f=>.cons (f _ _ r) (Paired.mapP t f)
theorem dP.stay (x:dP P w H h a o)(k:∀b u,(b=a\/H b=some (.own a))->h.get? b=some u->h'.get? b=some u)(ho:∀b,H b=some (.own a)->H' b=some (.own a))(ht:∀b xs,H b=some (.tup xs)->H' b=some (.tup xs)):dP P w H' h' a o:=by
 induction o with
 |lst xs=>obtain⟨z,its,n,r,e⟩:=x;exact⟨z,its,n,r,k _ _ (.inl rfl) e⟩
 |tup xs=>obtain⟨z,its,r,ob,e,c⟩:=x;exact⟨z,its,r,ob,k _ _ (.inl rfl) e,c⟩
 |dK kvs=>obtain⟨z,y,vs,r,ob,es,ep,e,c⟩:=x;exact⟨z,y,vs,r,ob,es,ep,k _ _ (.inl rfl) e,c⟩
 |dT kvs=>
  obtain⟨z,y,xs,r,ob,es,ep,e,c⟩:=x;exact⟨z,y,xs,Paired.mapP r λp q z=>⟨z.1,ht _ _ z.2.1,z.2.2⟩,ob,es,ep,k _ _ (.inl rfl) e,c⟩
 |set S n=>obtain⟨ob,es,ep,t,e,c⟩:=x;exact⟨ob,es,ep,t,k _ _ (.inl rfl) e,c⟩
 |ins C dx fs=>
  obtain⟨d,z,ne,e,mA,⟨od,es,ep,e2,c⟩,r⟩:=x;exact⟨ho _ d,z,ne,k _ _ (.inl rfl) e,mA,⟨od,es,ep,k _ _ (.inr d) e2,c⟩,r⟩
 |own y=>obtain⟨ob,e⟩:=x;exact⟨ob,k _ _ (.inl rfl) e⟩
 |xd fs=>obtain⟨mA,⟨od,es,ep,e,c⟩,r⟩:=x;exact⟨mA,⟨od,es,ep,k _ _ (.inl rfl) e,c⟩,r⟩
 |rng lo hi=>obtain⟨t,u,v,e⟩:=x;exact⟨t,u,v,k _ _ (.inl rfl) e⟩
 |frz ob u ih=>obtain⟨e,q⟩:=x;exact⟨k _ _ (.inl rfl) e,ih q⟩
 |tbl ps=>
  have e:h.get? a=some { cls:=.none,data:=.fields ps }:=x;show h'.get? a=some { cls:=.none,data:=.fields ps };exact k a _ (.inl rfl) e
 |met f y=>
  have e:h.get? a=some (W.methodObj (.ref f) (.ref y)):=x;show h'.get? a=some (W.methodObj (.ref f) (.ref y));exact k a _ (.inl rfl) e
 |ext φ=>obtain⟨p,⟨o,e⟩,st⟩:=x;exact⟨st _ _ p λo q=>k _ _ (.inl rfl) q,⟨o,k _ _ (.inl rfl) e⟩,st⟩
theorem HOk.lt (x:HOk P w H h)(e:H a=some o):a < h.objs.size:=(x a o e).lt
theorem HOk.fresh (x:HOk P w H h)(e:h.objs.size<=a):H a=none:=by
 cases q:H a with
 |none=>rfl
 |some u=>exact absurd (Nat.lt_of_lt_of_le (x.lt q) e) (Nat.lt_irrefl _)
theorem HOk.kept (x:HOk P w H h)(k:∀b u,h.get? b=some u->h'.get? b=some u):HOk P w H h':=λa o e=>
 (x a o e).stay (λb u _ q=>k b u q) (λ_ q=>q) λ_ _ q=>q
theorem HOk.laid (x:HOk P w H h)(k:∀b u,h.get? b=some u->h'.get? b=some u)(hp:h.objs.size<=a)(new:dP P w (upd H a o) h' a o):HOk P w (upd H a o) h':=λb u e=>by
 have hn:=x.fresh hp
 by_cases hb:b=a
 .subst hb;rw[aB] at e;cases e;exact new
 .rw[aX hb] at e;exact(x b u e).stay (λc v _ q=>k c v q) (λc q=>by rw[aX (aQ q hn)];exact q) λc xs q=>by rw[aX (aQ q hn)];exact q
end
def Rd (H:Hp)(a:Addr)(u:HO):Prop:=H a=some u\/∃o,H a=some (.frz o u)
theorem Rd.ok (r:Rd H a u)(x:HOk P w H h):dP P w H h a u:=by
 rcases r with r | ⟨o,r⟩
 .exact x a u r
 .obtain⟨_,q⟩:=x a _ r;exact q
def Mut:Option HO->Prop
 |some (.lst _)=>True
 |some (.dK _)=>True
 |some (.dT _)=>True
 |some (.set _ _)=>True
 |some (.ins _ _ _)=>True
 |some (.ext _)=>True
 |_=>False
section
variable {P:Program} {w:World} {H:Hp} {h h':Heap} {x e:Addr} {o':HO}
theorem HOk.write (ok:HOk P w H h)(mu:Mut (H x))(he:e=x\/H e=some (.own x))(k:∀b u,b≠e->h.get? b=some u->h'.get? b=some u)(heo:∃u,h'.get? e=some u)(new:dP P w (upd H x o') h' x o'):HOk P w (upd H x o') h':=λb u q=>by
 have nown:∀c y,H c=some (.own y)->c≠x:=λc y r z=>by subst z;rw[r] at mu;exact mu
 have ntup:∀c xs,H c=some (.tup xs)->c≠x:=λc xs r z=>by subst z;rw[r] at mu;exact mu
 by_cases hb:b=x
 .subst hb;rw[aB] at q;cases q;exact new
 .rw[aX hb] at q
  by_cases hbe:b=e
  .have q':H b=some (.own x):=by
    rcases he with z | z
    .exact absurd (hbe.trans z) hb
    .rw[hbe];exact z
   rw[q] at q';cases q';obtain⟨v,hv⟩:=heo;exact⟨v,by rw[hbe];exact hv⟩
  .refine(ok b u q).stay (λc v hc r=>k c v ?_ r) (λc r=>by rw[aX (nown c b r)];exact r) λc xs r=>by rw[aX (ntup c xs r)];exact r
   rcases hc with rfl | hc
   .exact hbe
   .rintro rfl;rcases he with z | z
    .exact nown c b hc z
    .rw[hc] at z;cases z;exact hb rfl
end
structure Un (fs ex:List Addr) (H H':Hp) (h h':Heap):Prop where
 keep:∀b o,h.get? b=some o->H b=none->b∉fs->b∉ex->h'.get? b=some o
 slot:∀b o,h.get? b=some o->H b=none->b∈fs->b∉ex->∃sl,h'.get? b=some { o with slots:=sl }
 free:∀b o,h.get? b=some o->H b=none->b∉ex->H' b=none
 there:∀b o,h.get? b=some o->b∉ex->∃o',h'.get? b=some o'
 tups:∀b xs,H b=some (.tup xs)->H' b=some (.tup xs)
 frzs:∀b o u,H b=some (.frz o u)->H' b=some (.frz o u)
 tbls:∀b ps,H b=some (.tbl ps)->∃more,H' b=some (.tbl (ps++more))
section
variable {fs fs' ex ex':List Addr} {H H1 H2:Hp} {h h1 h2 h':Heap} {a x e:Addr} {o:HO}
theorem Un.any (u:Un fs ex H H1 h h1)(q:h.get? b=some ob)(n:H b=none)(hx:b∉ex):∃sl,h1.get? b=some { ob with slots:=sl }:=by
 by_cases hb:b∈fs
 .exact u.slot b ob q n hb hx
 .exact⟨ob.slots,u.keep b ob q n hb hx⟩
theorem Un.kept (k:∀b u,h.get? b=some u->h'.get? b=some u):Un fs ex H H h h':=
 ⟨λb ob q _ _ _=>k b ob q,λb ob q _ _ _=>⟨ob.slots,k b ob q⟩,λ_ _ _ n _=>n,λb ob q _=>⟨ob,k b ob q⟩,λ_ _ q=>q,λ_ _ _ q=>q,λ_ ps q=>⟨#[],by rw[q];simp⟩⟩
theorem Un.refl:Un fs ex H H h h:=Un.kept λ_ _ q=>q
theorem Un.laid (k:∀b u,h.get? b=some u->h'.get? b=some u)(hp:h.objs.size<=a)(hn:H a=none):Un fs ex H (upd H a o) h h' where
 keep:=λb u q _ _ _=>k b u q
 slot:=λb u q _ _ _=>⟨u.slots,k b u q⟩
 free:=λb u q n _=>by rw[aX (Nat.ne_of_lt (Nat.lt_of_lt_of_le (Heap.lt_size q) hp))];exact n
 there:=λb u q _=>⟨u,k b u q⟩
 tups:=λb xs q=>by rw[aX (aQ q hn)];exact q
 frzs:=λb u xs q=>by rw[aX (aQ q hn)];exact q
 tbls:=λb ps q=>⟨#[],by rw[aX (aQ q hn),q];simp⟩
theorem Un.write (mu:Mut (H x))(he:e=x\/H e=some (.own x))(k:∀b u,b≠e->h.get? b=some u->h'.get? b=some u)(heo:∃u,h'.get? e=some u):Un fs ex H (upd H x o) h h':=by
 have hx:∀b,H b=none->b≠x:=λb n z=>by subst z;rw[n] at mu;exact mu
 have hb:∀b,H b=none->b≠e:=λb n z=>by
  subst z;rcases he with r | r
  .exact hx b n r
  .rw[n] at r;cases r
 have hm:∀b u,H b=some u->¬Mut (some u)->b≠x:=λb u q nm z=>by subst z;rw[q] at mu;exact nm mu
 refine⟨λb u q n _ _=>k b u (hb b n) q,λb u q n _ _=>⟨u.slots,k b u (hb b n) q⟩,λb u q n _=>by rw[aX (hx b n)];exact n,λb u q _=>?_,
  λb xs q=>by rw[aX (hm b _ q λz=>z)];exact q,λb u xs q=>by rw[aX (hm b _ q λz=>z)];exact q,λb ps q=>⟨#[],by rw[aX (hm b _ q λz=>z),q];simp⟩⟩
 by_cases hbe:b=e
 .subst hbe;exact heo
 .exact⟨u,k b u hbe q⟩
end
def trk (h:Heap)(H:Hp):List Addr:=(List.range h.objs.size).filter λa=>(H a).isSome
def Bo (h:Heap)(H:Hp):Heap:=W.hideAll h (trk h H)
theorem Nl (h:Heap)(H:Hp):(Bo h H).objs.size=h.objs.size:=W.hideAll_size _ _
theorem Tc (e:h.get? b=some o)(n:H b=none):(Bo h H).get? b=some o:=
 W.hideAll_get _ e λhm=>by
  have q:(H b).isSome=true:=(mem_filter.mp hm).2;rw[n] at q;simp at q
theorem Xq (e:(Bo h H).get? b=some o):h.get? b=some o/\H b=none:=by
 have e':h.get? b=some o:=W.of_hideAll (trk h H) e;refine⟨e',?_⟩
 cases q:H b with
 |none=>rfl
 |some x=>
  have hm:b∈trk h H:=mem_filter.mpr ⟨mem_range.mpr (Heap.lt_size e'),by simp[q]⟩;have z:(Bo h H).get? b=none:=W.hideAll_none (trk h H) hm;rw[z] at e;cases e
structure Mod (K:Frag) (mg:Str->Option Value) (base:Heap):Prop where
 kin:K.In base
 glob:base.Ns mainGlobals mg
 blt:∃mb,base.Ns builtinsNs mb/\∀x:Str,x≠"__name__"->mb x=bootBuiltins x
 nolimit:base.NoLimit
structure Cx where
 prog:Program
 w:World
 K:Frag
 mg:Str->Option Value
 base:Heap
 A:Around
 N:List Str
 s₀:Shared
 H₀:Hp
 env:Env
 outer:List Env
 stack:List Env
 ex:List Addr
 fn:Str->Bool
 calm:Bool
 pn:List (Addr × Obj)
 xe:Value->Shared->Prop
def frs (l:List Env):List Addr:=l.filterMap (·.frame)
abbrev Cx.fs (X:Cx):List Addr:=frs X.outer
def Vis (sc:Scope)(x:Str):Prop:=sc.names.lookup x=some .local\/sc.names.lookup x=some .cell\/sc.names.lookup x=some .free
def Loc (sc:Scope)(x:Str):Prop:=sc.names.lookup x=some .local\/sc.names.lookup x=some .cell
def qt9 (env:Env)(h:Heap)(m:Str->Option Value)(x:Str)(u:Value):Prop:=
 (env.kindOf x=some .local/\m x=some u)\/((env.kindOf x=some .cell\/env.kindOf x=some .free)/\∃c,env.cells.lookup x=some c/\h.IsCell c (some u))
structure Cx.Ok (X:Cx):Prop where
 mod:Mod X.K X.mg X.base
 kind:X.env.scope.kind=.function
 glob:X.env.globals=mainGlobals
 blt:X.env.builtins=builtinsNs
 above:X.s₀.heap.objs.size<=X.env.locals
 inj:∀x y c,X.env.cells.lookup x=some c->X.env.cells.lookup y=some c->x=y
 has:∀x,(X.env.kindOf x=some .cell\/X.env.kindOf x=some .free)->∃c,X.env.cells.lookup x=some c
 cab:∀x c,X.fn x=true->X.env.cells.lookup x=some c->X.s₀.heap.objs.size<=c
 hd:X.calm=true->X.A.handled=none
 frames:X.A.frames=some X.stack
 stk:X.stack=X.outer\/(X.stack=X.env :: X.outer/\X.env.frame=some X.env.locals)
 exf:∀b∈X.ex,b≠X.env.locals/\∀x c,X.env.cells.lookup x=some c->c≠b
 bs:∀b o,X.base.get? b=some o->X.s₀.heap.get? b=some o/\X.H₀ b=none
 bsz:X.base.objs.size<=X.s₀.heap.objs.size
 noex:∀b o,X.base.get? b=some o->b∉X.ex
 exfs:∀b∈X.ex,b∉X.fs
 funs:X.s₀.heap.FunFrames X.base X.outer
 frf:∀b∈X.fs,X.H₀ b=none
structure Inv (X:Cx) (pins:List (Addr × Obj)) (σ:List (Option V)) (H:Hp) (s:Shared):Prop where
 ok:X.Ok
 os:s.os=X.s₀.os
 bare:AllBare s.gens
 base:Un X.fs X.ex X.H₀ H X.s₀.heap s.heap
 loc:∃m,s.heap.Ns X.env.locals m/\∀(i:Nat) (x:Str) (v:V),X.N[i]?=some x->σ[i]?=some (some v)->Vis X.env.scope x->∃u,cG v u/\qt9 X.env s.heap m x u
 cell:∀x c,X.env.cells.lookup x=some c->∃v,s.heap.IsCell c v
 free:H X.env.locals=none
 freeC:∀x c,X.env.cells.lookup x=some c->H c=none
 pin:∀p∈X.pn++pins,s.heap.get? p.1=some p.2/\H p.1=none/\p.1≠X.env.locals/\p.1∉X.fs/\∀v,p.2.data≠.cell v
 hok:HOk X.prog X.w H s.heap
 len:σ.length=X.N.length
section
variable {X:Cx} {pins:List (Addr × Obj)} {σ:List (Option V)} {H H':Hp} {s:Shared} {h':Heap}
theorem Cx.Ok.nofr (ok:X.Ok)(e:X.base.get? b=some o):b∉X.fs:=λhb=>by
 have:=(ok.funs.mem hb).1;rw[e] at this;cases this
theorem Inv.bs (I:Inv X pins σ H s):∀b o,X.base.get? b=some o->s.heap.get? b=some o/\H b=none:=λb o e=>
 ⟨I.base.keep b o (I.ok.bs b o e).1 (I.ok.bs b o e).2 (I.ok.nofr e) (I.ok.noex b o e),I.base.free b o (I.ok.bs b o e).1 (I.ok.bs b o e).2 (I.ok.noex b o e)⟩
theorem Inv.bk (I:Inv X pins σ H s):∀b o,X.base.get? b=some o->s.heap.get? b=some o:=λb o e=>(I.bs b o e).1
theorem Inv.mod (I:Inv X pins σ H s):Mod X.K X.mg X.base:=I.ok.mod
theorem Inv.kIn (I:Inv X pins σ H s):X.K.In s.heap:=I.ok.mod.kin.keeps I.bk
theorem Inv.lt (I:Inv X pins σ H s):X.env.locals < s.heap.objs.size:=let ⟨_,hn,_⟩:=I.loc;hn.lt
theorem Inv.sz (I:Inv X pins σ H s):X.s₀.heap.objs.size<=s.heap.objs.size:=Nat.le_trans I.ok.above (Nat.le_of_lt I.lt)
theorem Inv.nofs (I:Inv X pins σ H s)(h:s.heap.objs.size<=a):a∉X.fs:=λhb=>by
 obtain⟨_,o,ho,_⟩:=I.ok.funs.mem hb;exact absurd (Nat.lt_of_lt_of_le (Heap.lt_size ho) (Nat.le_trans I.sz h)) (Nat.lt_irrefl _)
theorem Inv.cne (I:Inv X pins σ H s):∀x c,X.env.cells.lookup x=some c->c≠X.env.locals:=λx c e z=>by
 obtain⟨v,o,ho,hd⟩:=I.cell x c e;obtain⟨m,⟨o',es,ep,ho',hd',_⟩,_⟩:=I.loc;rw[z,ho'] at ho;cases ho;rw[hd'] at hd;cases hd
theorem Inv.funs (I:Inv X pins σ H s):s.heap.FunFrames X.base X.outer:=by
 have all:∀(l:List Env),(∀b∈frs l,b∈X.fs)->X.s₀.heap.FunFrames X.base l->s.heap.FunFrames X.base l:=by
  intro l
  induction l with
  |nil=>intro _ _;trivial
  |cons env r ih=>
   intro hs hl;obtain⟨hk,⟨L,o,hf,hn,ho,hd⟩,hr⟩:=hl;have hL:L∈X.fs:=hs L (by unfold frs;rw[filterMap_cons,hf];exact mem_cons_self);obtain⟨sl,e⟩:=I.base.slot L o ho (I.ok.frf L hL) hL λz=>I.ok.exfs L z hL;exact⟨hk,⟨L,_,hf,hn,e,hd⟩,ih (λb hb=>hs b (by unfold frs;rw[filterMap_cons,hf];exact mem_cons_of_mem _ hb)) hr⟩
 exact all X.outer (λ_ hb=>hb) I.ok.funs
theorem Inv.stack (I:Inv X pins σ H s):s.heap.FunFrames X.base X.stack:=by
 rcases I.ok.stk with e | ⟨e,hf⟩
 .rw[e];exact I.funs
 .rw[e];obtain⟨m,hn,_⟩:=I.loc;refine .cons (by rw[I.ok.kind];decide) hf hn ?_ I.funs;exact Heap.get?_none_of_le (Nat.le_trans I.ok.bsz I.ok.above)
theorem Inv.stkSub (I:Inv X pins σ H s):∀b∈frs X.stack,b∈X.env.locals :: X.fs:=λb hb=>by
 rcases I.ok.stk with e | ⟨e,hf⟩
 .rw[e] at hb;exact mem_cons_of_mem _ hb
 .rw[e] at hb;unfold frs at hb;rw[filterMap_cons,hf] at hb;exact hb
theorem Inv.stkFree (I:Inv X pins σ H s):∀b∈frs X.stack,H b=none:=λb hb=>by
 rcases mem_cons.mp (I.stkSub b hb) with e | hb
 .rw[e];exact I.free
 .obtain⟨_,o,ho,_⟩:=I.ok.funs.mem hb;exact I.base.free b o ho (I.ok.frf b hb) λz=>I.ok.exfs b z hb
theorem Inv.step {ch:List Addr}(I:Inv X pins σ H s)(hch:∀b∈ch,(b∈X.ex\/X.s₀.heap.objs.size<=b)/\b≠X.env.locals/\(∀x c,X.env.cells.lookup x=some c->c≠b)/\∀p∈X.pn++pins,p.1≠b)(keep:∀b o,b≠X.env.locals->b∉X.fs->b∉ch->s.heap.get? b=some o->H b=none->h'.get? b=some o)(slot:∀b o,b≠X.env.locals->b∈X.fs->b∉ch->s.heap.get? b=some o->H b=none->∃sl,h'.get? b=some { o with slots:=sl })(free:∀b o,b∉ch->s.heap.get? b=some o->H b=none->H' b=none)(there:∀b o,b∉ch->s.heap.get? b=some o->∃o',h'.get? b=some o')(tups:∀b xs,H b=some (.tup xs)->H' b=some (.tup xs))(frzs:∀b o u,H b=some (.frz o u)->H' b=some (.frz o u))(tbls:∀b ps,H b=some (.tbl ps)->∃more,H' b=some (.tbl (ps++more)))(ns:∀m,s.heap.Ns X.env.locals m->h'.Ns X.env.locals m)(hok:HOk X.prog X.w H' h')(hg:AllBare g'):
  Inv X pins σ H' { s with heap:=h',gens:=g',drawn:=d',toks:=t' }:=by
 have neL:∀b o,X.s₀.heap.get? b=some o->b≠X.env.locals:=λb o e=>Nat.ne_of_lt (Nat.lt_of_lt_of_le (Heap.lt_size e) I.ok.above);have neC:∀b o,X.s₀.heap.get? b=some o->b∉X.ex->b∉ch:=λb o e hx hb=>by
  rcases (hch b hb).1 with z | z
  .exact hx z
  .exact absurd (Nat.lt_of_lt_of_le (Heap.lt_size e) z) (Nat.lt_irrefl _)
 have cellK:∀x c,X.env.cells.lookup x=some c->∀v,s.heap.IsCell c v->h'.IsCell c v:=λx c e v ⟨o,ho,hd⟩=>by
  have nch:c∉ch:=λz=>(hch c z).2.2.1 x c e rfl
  by_cases hc:c∈X.fs
  .obtain⟨sl,q⟩:=slot c o (I.cne x c e) hc nch ho (I.freeC x c e);exact⟨_,q,hd⟩
  .exact⟨o,keep c o (I.cne x c e) hc nch ho (I.freeC x c e),hd⟩
 refine⟨I.ok,I.os,hg,⟨λb o e n hb hx=>?_,λb o e n hb hx=>?_,λb o e n hx=>?_,λb o e hx=>?_,λb xs e=>tups b xs (I.base.tups b xs e),λb o xs e=>frzs b o xs (I.base.frzs b o xs e),λb ps e=>?_⟩,?_,λx c e=>?_,?_,λx c e=>?_,λp hp=>?_,hok,I.len⟩
 .exact keep b o (neL b o e) hb (neC b o e hx) (I.base.keep b o e n hb hx) (I.base.free b o e n hx)
 .obtain⟨sl,e1⟩:=I.base.slot b o e n hb hx;obtain⟨sl',e2⟩:=slot b _ (neL b o e) hb (neC b o e hx) e1 (I.base.free b o e n hx);exact⟨sl',e2⟩
 .obtain⟨o',e1⟩:=I.base.there b o e hx;exact free b o' (neC b o e hx) e1 (I.base.free b o e n hx)
 .obtain⟨o',e1⟩:=I.base.there b o e hx;exact there b o' (neC b o e hx) e1
 .obtain⟨m1,e1⟩:=I.base.tbls b ps e;obtain⟨m2,e2⟩:=tbls b _ e1;exact⟨m1++m2,by rw[e2,Array.append_assoc]⟩
 .obtain⟨m,hn,hl⟩:=I.loc;refine⟨m,ns m hn,λi x v e1 e2 e3=>?_⟩;obtain⟨u,r,l⟩:=hl i x v e1 e2 e3;refine⟨u,r,?_⟩;rcases l with l | ⟨k,c,e,z⟩
  .exact .inl l
  .exact .inr ⟨k,c,e,cellK x c e _ z⟩
 .obtain⟨v,z⟩:=I.cell x c e;exact⟨v,cellK x c e v z⟩
 .obtain⟨m,⟨o,_,_,ho,_⟩,_⟩:=I.loc;exact free _ o (λz=>(hch _ z).2.1 rfl) ho I.free
 .obtain⟨v,o,ho,hd⟩:=I.cell x c e;exact free c o (λz=>(hch c z).2.2.1 x c e rfl) ho (I.freeC x c e)
 .obtain⟨e,n,ne,nf,d⟩:=I.pin p hp;have nch:p.1∉ch:=λz=>(hch p.1 z).2.2.2 p hp rfl;exact⟨keep p.1 p.2 ne nf nch e n,free p.1 p.2 nch e n,ne,nf,d⟩
theorem Inv.un (I:Inv X pins σ H s)(u:Un X.fs [] H H' s.heap h')(hok:HOk X.prog X.w H' h'):Inv X pins σ H' { s with heap:=h',toks:=t' }:=by
 obtain⟨m,⟨o,es,ep,ho,r⟩,_⟩:=id I.loc;obtain⟨sl,hL⟩:=u.any ho I.free ⋯;exact I.step (g':=s.gens) (d':=s.drawn) (ch:=[]) (λ_ z=>nomatch z) (λb o _ hb _ e n=>u.keep b o e n hb ⋯) (λb o _ hb _ e n=>u.slot b o e n hb ⋯) (λb o _ e n=>u.free b o e n ⋯) (λb o _ e=>u.there b o e ⋯) u.tups u.frzs u.tbls (λm' hm=>by
  obtain⟨o',es',ep',ho',r'⟩:=hm;rw[ho] at ho';cases ho';exact⟨_,es',ep',hL,r'⟩) hok I.bare
theorem Inv.call (I:Inv X pins σ H s)(u:Un (frs X.stack) ch H H' s.heap h')(hok:HOk X.prog X.w H' h')(hg:AllBare g')(hch:∀b∈ch,(b∈X.ex\/X.s₀.heap.objs.size<=b)/\b≠X.env.locals/\(∀x c,X.env.cells.lookup x=some c->c≠b)/\∀p∈X.pn++pins,p.1≠b):
  Inv X pins σ H' { s with heap:=h',gens:=g',drawn:=d',toks:=t' }:=by
 obtain⟨m,⟨o,es,ep,ho,r⟩,_⟩:=id I.loc;obtain⟨sl,hL⟩:=u.any ho I.free λz=>(hch _ z).2.1 rfl;exact I.step (ch:=ch) hch (λb o hL hb hc e n=>u.keep b o e n (λz=>(mem_cons.mp (I.stkSub b z)).elim hL hb) hc) (λb o _ _ hc e n=>u.any e n hc) (λb o hc e n=>u.free b o e n hc) (λb o hc e=>u.there b o e hc) u.tups u.frzs u.tbls (λm' hm=>by
  obtain⟨o',es',ep',ho',r'⟩:=hm;rw[ho] at ho';cases ho';exact⟨_,es',ep',hL,r'⟩) hok hg
theorem Inv.turned (I:Inv X pins σ H s)(k:∀b o,b≠it->s.heap.get? b=some o->h'.get? b=some o)(hn:H it=none)(hL:it≠X.env.locals)(h1:it∈X.ex\/X.s₀.heap.objs.size<=it)(h2:∀x c,X.env.cells.lookup x=some c->c≠it)(h3:∀p∈X.pn++pins,p.1≠it):Inv X pins σ H { s with heap:=h',toks:=t' }:=by
 have nit:∀b u,H b=some u->b≠it:=λb u e z=>by rw[z,hn] at e;cases e
 refine I.step (g':=s.gens) (d':=s.drawn) (ch:=[it]) (λb hb=>?_) (λb o _ _ hc e _=>k b o (λz=>hc (by simp[z])) e) (λb o _ _ hc e _=>⟨o.slots,k b o (λz=>hc (by simp[z])) e⟩) (λ_ _ _ _ n=>n)
  (λb o hc e=>⟨o,k b o (λz=>hc (by simp[z])) e⟩) (λ_ _ e=>e) (λ_ _ _ e=>e) (λb ps e=>⟨#[],by rw[e];simp⟩) (λm hm=>?_) (λb u e=>?_) I.bare
 .have e:b=it:=by simpa using hb
  subst e;exact⟨h1,hL,h2,h3⟩
 .obtain⟨o,es,ep,ho,r⟩:=hm;exact⟨o,es,ep,k _ o (Ne.symm hL) ho,r⟩
 .refine(I.hok b u e).stay (λc v hc q=>k c v ?_ q) (λ_ q=>q) λ_ _ q=>q;rcases hc with z | z
  .rw[z];exact nit b u e
  .exact nit c _ z
theorem Inv.tok (I:Inv X pins σ H s)(t:Nat):Inv X pins σ H { s with toks:=t }:=I.un (h':=s.heap) (t':=t) Un.refl I.hok
theorem Inv.kept (I:Inv X pins σ H s)(k:∀b u,s.heap.get? b=some u->h'.get? b=some u):Inv X pins σ H { s with heap:=h',toks:=t' }:=I.un (Un.kept k) (I.hok.kept k)
theorem Inv.laid (I:Inv X pins σ H s)(k:∀b u,s.heap.get? b=some u->h'.get? b=some u)(hp:s.heap.objs.size<=a)(new:dP X.prog X.w (upd H a o) h' a o):
  Inv X pins σ (upd H a o) { s with heap:=h',toks:=t' }:=I.un (Un.laid k hp (I.hok.fresh hp)) (I.hok.laid k hp new)
theorem Inv.write (I:Inv X pins σ H s)(mu:Mut (H x))(he:e=x\/H e=some (.own x))(k:∀b u,b≠e->s.heap.get? b=some u->h'.get? b=some u)(heo:∃u,h'.get? e=some u)(new:dP X.prog X.w (upd H x o) h' x o):Inv X pins σ (upd H x o) { s with heap:=h',toks:=t' }:=I.un (Un.write mu he k heo) (I.hok.write mu he k heo new)
theorem Inv.weak (I:Inv X pins σ H s)(hl:σ'.length=σ.length)(w:∀(i:Nat) v,σ'[i]?=some (some v)->σ[i]?=some (some v)):Inv X pins σ' H s:=
 ⟨I.ok,I.os,I.bare,I.base,let ⟨m,hn,hl'⟩:=I.loc;⟨m,hn,λi x v e1 e2 e3=>hl' i x v e1 (w i v e2) e3⟩,I.cell,I.free,I.freeC,I.pin,I.hok,hl.trans I.len⟩
theorem Inv.pins_of (I:Inv X pins σ H s)(h:∀p∈pins',s.heap.get? p.1=some p.2/\H p.1=none/\p.1≠X.env.locals/\p.1∉X.fs/\∀v,p.2.data≠.cell v):Inv X pins' σ H s:=
 ⟨I.ok,I.os,I.bare,I.base,I.loc,I.cell,I.free,I.freeC,λp hp=>(mem_append.mp hp).elim (λz=>I.pin p (mem_append_left _ z)) (h p),I.hok,I.len⟩
theorem vO {N:List Str}(hN:N.Nodup){i j:Nat}(a:N[i]?=some x)(b:N[j]?=some x):i=j:=by
 obtain⟨h1,e1⟩:=List.getElem?_eq_some_iff.mp a;obtain⟨h2,e2⟩:=List.getElem?_eq_some_iff.mp b;exact(getElem_inj hN).mp (e1.trans e2.symm)
theorem zJ (I:Inv X pins σ H s)(hN:X.N.Nodup)(hi:X.N[i]?=some x)(hx:Loc X.env.scope x)(r:cG v u)(h:∀s',Inv X pins (σ.set i (some v)) H s'->(∃a,Heap.SameBut a s.heap s'.heap/\(a=X.env.locals\/X.env.cells.lookup x=some a))->Q .unit s')(hf:X.fn x=true\/X.env.scope.names.lookup x=some .local:=by first | exact .inl rfl | exact .inr rfl | assumption):wpAny M A (storeName X.env x u) Q E s:=by
 obtain⟨m,hn,hl⟩:=id I.loc;have hcls:(X.env.scope.kind == .class || (X.env.scope.kind == .module && X.env.locals != X.env.globals))=false:=by rw[I.ok.kind];rfl
 have hiσ:i < σ.length:=by rw[I.len];exact(List.getElem?_eq_some_iff.mp hi).1
 have cne:=I.cne;have tracked:∀{a:Addr} {h':Heap},(∃o,s.heap.get? a=some o/\H a=none)->Heap.SameBut a s.heap h'->HOk X.prog X.w H h':=λ{a h'} ha hs b ob e=>by
  obtain⟨_,_,hfree⟩:=ha;refine(I.hok b ob e).stay (λc w' hc q=>(hs.2 c ?_).trans q) (λ_ q=>q) λ_ _ q=>q;rintro rfl;rcases hc with rfl | hc
  .rw[hfree] at e;cases e
  .rw[hfree] at hc;cases hc
 rcases hx with hk | hk
 .refine wpAny_storeName_local hk hn (λh' hn' hs=>?_) hcls;obtain⟨oL,_,_,hoL,_⟩:=id hn;refine h _ ⟨I.ok,I.os,I.bare,⟨λb o e n hb hx=>?_,λb o e n hb hx=>?_,I.base.free,λb o e hx=>?_,I.base.tups,I.base.frzs,I.base.tbls⟩,⟨_,hn',λj y v' e1 e2 e3=>?_⟩,λy c e=>?_,I.free,I.freeC,λp hp=>?_,tracked ⟨oL,hoL,I.free⟩ hs,by simpa using I.len⟩ ⟨_,hs,.inl rfl⟩
  .exact(hs.2 b (Nat.ne_of_lt (Nat.lt_of_lt_of_le (Heap.lt_size e) I.ok.above))).trans (I.base.keep b o e n hb hx)
  .obtain⟨sl,e1⟩:=I.base.slot b o e n hb hx;exact⟨sl,(hs.2 b (Nat.ne_of_lt (Nat.lt_of_lt_of_le (Heap.lt_size e) I.ok.above))).trans e1⟩
  .obtain⟨o',e1⟩:=I.base.there b o e hx;exact⟨o',(hs.2 b (Nat.ne_of_lt (Nat.lt_of_lt_of_le (Heap.lt_size e) I.ok.above))).trans e1⟩
  .by_cases hj:j=i
   .subst hj;rw[hi] at e1;cases e1;rw[getElem?_set_self hiσ] at e2
    cases e2
    exact⟨u,r,.inl ⟨hk,⋯⟩⟩
   .rw[getElem?_set_ne (Ne.symm hj)] at e2;obtain⟨u',r',q⟩:=hl j y v' e1 e2 e3;refine⟨u',r',?_⟩;rcases q with ⟨k,e⟩ | ⟨k,c,e,z⟩
    .refine .inl ⟨k,?_⟩;have:y≠x:=λe=>hj (vO hN e1 (e ▸ hi));simp[this,e]
    .exact .inr ⟨k,c,e,z.sameBut hs (cne y c e)⟩
  .obtain⟨w',z⟩:=I.cell y c e;exact⟨w',z.sameBut hs (cne y c e)⟩
  .obtain⟨e,n,ne,nf,d⟩:=I.pin p hp;exact⟨(hs.2 p.1 ne).trans e,n,ne,nf,d⟩
 .have hfn:X.fn x=true:=by
   rcases hf with z | z
   .exact z
   .rw[z] at hk;cases hk
  obtain⟨c,hc⟩:=I.ok.has x (.inl hk);obtain⟨w',z⟩:=I.cell x c hc;refine wpAny_storeName_cell I.ok.kind hk hc z (λh' hc' hs=>?_);obtain⟨oc,hoc,hocd⟩:=id z;refine h { s with heap:=h' } ⟨I.ok,I.os,I.bare,⟨λb o e n hb hx=>?_,λb o e n hb hx=>?_,I.base.free,λb o e hx=>?_,I.base.tups,I.base.frzs,I.base.tbls⟩,⟨m,hn.sameBut hs (Ne.symm (cne x c hc)),λj y v' e1 e2 e3=>?_⟩,λy c' e=>?_,I.free,I.freeC,λp hp=>?_,tracked ⟨oc,hoc,I.freeC x c hc⟩ hs,by simpa using I.len⟩ ⟨c,hs,.inr hc⟩
  .exact(hs.2 b (Nat.ne_of_lt (Nat.lt_of_lt_of_le (Heap.lt_size e) (I.ok.cab x c hfn hc)))).trans (I.base.keep b o e n hb hx)
  .obtain⟨sl,e1⟩:=I.base.slot b o e n hb hx;exact⟨sl,(hs.2 b (Nat.ne_of_lt (Nat.lt_of_lt_of_le (Heap.lt_size e) (I.ok.cab x c hfn hc)))).trans e1⟩
  .obtain⟨o',e1⟩:=I.base.there b o e hx;exact⟨o',(hs.2 b (Nat.ne_of_lt (Nat.lt_of_lt_of_le (Heap.lt_size e) (I.ok.cab x c hfn hc)))).trans e1⟩
  .by_cases hj:j=i
   .subst hj;rw[hi] at e1;cases e1;rw[getElem?_set_self hiσ] at e2
    cases e2
    exact⟨u,r,.inr ⟨.inl hk,c,hc,hc'⟩⟩
   .rw[getElem?_set_ne (Ne.symm hj)] at e2;obtain⟨u',r',q⟩:=hl j y v' e1 e2 e3;refine⟨u',r',?_⟩;rcases q with q | ⟨k,c',e,z'⟩
    .exact .inl q
    .refine .inr ⟨k,c',e,z'.sameBut hs ?_⟩;rintro rfl;exact hj (vO hN e1 (I.ok.inj _ _ _ e hc ▸ hi))
  .by_cases hcc:c'=c
   .subst hcc;exact⟨_,hc'⟩
   .obtain⟨w2,z2⟩:=I.cell y c' e;exact⟨w2,z2.sameBut hs hcc⟩
  .obtain⟨e,n,ne,nf,d⟩:=I.pin p hp;refine⟨(hs.2 p.1 ?_).trans e,n,ne,nf,d⟩;intro q;rw[q,hoc] at e;have q':oc=p.2:=Option.some.inj e;exact d w' (by rw[<- q'];exact hocd)
theorem iU (I:Inv X pins σ H s)(hN:X.N.Nodup)(hi:X.N[i]?=some x)(hx:Loc X.env.scope x)(r:cG v u)(h:∀s',Inv X pins (σ.set i (some v)) H s'->Q .unit s')(hf:X.fn x=true\/X.env.scope.names.lookup x=some .local:=by first | exact .inl rfl | exact .inr rfl | assumption):wpAny M A (storeName X.env x u) Q E s:=
 zJ I hN hi hx r (λs' I' _=>h s' I') hf
theorem Inv.call' (I:Inv X pins σ H s)(ho:s'.os=s.os)(u:Un (frs X.stack) ch H H' s.heap s'.heap)(hok:HOk X.prog X.w H' s'.heap)(hg:AllBare s'.gens)(hch:∀b∈ch,(b∈X.ex\/X.s₀.heap.objs.size<=b)/\b≠X.env.locals/\(∀x c,X.env.cells.lookup x=some c->c≠b)/\∀p∈X.pn++pins,p.1≠b):Inv X pins σ H' s':=by
 obtain⟨h',g',d',t',o'⟩:=s';have e:o'=s.os:=ho;subst e;exact I.call (g':=g') (t':=t') (d':=d') u hok hg hch
end
abbrev XK:=Value->Option Addr->Hp->Prop
abbrev St:=List (Option V)
abbrev VK:=V->Hp->Prop
abbrev TE:=St->Hp->VK->Prop
abbrev TT:=St->Hp->(Bool->Hp->Prop)->Prop
abbrev TA:=St->Hp->(List V->Hp->Prop)->Prop
structure jW where
 nx:St->Hp->Prop
 rt:VK
 bk:St->Hp->Prop:=λ_ _=>False
 ct:St->Hp->Prop:=λ_ _=>False
abbrev TS:=jW->St->Hp->Prop
def EP (X:Cx)(pins:List (Addr × Obj))(σ:St)(Q:VK)(u:Value)(s':Shared):Prop:=∃v H',Inv X pins σ H' s'/\cG v u/\Q v H'
def TP (X:Cx)(pins:List (Addr × Obj))(σ:St)(Q:Bool->Hp->Prop)(b:Bool)(s':Shared):Prop:=∃H',Inv X pins σ H' s'/\Q b H'
def AP (X:Cx)(pins:List (Addr × Obj))(σ:St)(Q:List V->Hp->Prop)(us:List Value)(s':Shared):Prop:=∃vs H',Inv X pins σ H' s'/\cE vs us/\Q vs H'
def SP (X:Cx)(pins:List (Addr × Obj))(D:jW)(f:Flow)(s':Shared):Prop:=
 match f with
 | .next=>∃σ' H',Inv X pins σ' H' s'/\D.nx σ' H'
 | .brk=>∃σ' H',Inv X pins σ' H' s'/\D.bk σ' H'
 | .cont=>∃σ' H',Inv X pins σ' H' s'/\D.ct σ' H'
 | .ret u=>∃v σ' H',Inv X pins σ' H' s'/\cG v u/\D.rt v H'
def PE (X:Cx)(e:Expr)(t:TE):Prop:=
 ∀(pins:List (Addr × Obj)) (s:Shared) (σ:St) (H:Hp) (Q:VK),Inv X pins σ H s->t σ H Q->wpAny (model X.prog X.w) X.A (eval e X.env) (EP X pins σ Q) X.xe s
def PT (X:Cx)(e:Expr)(t:TT):Prop:=
 ∀(pins:List (Addr × Obj)) (s:Shared) (σ:St) (H:Hp) (Q:Bool->Hp->Prop),Inv X pins σ H s->t σ H Q->wpAny (model X.prog X.w) X.A (isTrue e X.env (eval e X.env)) (TP X pins σ Q) X.xe s
def PW (X:Cx)(e:Expr)(t:TT):Prop:=
 ∀(whole:Sem Value) (pins:List (Addr × Obj)) (s:Shared) (σ:St) (H:Hp) (Q:Bool->Hp->Prop),Inv X pins σ H s->t σ H Q->wpAny (model X.prog X.w) X.A (isTrue e X.env whole) (TP X pins σ Q) X.xe s
theorem PW.pt (h:PW X e t):PT X e t:=h _
def PA (X:Cx)(es:List Expr)(t:TA):Prop:=
 ∀(pos:Pos) (pins:List (Addr × Obj)) (s:Shared) (σ:St) (H:Hp) (Q:List V->Hp->Prop),Inv X pins σ H s->t σ H Q->wpAny (model X.prog X.w) X.A (spliced (backTo pos (starEach es X.env))) (AP X pins σ Q) X.xe s
def PS (X:Cx)(st:Stmt)(t:TS):Prop:=
 ∀(pins:List (Addr × Obj)) (s:Shared) (σ:St) (H:Hp) (D:jW),Inv X pins σ H s->t D σ H->wpAny (model X.prog X.w) X.A (exec st X.env) (SP X pins D) X.xe s
def PSs (X:Cx)(st:List Stmt)(t:TS):Prop:=
 ∀(pins:List (Addr × Obj)) (s:Shared) (σ:St) (H:Hp) (D:jW),Inv X pins σ H s->t D σ H->wpAny (model X.prog X.w) X.A (execs st X.env) (SP X pins D) X.xe s
theorem thn (h:wpAny M A t Q E s)(hQ:∀a s,Q a s->Q' a s):wpAny M A t Q' E s:=wpAny_mono h hQ λ_ _ x=>x
section
variable {X:Cx}
inductive Ud (i:Nat) (σ:St) (H:Hp) (Q:VK):Prop where
 |mk (v):σ[i]?=some (some v)->Q v H->Ud i σ H Q
def tC (v:V):TE:=λ_ H Q=>Q v H
theorem Ov (hN:X.N[i]?=some x)(hv:Vis X.env.scope x)(hd:(x == ("__debug__":Str))=false:=by decide)(hcd:(x == ("__classdict__":Str))=false:=by decide):PE X (.Name x pos) (Ud i):=by
 intro pins s σ H Q I h;obtain⟨v,e,h⟩:=h;obtain⟨m,hn,hl⟩:=I.loc;obtain⟨u,r,l⟩:=hl i x v hN e hv;have fin:EP X pins σ Q u s:=⟨v,H,I,r,h⟩
 rcases l with ⟨hk,hm⟩ | ⟨hk,c,hc,hcell⟩
 .exact wpAny_Name (wpAny_loadName_local I.ok.kind hk hn hm fin) hd
 .rcases hk with hk | hk
  .exact wpAny_Name (wpAny_loadName_cell I.ok.kind hk hc hcell fin) hd
  .exact wpAny_Name (wpAny_loadName_free I.ok.kind hk hc hcell fin hcd) hd
theorem aE {i j pos}:PE X (.Constant (.int i) j pos) (tC (.int i)):=λ_ _ _ H _ I h=>wpAny_Constant_int ⟨.int i,H,I.tok _,⟨_,rfl⟩,h⟩
theorem gY {b j pos}:PE X (.Constant (.bool b) j pos) (tC (.bl b)):=λ_ _ _ H _ I h=>Constant_bool ⟨.bl b,H,I,rfl,h⟩
theorem xT {j pos}:PE X (.Constant .none j pos) (tC .non):=λ_ _ _ H _ I h=>Constant_none ⟨.non,H,I,rfl,h⟩
theorem bV {x j pos}:PE X (.Constant (.str x) j pos) (tC (.str x)):=λ_ _ _ H _ I h=>Calls.Constant_str ⟨.str x,H,I.tok _,⟨_,rfl⟩,h⟩
def Gl (X:Cx)(x:Str):Prop:=X.env.kindOf x=some .globalImplicit
theorem qU (I:Inv X pins σ H s)(hg:Gl X x)(hm:X.mg x=some u)(h:Q u s)(hd:(x == ("__debug__":Str))=false:=by decide):wpAny (model X.prog X.w) X.A (eval (.Name x pos) X.env) Q E s:=
 Calls.Name_function_global I.ok.kind hg (Calls.loadGlobal_global (by rw[I.ok.glob];exact I.mod.glob.keeps I.bk) hm h) hd
theorem jR (I:Inv X pins σ H s)(hg:Gl X x)(hm:X.mg x=none)(hv:bootBuiltins x=some u)(h:Q u s)(hn:x≠"__name__":=by decide)(hd:(x == ("__debug__":Str))=false:=by decide):wpAny (model X.prog X.w) X.A (eval (.Name x pos) X.env) Q E s:=by
 obtain⟨mb,h1,h2⟩:=I.mod.blt;exact Calls.Name_function_global I.ok.kind hg (Calls.loadGlobal_builtin (by rw[I.ok.glob];exact I.mod.glob.keeps I.bk) hm (by rw[I.ok.blt];exact h1.keeps I.bk) ((h2 x hn).trans hv) h) hd
theorem cQ (hg:Gl X x)(hm:X.mg x=some u)(r:cG v u)(hd:(x == ("__debug__":Str))=false:=by decide):PE X (.Name x pos) (tC v):=
 λ_ _ _ H _ I h=>qU I hg hm ⟨v,H,I,r,h⟩ hd
theorem Kt (hg:Gl X x)(hm:X.mg x=none)(hv:bootBuiltins x=some u)(r:cG v u)(hn:x≠"__name__":=by decide)(hd:(x == ("__debug__":Str))=false:=by decide):PE X (.Name x pos) (tC v):=
 λ_ _ _ H _ I h=>jR I hg hm hv ⟨v,H,I,r,h⟩ hn hd
variable {a b:Expr} {ta tb:TE} {pos:Pos}
def PC (X:Cx)(op:CmpOp)(a b:Expr)(t:TE):Prop:=
 ∀(pins:List (Addr × Obj)) (s:Shared) (σ:St) (H:Hp) (Q:VK),Inv X pins σ H s->t σ H Q->
  wpAny (model X.prog X.w) X.A (eval a X.env) (λv s₁=>wpAny (model X.prog X.w) X.A (eval b X.env) (λu s₂=>wpAny (model X.prog X.w) X.A (compareOp op v u) (EP X pins σ Q) X.xe s₂) X.xe s₁) X.xe s
theorem Ol (b:Expr)(h:op≠.In)(h2:op≠.NotIn):behindInMarks op b=false:=by
 have e1:(op == CmpOp.In)=false:=by cases op<;>first | rfl | exact absurd rfl h
 have e2:(op == CmpOp.NotIn)=false:=by cases op<;>first | rfl | exact absurd rfl h2
 cases b<;>simp[behindInMarks,e1,e2]
def qt0 (ta:TE):TE:=λσ H Q=>ta σ H λx H1=>Q (.bl (decide (x=.non))) H1
def ql7 (ta:TE):TE:=λσ H Q=>ta σ H λx H1=>Q (.bl (!decide (x=.non))) H1
theorem cG.none_iff (r:cG x v):(v == Value.none)=decide (x=.non):=by
 cases x with
 |non=>cases r;rfl
 |bl _=>cases r;rfl
 |int _=>obtain⟨t,rfl⟩:=r;rfl
 |str _=>obtain⟨t,rfl⟩:=r;rfl
 |byt _=>obtain⟨t,rfl⟩:=r;rfl
 |flt _=>obtain⟨t,rfl⟩:=r;rfl
 |ref _=>cases r;rfl
 |ty _=>cases r;rfl
theorem Iy {j pos'}(ha:PE X a ta):PC X .Is a (.Constant .none j pos') (qt0 ta):=by
 intro pins s σ H Q I h;refine thn (ha pins s σ H _ I h) λv s1 ⟨x,H1,I1,r1,q1⟩=>?_;exact Constant_none (is_none_gen ⟨.bl _,H1,I1,by rw[r1.none_iff];rfl,q1⟩)
theorem Xj {j pos'}(ha:PE X a ta):PC X .IsNot a (.Constant .none j pos') (ql7 ta):=by
 intro pins s σ H Q I h;refine thn (ha pins s σ H _ I h) λv s1 ⟨x,H1,I1,r1,q1⟩=>?_;exact Constant_none (isnot_none_gen ⟨.bl _,H1,I1,by rw[r1.none_iff];rfl,q1⟩)
inductive BlT (x:V) (q:Bool->Prop):Prop where
 |mk (c:Bool) (_:x=.bl c) (_:q c):BlT x q
def tB (t:TE):TT:=λσ H Q=>t σ H λx H1=>BlT x λc=>Q c H1
theorem wT (h:PC X op a b t)(h1:behindInMarks op b=false:=by first | exact Ol _ ∅ ∅ | rfl):PT X (.Compare a [op] [b] pos) (tB t):=by
 intro pins s σ H Q I hw;refine wpAny_isTrue_Compare1 (thn (h pins s σ H _ I hw) λv s1 h1=>thn h1 λu s2 h2=>thn h2 λc s3 ⟨x,H1,I1,r1,q1⟩=>?_) h1;obtain⟨d,rfl,q⟩:=q1
 cases r1
 exact wpAny_truthy_bool ⟨H1,I1,q⟩
theorem dQ (h:PE X e t)(he:∀whole,isTrue e X.env whole=(do let v <- whole;standAt e.pos;holding [v] (truthy v)):=by intro _;rfl):PT X e (tB t):=by
 intro pins s σ H Q I hw;refine isTrue_plain (thn (h pins s σ H _ I hw) λv s1 ⟨x,H1,I1,r1,q1⟩=>?_) (he _);obtain⟨d,rfl,q⟩:=q1
 cases r1
 exact wpAny_truthy_bool ⟨H1,I1,q⟩
variable {tA tB':TT} {rest:List Expr}
def qr8 (t u:TT):TT:=λσ H Q=>t σ H λc H1=>if c=true then u σ H1 Q else Q false H1
def tOr (t u:TT):TT:=λσ H Q=>t σ H λc H1=>if c=true then Q true H1 else u σ H1 Q
def qr6 (t:TT):TT:=λσ H Q=>t σ H λc H1=>Q (!c) H1
theorem nQ (ha:PT X a tA):PW X (.BoolOp .And [a] pos) tA:=by
 intro wh pins s σ H Q I h;refine isTrue_and (thn (ha pins s σ H Q I h) λc s1 e=>?_)
 cases c with
 |true=>exact isTrue_and_nil e
 |false=>exact e
theorem jT (ha:PT X a tA):PW X (.BoolOp .Or [a] pos) tA:=by
 intro wh pins s σ H Q I h;refine isTrue_or (thn (ha pins s σ H Q I h) λc s1 e=>?_)
 cases c with
 |false=>exact isTrue_or_nil e
 |true=>exact e
theorem rT (ha:PT X a tA)(hb:PW X (.BoolOp .And (b :: rest) pos) tB'):PW X (.BoolOp .And (a :: b :: rest) pos) (qr8 tA tB'):=by
 intro wh pins s σ H Q I h;refine isTrue_and (thn (ha pins s σ H _ I h) λc s1 ⟨H1,I1,q1⟩=>?_)
 cases c with
 |true=>exact hb wh pins s1 σ H1 Q I1 q1
 |false=>exact⟨H1,I1,q1⟩
theorem kY (ha:PT X a tA)(hb:PW X (.BoolOp .Or (b :: rest) pos) tB'):PW X (.BoolOp .Or (a :: b :: rest) pos) (tOr tA tB'):=by
 intro wh pins s σ H Q I h;refine isTrue_or (thn (ha pins s σ H _ I h) λc s1 ⟨H1,I1,q1⟩=>?_)
 cases c with
 |true=>exact⟨H1,I1,q1⟩
 |false=>exact hb wh pins s1 σ H1 Q I1 q1
theorem fY (ha:PT X a tA):PT X (.UnaryOp .Not a pos) (qr6 tA):=by
 intro pins s σ H Q I h;exact isTrue_not (ha pins s σ H (λc H1=>Q (!c) H1) I h)
def qo8 (ta tb:TE):TE:=λσ H Q=>ta σ H λx H1=>BlT x λc=>if c=true then tb σ H1 Q else Q (.bl false) H1
def ql8 (ta:TE):TE:=λσ H Q=>ta σ H λx H1=>BlT x λc=>Q (.bl (!c)) H1
theorem xG {op}(h:PE X a t):PE X (.BoolOp op [a] pos) t:=λpins s σ H Q I hw=>BoolOp_one (h pins s σ H Q I hw)
theorem tD (ha:PE X a ta)(hb:PE X (.BoolOp .And (b :: rest) pos) tb):PE X (.BoolOp .And (a :: b :: rest) pos) (qo8 ta tb):=by
 intro pins s σ H Q I h;refine BoolOp_and (thn (ha pins s σ H _ I h) λv s1 ⟨x,H1,I1,r1,q1⟩=>?_);obtain⟨c,rfl,q1⟩:=q1
 cases r1
 refine wpAny_truthy_bool ?_
 cases c with
 |true=>exact hb pins s1 σ H1 Q I1 q1
 |false=>exact⟨.bl false,H1,I1,rfl,q1⟩
theorem qk3 (ha:PE X a ta):PE X (.UnaryOp .Not a pos) (ql8 ta):=by
 intro pins s σ H Q I h;refine UnaryOp_ (thn (ha pins s σ H _ I h) λv s1 ⟨x,H1,I1,r1,q1⟩=>?_);obtain⟨c,rfl,q1⟩:=q1
 cases r1
 exact not_of (wpAny_truthy_bool ⟨.bl (!c),H1,I1,rfl,q1⟩)
def tIf (t:TT)(ta tb:TE):TE:=λσ H Q=>t σ H λc H1=>if c=true then ta σ H1 Q else tb σ H1 Q
theorem qJ (hc:PT X c tA)(ha:PE X a ta)(hb:PE X b tb):PE X (.IfExp c a b pos) (tIf tA ta tb):=by
 intro pins s σ H Q I h;refine wpAny_IfExp (thn (hc pins s σ H _ I h) λd s1 ⟨H1,I1,q1⟩=>?_)
 cases d with
 |true=>exact ha pins s1 σ H1 Q I1 q1
 |false=>exact hb pins s1 σ H1 Q I1 q1
end
def SqL (K:Frag)(H:Hp)(a:Addr)(xs:List V):Prop:=
 Rd H a (.lst xs)\/
  ∃(o:Obj) (its:Array Value) (n:Nat),K.lookup a=some o/\o.cls=.type "list"/\o.dict=none/\o.data=.seq its n/\its.size<=sizeLine/\cE xs its.toList
def SqT (K:Frag)(H:Hp)(a:Addr)(xs:List V):Prop:=
 Rd H a (.tup xs)\/
  ∃(o:Obj) (its:Array Value) (n:Nat),K.lookup a=some o/\o.cls=.type "tuple"/\o.data=.seq its n/\its.size<=sizeLine/\cE xs its.toList
def qu0:Value->Option V
 | .none=>some .non
 | .bool b=>some (.bl b)
 | .int i _=>some (.int i)
 | .str x _=>some (.str x)
 | .bytes b _=>some (.byt b)
 | .float b _=>some (.flt b)
 | .ref a=>some (.ref a)
 | .type n=>some (.ty n)
 |_=>none
theorem cG.abs (r:cG x u):qu0 u=some x:=by
 cases x with
 |non=>cases r;rfl
 |bl _=>cases r;rfl
 |int _=>obtain⟨t,rfl⟩:=r;rfl
 |str _=>obtain⟨t,rfl⟩:=r;rfl
 |byt _=>obtain⟨t,rfl⟩:=r;rfl
 |flt _=>obtain⟨t,rfl⟩:=r;rfl
 |ref _=>cases r;rfl
 |ty _=>cases r;rfl
theorem cG.inj (r:cG x u)(q:cG y u):x=y:=Option.some.inj (r.abs.symm.trans q.abs)
theorem cE.inj:∀{xs ys:List V} {us:List Value},cE xs us->cE ys us->xs=ys
 |_,_,_,.nil,.nil=>rfl
 |_,_,_,.cons r t,.cons r' t'=>by rw[r.inj r',cE.inj t t']
section
variable {X:Cx} {pins:List (Addr × Obj)} {σ:St} {H:Hp} {s:Shared} {a:Addr} {xs ys:List V}
theorem SqL.of {K:Frag}(h:H a=some (.lst xs)):SqL K H a xs:=.inl (.inl h)
theorem SqT.of {K:Frag}(h:H a=some (.tup xs)):SqT K H a xs:=.inl (.inl h)
theorem Inv.list (I:Inv X pins σ H s)(h:SqL X.K H a xs):∃its:List Value,cE xs its/\PlainL s.heap a its.toArray/\xs.length<=sizeLine:=by
 rcases h with h | ⟨o,its,n,hk,hc,hd,hs,hz,r⟩
 .obtain⟨z,its,n,r,e⟩:=h.ok I.hok;exact⟨its,r,⟨_,n,e,rfl,rfl,rfl⟩,z⟩
 .refine⟨its.toList,r,⟨o,n,I.kIn a o hk,hc,hd,by simpa using hs⟩,?_⟩;have e:=r.length;simp only[Array.length_toList] at e;lia
theorem Inv.tuple (I:Inv X pins σ H s)(h:SqT X.K H a xs):∃its:List Value,cE xs its/\IsTup s.heap a its.toArray/\xs.length<=sizeLine:=by
 rcases h with h | ⟨o,its,n,hk,hc,hs,hz,r⟩
 .obtain⟨z,its,r,p⟩:=h.ok I.hok;exact⟨its,r,p,z⟩
 .refine⟨its.toList,r,⟨o,I.kIn a o hk,hc,n,by simpa using hs⟩,?_⟩;have e:=r.length;simp only[Array.length_toList] at e;lia
theorem Inv.list_inj (I:Inv X pins σ H s)(h:SqL X.K H a xs)(h':SqL X.K H a ys):xs=ys:=by
 obtain⟨its,r,⟨o,n,e,_,_,d⟩,_⟩:=I.list h;obtain⟨its',r',⟨o',n',e',_,_,d'⟩,_⟩:=I.list h';rw[e] at e';cases e';rw[d] at d';injection d' with d1 _
 have:its=its':=by simpa using congrArg Array.toList d1
 subst this;exact r.inj r'
theorem Inv.tuple_inj (I:Inv X pins σ H s)(h:SqT X.K H a xs)(h':SqT X.K H a ys):xs=ys:=by
 obtain⟨its,r,⟨o,e,_,n,d⟩,_⟩:=I.tuple h;obtain⟨its',r',⟨o',e',_,n',d'⟩,_⟩:=I.tuple h';rw[e] at e';cases e';rw[d] at d';injection d' with d1 _
 have:its=its':=by simpa using congrArg Array.toList d1
 subst this;exact r.inj r'
end
abbrev Cx.wish (X:Cx)(E:Value->Shared->Prop):Cx:={ X with xe:=E }
abbrev Cx.nox (X:Cx):Cx:=X.wish λ_ _=>False
theorem Cx.Ok.wish {X:Cx}(ok:X.Ok)(E:Value->Shared->Prop):(X.wish E).Ok:=
 ⟨ok.mod,ok.kind,ok.glob,ok.blt,ok.above,ok.inj,ok.has,ok.cab,ok.hd,ok.frames,ok.stk,ok.exf,ok.bs,ok.bsz,ok.noex,ok.exfs,ok.funs,ok.frf⟩
theorem Cx.Ok.unwish {X:Cx}(ok:(X.wish E).Ok):X.Ok:=
 ⟨ok.mod,ok.kind,ok.glob,ok.blt,ok.above,ok.inj,ok.has,ok.cab,ok.hd,ok.frames,ok.stk,ok.exf,ok.bs,ok.bsz,ok.noex,ok.exfs,ok.funs,ok.frf⟩
section
variable {X:Cx} {pins:List (Addr × Obj)} {σ:St} {H:Hp} {s:Shared} {E:Value->Shared->Prop}
theorem Inv.wish (I:Inv X pins σ H s)(E:Value->Shared->Prop):Inv (X.wish E) pins σ H s:=⟨I.ok.wish E,I.os,I.bare,I.base,I.loc,I.cell,I.free,I.freeC,I.pin,I.hok,I.len⟩
theorem Inv.unwish (I:Inv (X.wish E) pins σ H s):Inv X pins σ H s:=⟨I.ok.unwish,I.os,I.bare,I.base,I.loc,I.cell,I.free,I.freeC,I.pin,I.hok,I.len⟩
theorem SP.unwish (h:SP (X.wish E) pins D f s'):SP X pins D f s':=by
 cases f with
 |next=>obtain⟨σ',H',I,q⟩:=h;exact⟨σ',H',I.unwish,q⟩
 |brk=>obtain⟨σ',H',I,q⟩:=h;exact⟨σ',H',I.unwish,q⟩
 |cont=>obtain⟨σ',H',I,q⟩:=h;exact⟨σ',H',I.unwish,q⟩
 |ret u=>obtain⟨v,σ',H',I,r,q⟩:=h;exact⟨v,σ',H',I.unwish,r,q⟩
theorem PSs.nox {st:List Stmt}(h:PSs X.nox st t):PSs X st t:=λpins s σ H D I hw=>
 wpAny_mono (h pins s σ H D (I.wish _) hw) (λ_ _ q=>q.unwish) λ_ _ z=>False.elim z
end
section
variable {X:Cx} {st:Stmt} {rest:List Stmt} {t u:TS} {e:Expr} {te:TE} {pos:Pos}
def qo4:TS:=λD σ H=>D.nx σ H
def jL (t u:TS):TS:=λD σ H=>t { D with nx:=u D } σ H
theorem bF:PSs X [] qo4:=λ_ _ σ H _ I h=>wpAny_execs_nil ⟨σ,H,I,h⟩
theorem aD (h1:PS X st t)(h2:PSs X rest u):PSs X (st :: rest) (jL t u):=by
 intro pins s σ H D I h;refine wpAny_execs_cons (thn (h1 pins s σ H { D with nx:=u D } I h) λf s1 q=>?_)
 cases f with
 |next=>
  obtain⟨σ',H',I',q⟩:=q;exact h2 pins s1 σ' H' D I' q
 |ret v=>exact q
 |brk=>exact q
 |cont=>exact q
theorem aG (h1:PS X st t):PSs X [st] t:=by
 intro pins s σ H D I h;refine wpAny_execs_cons (thn (h1 pins s σ H D I h) λf s1 q=>?_)
 cases f with
 |next=>exact wpAny_execs_nil q
 |ret v=>exact q
 |brk=>exact q
 |cont=>exact q
def qq4:TS:=λD σ H=>D.ct σ H
theorem Db:PS X (.Continue pos) qq4:=λ_ _ σ H _ I h=>wpAny_Continue ⟨σ,H,I,h⟩
theorem Inv.quiet (I:Inv X pins σ H s):interactive X.env=false:=by simp[interactive,I.ok.kind]
def qo6 (te:TE):TS:=λD σ H=>te σ H λ_ H1=>D.nx σ H1
theorem bZ (he:PE X e te)(hs:swapsWith e none pos.line X.env=pure false:=by rfl):PS X (.Expr e pos) (qo6 te):=by
 intro pins s σ H D I h;exact wpAny_Expr_any (thn (he pins s σ H _ I h) λv s1 ⟨x,H1,I1,r1,q1⟩=>⟨σ,H1,I1,q1⟩) I.quiet hs
def qt4 (te:TE):TS:=λD σ H=>te σ H D.rt
theorem aT (he:PE X e te):PS X (.Return (some e) pos) (qt4 te):=by
 intro pins s σ H D I h;exact wpAny_Return_some (thn (he pins s σ H _ I h) λv s1 ⟨x,H1,I1,r1,q1⟩=>⟨x,σ,H1,I1,r1,q1⟩)
def qu3 (c:TT)(t u:TS):TS:=λD σ H=>c σ H λb H1=>if b=true then t D σ H1 else u D σ H1
theorem cC (hc:PT X c tc)(ha:PSs X a t)(hb:PSs X b u):PS X (.If c a b pos) (qu3 tc t u):=by
 intro pins s σ H D I h;refine wpAny_If (thn (hc pins s σ H _ I h) λd s1 ⟨H1,I1,q1⟩=>?_)
 cases d with
 |true=>exact ha pins s1 σ H1 D I1 q1
 |false=>exact hb pins s1 σ H1 D I1 q1
def Pf:TS:=λ_ _ _=>False
theorem gW:PS X st Pf:=λ_ _ _ _ _ _ h=>h.elim
theorem Me:PSs X sts Pf:=λ_ _ _ _ _ _ h=>h.elim
end
abbrev TG:=V->St->Hp->(St->Hp->Prop)->Prop
abbrev TGs:=List V->St->Hp->(St->Hp->Prop)->Prop
def PG (X:Cx)(target:Expr)(t:TG):Prop:=
 ∀(pins:List (Addr × Obj)) (s:Shared) (σ:St) (H:Hp) (v:V) (u:Value) (Q:St->Hp->Prop),Inv X pins σ H s->cG v u->t v σ H Q->
  wpAny (model X.prog X.w) X.A (assign target X.env u) (λ_ s'=>∃σ' H',Inv X pins σ' H' s'/\Q σ' H') X.xe s
def PGs (X:Cx)(ts:List Expr)(t:TGs):Prop:=
 ∀(pins:List (Addr × Obj)) (s:Shared) (σ:St) (H:Hp) (vs:List V) (us:List Value) (Q:St->Hp->Prop),Inv X pins σ H s->cE vs us->t vs σ H Q->
  wpAny (model X.prog X.w) X.A (assignInOrder ((assignEach ts X.env).map (·.2)) us) (λ_ s'=>∃σ' H',Inv X pins σ' H' s'/\Q σ' H') X.xe s
abbrev qf8:=V->V->V->Hp->(Hp->Prop)->Prop
def qn4 (X:Cx)(t:qf8):Prop:=
 ∀(pins:List (Addr × Obj)) (s:Shared) (σ:St) (H:Hp) (o i v:V) (ov iv u:Value) (Q:Hp->Prop),Inv X pins σ H s->cG o ov->cG i iv->cG v u->t o i v H Q->
  wpAny (model X.prog X.w) X.A (setItem ov iv u) (λ_ s'=>∃H',Inv X pins σ H' s'/\Q H') X.xe s
abbrev TIp:=V->V->Hp->VK->Prop
def PIp (X:Cx)(op:Operator)(t:TIp):Prop:=
 ∀(pins:List (Addr × Obj)) (s:Shared) (σ:St) (H:Hp) (x y:V) (v u:Value) (Q:VK),Inv X pins σ H s->cG x v->cG y u->t x y H Q->
  wpAny (model X.prog X.w) X.A (inplaceOp op v u) (EP X pins σ Q) X.xe s
section
variable {X:Cx} {pos:Pos}
def jJ (i:Nat):TG:=λv σ H Q=>Q (σ.set i (some v)) H
theorem bU (hN:X.N.Nodup)(hi:X.N[i]?=some x)(hx:Loc X.env.scope x)(hf:X.fn x=true\/X.env.scope.names.lookup x=some .local:=by first | exact .inl rfl | exact .inr rfl | assumption):PG X (.Name x pos) (jJ i):=by
 intro pins s σ H v u Q I r h;exact wpAny_assign_Name (iU I hN hi hx r (λs' I'=>⟨_,H,I',h⟩) hf)
theorem qQ1 (hN:X.N.Nodup)(hi:X.N[i]?=some x:=by rfl)(hx:Loc X.env.scope x:=by exact .inl rfl)(hf:X.fn x=true\/X.env.scope.names.lookup x=some .local:=by first | exact .inl rfl | exact .inr rfl | assumption):PG X (.Name x pos) (jJ i):=bU hN hi hx hf
def Hd:TGs:=λvs σ H Q=>vs=[]/\Q σ H
def kA (t:TG)(u:TGs):TGs:=λvs σ H Q=>∃v r,vs=v :: r/\t v σ H λσ' H'=>u r σ' H' Q
theorem iO:PGs X [] Hd:=by
 intro pins s σ H vs us Q I r h;obtain⟨e,h⟩:=h;subst e
 cases r
 exact assignInOrder_nil ⟨σ,H,I,h⟩
theorem dC (h1:PG X e t)(h2:PGs X es u)(hs:(assignEach (e :: es) X.env).map (·.2)=assign e X.env :: (assignEach es X.env).map (·.2):=by rfl):PGs X (e :: es) (kA t u):=by
 intro pins s σ H vs us Q I r h;obtain⟨v,vr,e1,h⟩:=h;subst e1
 cases r with
 |cons r rr=>
  rw[hs];refine assignInOrder_cons (thn (h1 pins s σ H _ _ _ I r h) λ_ s1 ⟨σ1,H1,I1,q1⟩=>?_);exact h2 pins s1 σ1 H1 _ _ Q I1 rr q1
def Fi (K:Frag)(n:Nat)(t:TGs):TG:=λv σ H Q=>∃a xs,v=.ref a/\SqT K H a xs/\xs.length=n/\t xs σ H Q
theorem kP (hc:X.calm=true)(h:PGs X es t)(hn:(assignEach es X.env).length=n:=by rfl)(hst:(assignEach es X.env).findIdx? (·.1)=none:=by rfl):PG X (.Tuple es k pos) (Fi X.K n t):=by
 intro pins s σ H v u Q I r hw;obtain⟨a,xs,e1,hq,hl,hw⟩:=hw;subst e1
 cases r
 obtain⟨its,rv,ht,hz⟩:=I.tuple hq;refine assign_Tuple_tuple (I.ok.hd hc) ht (by simp[hn,<- hl,rv.length]) hst λh' hx=>?_;have I1:Inv X pins σ H { s with heap:=h' }:=I.kept (t':=s.toks) λb o e=>hx b o (Nat.ne_of_lt (Heap.lt_size e)) e;exact h pins _ σ H xs _ Q I1 (by simpa using rv) hw
def qu1 (to ti:TE)(t:qf8):TG:=λv σ H Q=>to σ H λo H1=>ti σ H1 λi H2=>t o i v H2 λH3=>Q σ H3
theorem pD (ho:PE X o to)(hi:PE X i ti)(hs:qn4 X t)(ha:∀v,assign (.Subscript o i pos) X.env v=(do
   let ov <- holding [v] (eval o X.env)
   let iv <- holding [v,ov] (eval i X.env)
   standAt pos
   holding [v,ov,iv] (setItem ov iv v)
   release [v,ov,iv] []):=by intro _;rfl):PG X (.Subscript o i pos) (qu1 to ti t):=by
 intro pins s σ H v u Q I r h;rw[ha];refine wpAny_bind (wpAny_holding (thn (ho pins s σ H _ I h) λov s1 ⟨x,H1,I1,r1,q1⟩=>?_));refine wpAny_bind (wpAny_holding (thn (hi pins s1 σ H1 _ I1 q1) λiv s2 ⟨y,H2,I2,r2,q2⟩=>?_));refine wpAny_bind (wpAny_standAt (wpAny_bind (wpAny_holding (thn (hs pins s2 σ H2 x y v ov iv u _ I2 r1 r2 r q2) λ_ s3 ⟨H3,I3,q3⟩=>?_))));exact wpAny_release ⟨σ,H3,I3,q3⟩
def Zf (te:TE)(g:TG):TS:=λD σ H=>te σ H λx H1=>g x σ H1 D.nx
theorem mH (he:PE X e te)(hg:PG X tg g)(hs:swapsWithSole [tg] e pos.line X.env=pure false:=by rfl)(hw:swappedStores [tg] e X.env=pure none:=by rfl)(h1:(assignEach [tg] X.env).map (·.2)=[assign tg X.env]:=by rfl):PS X (.Assign [tg] e pos) (Zf te g):=by
 intro pins s σ H D I h;refine wpAny_Assign_stores (thn (he pins s σ H _ I h) λv s1 ⟨x,H1,I1,r1,q1⟩=>?_) hs hw;rw[h1];exact thn (hg pins s1 σ H1 x v _ I1 r1 q1) λ_ s2 q=>q
theorem aS (hN:X.N.Nodup)(hi:X.N[i]?=some x)(hx:Loc X.env.scope x)(he:PE X e te)(hs:swapsWith e (some (.Name x pos')) pos.line X.env=pure false:=by rfl)(hf:X.fn x=true\/X.env.scope.names.lookup x=some .local:=by first | exact .inl rfl | exact .inr rfl | assumption):
  PS X (.Assign [.Name x pos'] e pos) (Zf te (jJ i)):=by
 intro pins s σ H D I h;refine wpAny_Assign_Name (thn (he pins s σ H _ I h) λv s1 ⟨y,H1,I1,r1,q1⟩=>?_) hs;exact iU I1 hN hi hx r1 (λs2 I2=>⟨_,H1,I2,q1⟩) hf
theorem qQ0 (hN:X.N.Nodup)(he:PE X e te)(hi:X.N[i]?=some x:=by rfl)(hx:Loc X.env.scope x:=by exact .inl rfl)(hs:swapsWith e (some (.Name x pos')) pos.line X.env=pure false:=by rfl)(hf:X.fn x=true\/X.env.scope.names.lookup x=some .local:=by first | exact .inl rfl | exact .inr rfl | assumption):
  PS X (.Assign [.Name x pos'] e pos) (Zf te (jJ i)):=aS hN hi hx he hs hf
inductive Yx (i j:Nat) (D:jW) (σ:St) (vs:List V) (H1:Hp):Prop where
 |mk (v w):vs=[v,w]->D.nx ((σ.set i (some v)).set j (some w)) H1->Yx i j D σ vs H1
def qu6 (i j:Nat)(ta:TA):TS:=λD σ H=>ta σ H λvs H1=>Yx i j D σ vs H1
theorem Rh {kt k2 pt2}(hc:X.calm=true)(hN:X.N.Nodup)(hi:X.N[i]?=some x)(hj:X.N[j]?=some y)(hij:i≠j)(hx:X.env.scope.names.lookup x=some .local)(hy:X.env.scope.names.lookup y=some .local)(ha:PA X [a,b] ta)(hw:swappedStores [.Tuple [.Name x px,.Name y py] kt pt] (.Tuple [a,b] k2 pt2) X.env=pure (some [x,y]))(hs:swapsWithSole [.Tuple [.Name x px,.Name y py] kt pt] (.Tuple [a,b] k2 pt2) pos.line X.env=pure false:=by rfl):
  PS X (.Assign [.Tuple [.Name x px,.Name y py] kt pt] (.Tuple [a,b] k2 pt2) pos) (qu6 i j ta):=by
 intro pins s σ H D I h;rw[exec_Assign_arm];refine wpAny_bind (wpAny_standAt ?_);rw[hs];refine wpAny_bind (wpAny_pure ?_);rw[if_neg ∅];refine wpAny_bind (Tuple_ (thn (ha _ pins s σ H _ I h) λus s1 ⟨vs,H1,I1,r1,q1⟩=>?_));obtain⟨v,w,e1,q1⟩:=q1;subst e1;obtain⟨u1,u2,rfl,rv,rw'⟩:∃u1 u2,us=[u1,u2]/\cG v u1/\cG w u2:=by
  cases r1 with
  |cons p q=>
   cases q with
   |cons p' q'=>
    cases q'
    exact⟨_,_,rfl,p,p'⟩
 refine wpAny_newObj_type ?_ (by show 2<=sizeLine;decide);have I2:Inv X pins σ H1 { s1 with heap:=s1.heap.push { cls:=.type "tuple",data:=.seq [u1,u2].toArray } }:=I1.kept (t':=s1.toks) λb o e=>Heap.get?_push_of_some _ e;rw[hw];refine wpAny_bind (wpAny_pure ?_);show wpAny (model X.prog X.w) X.A (do rule "assign.swapped-stores";let items <- unpackItems (.ref s1.heap.objs.size) 2 none;assignInOrder [λv=>bindName X.env y v,λv=>bindName X.env x v] items.reverse;pure Flow.next) _ _ _;refine wpAny_bind (wpAny_rule (wpAny_bind (unpackItems_tuple (items:=#[u1,u2]) (I.ok.hd hc) (IsTup.new s1.heap _) λh' hx'=>?_)));have I3:=I2.kept (h':=h') (t':=s1.toks) λb o e=>hx' b o (Nat.ne_of_lt (Heap.lt_size e)) e;show wpAny _ _ (assignInOrder [λv=>bindName X.env y v,λv=>bindName X.env x v] [u2,u1] >>= λ_=>pure Flow.next) _ _ _;refine wpAny_bind (assignInOrder_cons (wpAny_bindName (iU I3 hN hj (.inl hy) rw' (λs2 I4=>?_) (.inr hy))));refine assignInOrder_cons (wpAny_bindName (iU I4 hN hi (.inl hx) rv (λs3 I5=>assignInOrder_nil (wpAny_pure ?_)) (.inr hx)));rw[set_comm _ _ (Ne.symm hij)] at I5;exact⟨_,H1,I5,q1⟩
def qr5 (i:Nat)(te:TE)(ti:TIp):TS:=λD σ H=>∃x,σ[i]?=some (some x)/\te σ H λy H1=>ti x y H1 λz H2=>D.nx (σ.set i (some z)) H2
theorem Ib (hN:X.N.Nodup)(hi:X.N[i]?=some x)(hx:Loc X.env.scope x)(he:PE X e te)(ho:PIp X op ti)(hf:X.fn x=true\/X.env.scope.names.lookup x=some .local:=by first | exact .inl rfl | exact .inr rfl | assumption):
  PS X (.AugAssign (.Name x pos') op e pos) (qr5 i te ti):=by
 intro pins s σ H D I h;obtain⟨v,e1,h⟩:=h;obtain⟨m,hn,hl⟩:=I.loc;have vis:Vis X.env.scope x:=by rcases hx with k | k;exact .inl k;exact .inr (.inl k)
 obtain⟨u,r,l⟩:=hl i x v hi e1 vis;refine wpAny_AugAssign_Name ?_;have go:wpAny (model X.prog X.w) X.A (eval e X.env) (λw s₂=>wpAny (model X.prog X.w) X.A (inplaceOp op u w) (λr s₃=>wpAny (model X.prog X.w) X.A (storeName X.env x r) (λ_=>SP X pins D .next) X.xe s₃) X.xe s₂) X.xe s:=by
  refine thn (he pins s σ H _ I h) λw s1 ⟨y,H1,I1,r1,q1⟩=>?_;refine thn (ho pins s1 σ H1 v y u w _ I1 r r1 q1) λz s2 ⟨zv,H2,I2,r2,q2⟩=>?_;exact iU I2 hN hi hx r2 (λs3 I3=>⟨_,H2,I3,q2⟩) hf
 rcases l with ⟨hk,hm⟩ | ⟨hk,c,hc,hcell⟩
 .exact wpAny_loadName_local I.ok.kind hk hn hm go
 .rcases hk with hk | hk
  .exact wpAny_loadName_cell I.ok.kind hk hc hcell go
  .rcases hx with k | k
   .have:X.env.scope.names.lookup x=some .free:=hk;rw[k] at this;cases this
   .have:X.env.scope.names.lookup x=some .free:=hk;rw[k] at this;cases this
def ipI (f:Int->Int->Int):TIp:=λx y H Q=>∃i j,x=.int i/\y=.int j/\Q (.int (f i j)) H
theorem Iq:PIp X .Add (ipI λi j=>i+j):=by
 intro pins s σ H x y v u Q I r1 r2 h;obtain⟨i,j,e1,e2,q⟩:=h;subst e1;subst e2;obtain⟨t,rfl⟩:=r1;obtain⟨t',rfl⟩:=r2;exact iadd_int ⟨.int _,H,I.tok _,⟨_,rfl⟩,q⟩
def Qb (c:TT)(tb:TS):TS:=λD σ H=>∃W:Nat->St->Hp->Prop,(∃m,W m σ H)/\∀m σ H,W m σ H->
 c σ H λb H1=>if b=true then ∃N:St->Hp->Prop,(∀σ' H',N σ' H'->∃m',m' < m/\W m' σ' H')/\tb { D with nx:=N,ct:=N,bk:=D.nx } σ H1 else D.nx σ H1
theorem xS (hp:PassesOwn (model X.prog X.w) X.A X.env X.xe)(hc:PT X c tc)(hb:PSs X body tb):PS X (.While c body [] pos) (Qb tc tb):=by
 intro pins s σ H D I h;obtain⟨W,⟨m0,w0⟩,turn⟩:=h;refine wpAny_While (codeAny_whileLoop (λn s'=>∃σ' H',Inv X pins σ' H' s'/\W n σ' H') ?_ m0 ⟨σ,H,I,w0⟩);rintro n s1 ⟨σ1,H1,I1,w1⟩;refine wpAny_passesOwn hp (thn (hc pins s1 σ1 H1 _ I1 (turn n σ1 H1 w1)) λb s2 ⟨H2,I2,q2⟩=>?_)
 cases b with
 |true=>
  obtain⟨N,hN,q2⟩:=q2;rw[if_pos rfl];refine wpAny_passesOwn hp (thn (hb pins s2 σ1 H2 _ I2 q2) λf s3 q3=>?_)
  cases f with
  |next=>
   obtain⟨σ3,H3,I3,n3⟩:=q3;obtain⟨m',hm,w3⟩:=hN σ3 H3 n3;exact⟨m',hm,σ3,H3,I3,w3⟩
  |cont=>
   obtain⟨σ3,H3,I3,n3⟩:=q3;obtain⟨m',hm,w3⟩:=hN σ3 H3 n3;exact⟨m',hm,σ3,H3,I3,w3⟩
  |brk=>exact q3
  |ret v=>exact q3
 |false=>
  rw[if_neg Bool.false_ne_true];exact wpAny_execs_nil ⟨σ1,H2,I2,q2⟩
end
structure It where
 go:Nat->Hp->Prop
 yld:Nat->Hp->V->Hp->Prop
 stop:Nat->Hp->Prop
def oQ (X:Cx)(pins:List (Addr × Obj))(H:Hp)(b:Addr):Prop:=
 H b=none/\b≠X.env.locals/\b∉X.fs/\(b∈X.ex\/X.s₀.heap.objs.size<=b)/\(∀x c,X.env.cells.lookup x=some c->c≠b)/\∀p∈X.pn++pins,p.1≠b
theorem Inv.fpOk (I:Inv X pins σ H s)(hb:s.heap.objs.size<=b)(hn:H' b=none):oQ X pins H' b:=by
 refine⟨hn,Nat.ne_of_gt (Nat.lt_of_lt_of_le I.lt hb),I.nofs hb,.inr (Nat.le_trans I.sz hb),λx c e z=>?_,λp hp z=>?_⟩
 .obtain⟨v,q⟩:=I.cell x c e;exact absurd (Nat.lt_of_lt_of_le q.lt (by rw[z];exact hb)) (Nat.lt_irrefl _)
 .exact absurd (Nat.lt_of_lt_of_le (Heap.lt_size (I.pin p hp).1) (by rw[z];exact hb)) (Nat.lt_irrefl _)
structure Nm (P:Program) (w:World) (K:Frag) (tg:Expr) (J:It) (fp:List Addr) (it:Addr) (tn:Nat->Heap->Prop):Prop where
 mem:it∈fp
 obj:∀i h,tn i h->∀b∈fp,∃o,h.get? b=some o/\∀v,o.data≠.cell v
 keep:∀i h h',tn i h->(∀b∈fp,∀o,h.get? b=some o->h'.get? b=some o)->tn i h'
 item:∀(X:Cx),X.prog=P->X.w=w->X.K=K->X.calm=true->∀(i:Nat) (pins:List (Addr × Obj)) (s:Shared) (σ:St) (H:Hp) (E:Value->Shared->Prop),Inv X pins σ H s->(∀b∈fp,oQ X pins H b)->tn i s.heap->J.go i H->
  wpAny (model P w) X.A (pyNext (.ref it)) (λr s1=>∃u,r=some u/\
   wpAny (model P w) X.A (letOwnedTupleGo tg (.ref it) u) (λ_ s2=>∃x H',Inv X pins σ H' s2/\cG x u/\J.yld i H x H'/\tn (i+1) s2.heap/\∀b∈fp,H' b=none) E s1) E s
 done:∀(X:Cx),X.prog=P->X.w=w->X.K=K->X.calm=true->∀(i:Nat) (pins:List (Addr × Obj)) (s:Shared) (σ:St) (H:Hp) (E:Value->Shared->Prop),Inv X pins σ H s->(∀b∈fp,oQ X pins H b)->tn i s.heap->J.stop i H->
  wpAny (model P w) X.A (pyNext (.ref it)) (λr s1=>r=none/\Inv X pins σ H s1) E s
 self:∀(A:Around) (i:Nat) (s:Shared) (Q:Value->Shared->Prop) (E:Value->Shared->Prop),tn i s.heap->Q (.ref it) s->wpAny (model P w) A (pyIter (.ref it)) Q E s
abbrev TI:=St->Hp->(It->Hp->Prop)->Prop
def PIE (X:Cx)(pins:List (Addr × Obj))(σ:St)(tg:Expr)(R:It->Hp->Prop)(itv:Value)(s2:Shared):Prop:=
 ∃(it:Addr) (fp:List Addr) (tn:Nat->Heap->Prop) (J:It) (H':Hp),itv=.ref it/\Inv X pins σ H' s2/\Nm X.prog X.w X.K tg J fp it tn/\tn 0 s2.heap/\(∀b∈fp,oQ X pins H' b)/\R J H'
def PI (X:Cx)(tg iter:Expr)(wi:TI):Prop:=
 ∀(pins:List (Addr × Obj)) (s:Shared) (σ:St) (H:Hp) (R:It->Hp->Prop),Inv X pins σ H s->wi σ H R->
  wpAny (model X.prog X.w) X.A (eval iter X.env) (λv s1=>wpAny (model X.prog X.w) X.A (pyIter v) (PIE X pins σ tg R) X.xe s1) X.xe s
theorem Oj (ho : s.heap.get? it = some o)(hc : o.cls = .type n)(hd : o.data = .fields vs)(hn : ["enumerate", "zip", "dict_itemiterator", "dict_reverseitemiterator", "odict_iterator", "itertools.zip_longest", "itertools.pairwise"].contains n = false)(hQ : Q .unit s): wpAny M A (letOwnedTupleGo tg (.ref it) u) Q E s := by
  unfold letOwnedTupleGo
  cases tg <;> first
    | exact wpAny_pure hQ
    | (cases u <;> first
        | exact wpAny_pure hQ
        | (refine wpAny_bind (wpAny_load ho ?_)
           rw [hc, hd];show wpAny M A (if (["enumerate", "zip", "dict_itemiterator", "dict_reverseitemiterator", "odict_iterator", "itertools.zip_longest", "itertools.pairwise"].contains n && vs[0]? == some (rawInt _)) = true then _ else _) Q E s;rw [if_neg (by intro h; rw [hn, Bool.false_and] at h; cases h)];exact wpAny_pure hQ))
def Itl (K:Frag)(a:Addr):It:=
 ⟨λi H=>∃xs x,SqL K H a xs/\xs[i]?=some x,λi H x H'=>H'=H/\∀xs,SqL K H a xs->xs[i]?=some x,λi H=>∃xs,SqL K H a xs/\xs.length<=i⟩
def Itt (K:Frag)(a:Addr):It:=
 ⟨λi H=>∃xs x,SqT K H a xs/\xs[i]?=some x,λi H x H'=>H'=H/\∀xs,SqT K H a xs->xs[i]?=some x,λi H=>∃xs,SqT K H a xs/\xs.length<=i⟩
def Itr (lo:Int)(n:Nat):It:=⟨λi _=>i < n,λi H x H'=>H'=H/\x=.int (lo+i),λi _=>n<=i⟩
theorem Ly {K:Frag}(a it:Addr):Nm P w K tg (Itl K a) [it] it (λi h=>h.IsListIter it a i) where
 mem:=by simp
 obj:=λi h st b hb=>by
  have e:b=it:=by simpa using hb
  subst e;obtain⟨o,e,c,d⟩:=st;exact⟨o,e,λv z=>by rw[d] at z;cases z⟩
 keep:=λi h h' st k=>st.at λo e=>k it ⋯ o e
 item:=by
  intro X hP hw hK hc i pins s σ H E I hf st hg;subst hP hw hK;obtain⟨xs,x,hq,hx⟩:=hg;obtain⟨its,rv,p,hz⟩:=I.list hq;obtain⟨u,hu,ru⟩:=rv.get hx;obtain⟨f0,f1,f2,f3,f4,f5⟩:=hf it ⋯;refine wpAny_pyNext_list_item st p.isList (x:=u) (by simpa using hu) λh' st' sb=>?_;have I1:Inv X pins σ H { s with heap:=h' }:=I.turned (t':=s.toks) (λb o hb e=>(sb.2 b hb).trans e) f0 f1 f3 f4 f5;obtain⟨o,e,c,d⟩:=id st';exact⟨u,rfl,Oj (s:={ s with heap:=h' }) e c d ∅ ⟨x,H,I1,ru,⟨rfl,λys hy=>by rw[I.list_inj hy hq];exact hx⟩,st',λb hb=>(hf b hb).1⟩⟩
 done:=by
  intro X hP hw hK hc i pins s σ H E I hf st hg;subst hP hw hK;obtain⟨xs,hq,hx⟩:=hg;obtain⟨its,rv,p,hz⟩:=I.list hq;obtain⟨f0,f1,f2,f3,f4,f5⟩:=hf it ⋯;have hl:=rv.length;exact wpAny_pyNext_list_end (I.ok.hd hc) st p.isList (by simp;lia) λh' eb=>⟨rfl,I.turned (t':=s.toks) (λb o hb e=>eb b o hb e) f0 f1 f3 f4 f5⟩
 self:=λ_ _ _ _ _ st h=>wpAny_pyIter_listiter st h
theorem Id {K:Frag}(a it:Addr):Nm P w K tg (Itt K a) [it] it (λi h=>h.IsTupleIter it a i) where
 mem:=by simp
 obj:=λi h st b hb=>by
  have e:b=it:=by simpa using hb
  subst e;obtain⟨o,e,c,d⟩:=st;exact⟨o,e,λv z=>by rw[d] at z;cases z⟩
 keep:=λi h h' st k=>st.at λo e=>k it ⋯ o e
 item:=by
  intro X hP hw hK hc i pins s σ H E I hf st hg;subst hP hw hK;obtain⟨xs,x,hq,hx⟩:=hg;obtain⟨its,rv,p,hz⟩:=I.tuple hq;obtain⟨u,hu,ru⟩:=rv.get hx;obtain⟨f0,f1,f2,f3,f4,f5⟩:=hf it ⋯;refine wpAny_pyNext_tuple_item st (show s.heap.IsTuple a its.toArray from p) (x:=u) (by simpa using hu) λh' st' sb=>?_;have I1:Inv X pins σ H { s with heap:=h' }:=I.turned (t':=s.toks) (λb o hb e=>(sb.2 b hb).trans e) f0 f1 f3 f4 f5;obtain⟨o,e,c,d⟩:=id st';exact⟨u,rfl,Oj (s:={ s with heap:=h' }) e c d ∅ ⟨x,H,I1,ru,⟨rfl,λys hy=>by rw[I.tuple_inj hy hq];exact hx⟩,st',λb hb=>(hf b hb).1⟩⟩
 done:=by
  intro X hP hw hK hc i pins s σ H E I hf st hg;subst hP hw hK;obtain⟨xs,hq,hx⟩:=hg;obtain⟨its,rv,p,hz⟩:=I.tuple hq;obtain⟨f0,f1,f2,f3,f4,f5⟩:=hf it ⋯;have hl:=rv.length;exact wpAny_pyNext_tuple_end (I.ok.hd hc) st (show s.heap.IsTuple a its.toArray from p) (by simp;lia) λh' eb=>⟨rfl,I.turned (t':=s.toks) (λb o hb e=>eb b o hb e) f0 f1 f3 f4 f5⟩
 self:=λ_ _ _ _ _ st h=>wpAny_pyIter_tupleiter st h
theorem Hu {K:Frag}(it:Addr)(lo:Int)(n:Nat):Nm P w K tg (Itr lo n) [it] it (λi h=>IsRangeIter h it (lo+(i:Nat)*1) ((n:Int) - (i:Nat)) 1) where
 mem:=by simp
 obj:=λi h st b hb=>by
  have e:b=it:=by simpa using hb
  subst e;exact⟨_,st,λv z=>by
   have z':Data.fields _=Data.cell v:=z
   cases z'⟩
 keep:=λi h h' st k=>k it ⋯ _ st
 item:=by
  intro X hP hw hK hc i pins s σ H E I hf st hg;subst hP hw hK;obtain⟨f0,f1,f2,f3,f4,f5⟩:=hf it ⋯;have W:=Walks.range (prog:=X.prog) (w:=X.w) (I.ok.hd hc) it lo 1 n;refine W.item i s _ _ hg st λv h' tk hv st' kk=>?_;obtain⟨t,rfl⟩:=hv;have I1:Inv X pins σ H { s with heap:=h',toks:=tk }:=I.turned (λb o hb e=>kk b o (by simpa using hb) e) f0 f1 f3 f4 f5;refine⟨_,rfl,Oj (s:={ s with heap:=h',toks:=tk }) (n:="range_iterator") st' rfl rfl ∅ ⟨.int (lo+i),H,I1,⟨t,?_⟩,⟨rfl,rfl⟩,st',λb hb=>(hf b hb).1⟩⟩;rw[Int.mul_one]
 done:=by
  intro X hP hw hK hc i pins s σ H E I hf st hg;subst hP hw hK;obtain⟨f0,f1,f2,f3,f4,f5⟩:=hf it ⋯;exact wpAny_pyNext_range_end (I.ok.hd hc) st (by have:n<=i:=hg;lia) λh' eb=>⟨rfl,I.turned (t':=s.toks) (λb o hb e=>eb b o hb e) f0 f1 f3 f4 f5⟩
 self:=λ_ _ _ _ _ st h=>wpAny_pyIter_rangeiter st h
section
variable {X:Cx} {tg:Expr}
def ql1 (K:Frag)(tl:TE):TI:=λσ H R=>tl σ H λx H1=>∃a,x=.ref a/\(∃xs,SqL K H1 a xs)/\R (Itl K a) H1
def qt6 (K:Frag)(tl:TE):TI:=λσ H R=>tl σ H λx H1=>∃a,x=.ref a/\(∃xs,SqT K H1 a xs)/\R (Itt K a) H1
theorem dM (hl:PE X l tl):PI X tg l (ql1 X.K tl):=by
 intro pins s σ H R I h;refine thn (hl pins s σ H _ I h) λv s1 ⟨x,H1,I1,r1,q1⟩=>?_;obtain⟨a,e,⟨xs,hq⟩,q⟩:=q1;subst e
 cases r1
 obtain⟨its,rv,p,hz⟩:=I1.list hq;refine wpAny_pyIter_list p.isList ?_;refine⟨s1.heap.objs.size,[s1.heap.objs.size],_,_,H1,rfl,I1.kept (t':=s1.toks) λb o e=>Heap.get?_push_of_some _ e,Ly a _,⟨_,Heap.get?_push_size _ rfl,rfl,rfl⟩,λb hb=>?_,q⟩;have e:b=s1.heap.objs.size:=by simpa using hb
 subst e;exact I1.fpOk (Nat.le_refl _) (I1.hok.fresh (Nat.le_refl _))
theorem Zh (hl:PE X l tl):PI X tg l (qt6 X.K tl):=by
 intro pins s σ H R I h;refine thn (hl pins s σ H _ I h) λv s1 ⟨x,H1,I1,r1,q1⟩=>?_;obtain⟨a,e,⟨xs,hq⟩,q⟩:=q1;subst e
 cases r1
 obtain⟨its,rv,p,hz⟩:=I1.tuple hq;refine wpAny_pyIter_tuple (show s1.heap.IsTuple a its.toArray from p) ?_;refine⟨s1.heap.objs.size,[s1.heap.objs.size],_,_,H1,rfl,I1.kept (t':=s1.toks) λb o e=>Heap.get?_push_of_some _ e,Id a _,⟨_,Heap.get?_push_size _ rfl,rfl,rfl⟩,λb hb=>?_,q⟩;have e:b=s1.heap.objs.size:=by simpa using hb
 subst e;exact I1.fpOk (Nat.le_refl _) (I1.hok.fresh (Nat.le_refl _))
theorem Dk {lo hi:Int}(I:Inv X pins σ H s)(h1:-(2 ^ 62)<=lo)(h2:lo < 2 ^ 62)(h3:-(2 ^ 62)<=hi)(h4:hi < 2 ^ 62)(q:R (Itr lo (hi - lo).toNat) H):wpAny (model X.prog X.w) X.A (pyIter (.ref s.heap.objs.size)) (PIE X pins σ tg R) E { s with heap:=s.heap.push { cls:=.type "range",data:=.fields #[.int lo t,.int hi u,.int 1 v] },toks:=tk }:=by
 refine wpAny_pyIter_range (IsRange.new ..) (small_one h1 h2 h3 h4) ?_;have I1:Inv X pins σ H { s with heap:=s.heap.push { cls:=.type "range",data:=.fields #[.int lo t,.int hi u,.int 1 v] },toks:=tk }:=I.kept λb o e=>Heap.get?_push_of_some _ e;refine⟨(s.heap.push { cls:=.type "range",data:=.fields #[.int lo t,.int hi u,.int 1 v] }).objs.size,[(s.heap.push { cls:=.type "range",data:=.fields #[.int lo t,.int hi u,.int 1 v] }).objs.size],_,_,H,rfl,
  I1.kept (t':=tk) λb o e=>Heap.get?_push_of_some _ e,Hu _ lo (hi - lo).toNat,?_,λb hb=>?_,q⟩
 .have e1:lo+((0:Nat):Int)*1=lo:=by simp
  have e2:(((hi - lo).toNat:Nat):Int) - ((0:Nat):Int)=Builtin.Range.rangeSize lo hi 1:=by rw[rangeSize_one];split<;>lia
  show IsRangeIter _ _ (lo+((0:Nat):Int)*1) ((((hi - lo).toNat:Nat):Int) - ((0:Nat):Int)) 1;rw[e1,e2];exact Heap.get?_push_size _ rfl
 .have e:b=(s.heap.push { cls:=.type "range",data:=.fields #[.int lo t,.int hi u,.int 1 v] }).objs.size:=by simpa using hb
  subst e;exact I1.fpOk (Nat.le_refl _) (I1.hok.fresh (Nat.le_refl _))
def qn9 (ta:TA):TI:=λσ H R=>ta σ H λvs H1=>∃j:Int,vs=[.int j]/\-(2 ^ 62)<=j/\j < 2 ^ 62/\R (Itr 0 j.toNat) H1
def qo0 (ta:TA):TI:=λσ H R=>ta σ H λvs H1=>∃i j:Int,vs=[.int i,.int j]/\(-(2 ^ 62)<=i/\i < 2 ^ 62/\-(2 ^ 62)<=j/\j < 2 ^ 62)/\R (Itr i (j - i).toNat) H1
theorem jX (hg:Gl X "range")(hm:X.mg "range"=none)(ha:PA X [a] ta)(hs:starEach [a] X.env=[(false,eval a X.env)]:=by rfl):PI X tg (.Call (.Name "range" p) [a] [] pos) (qn9 ta):=by
 intro pins s σ H R I h;refine Call_ (jR I hg hm boot_range (PyProof.Rows.callWith_type1 (thn (ha pos pins s σ H _ I h) λus s1 ⟨vs,H1,I1,r1,q1⟩=>?_) hs rfl));obtain⟨j,e,q1,q2,q⟩:=q1;subst e
 cases r1 with
 |cons r rr=>
  cases rr
  obtain⟨t,rfl⟩:=r;exact call_range_1 (Dk I1 () () q1 q2 (by simpa using q))
theorem zC (hg:Gl X "range")(hm:X.mg "range"=none)(ha:PA X [a,b] ta)(hs:starEach [a,b] X.env=[(false,eval a X.env),(false,eval b X.env)]:=by rfl)(hs2:starEach [b] X.env=[(false,eval b X.env)]:=by rfl):
  PI X tg (.Call (.Name "range" p) [a,b] [] pos) (qo0 ta):=by
 intro pins s σ H R I h;refine Call_ (jR I hg hm boot_range (PyProof.Rows.callWith_type1 (thn (ha pos pins s σ H _ I h) λus s1 ⟨vs,H1,I1,r1,q1⟩=>?_) (by rw[hs,hs2]) (by rw[hs2];rfl)));obtain⟨i,j,e,⟨q1,q2,q3,q4⟩,q⟩:=q1;subst e
 cases r1 with
 |cons r rr=>
  cases rr with
  |cons r' rr=>
   cases rr
   obtain⟨t,rfl⟩:=r;obtain⟨t',rfl⟩:=r';exact call_range_2 (Dk I1 q1 q2 q3 q4 q)
def qs6 (wi:TI)(g:TG)(tb:TS):TS:=λD σ H=>wi σ H λJ H1=>∃W:Nat->Nat->St->Hp->Prop,(∃m,W 0 m σ H1)/\∀i m σ H,W i m σ H->
 (J.stop i H/\D.nx σ H)\/(J.go i H/\∃N:St->Hp->Prop,(∀σ' H',N σ' H'->∃m',m' < m/\W (i+1) m' σ' H')/\∀x H',J.yld i H x H'->g x σ H' λσ2 H2=>tb { D with nx:=N,ct:=N,bk:=D.nx } σ2 H2)
def xK (fp:List Addr)(h:Heap):List (Addr × Obj):=fp.filterMap λb=>(h.get? b).map λo=>(b,o)
theorem kI (hb:b∈fp)(e:h.get? b=some o):(b,o)∈xK fp h:=mem_filterMap.mpr ⟨b,hb,by rw[e];rfl⟩
theorem Mm (hp:p∈xK fp h):p.1∈fp/\h.get? p.1=some p.2:=by
 obtain⟨b,hb,e⟩:=mem_filterMap.mp hp
 cases q:h.get? b with
 |none=>rw[q] at e;cases e
 |some o=>
  rw[q] at e;have e':(b,o)=p:=Option.some.inj e;subst e';exact⟨hb,q⟩
theorem Inv.pinned (I:Inv X pins σ H s)(hf:∀b∈fp,oQ X pins H b)(ho:∀b∈fp,∃o,s.heap.get? b=some o/\∀v,o.data≠.cell v):Inv X (pins++xK fp s.heap) σ H s:=
 I.pins_of λp hp=>(mem_append.mp hp).elim (λz=>I.pin p (mem_append_right _ z)) λz=>by
  obtain⟨hb,e⟩:=Mm z;obtain⟨f0,f1,f2,_⟩:=hf p.1 hb;obtain⟨o,e',d⟩:=ho p.1 hb;rw[e] at e';cases e';exact⟨e,f0,f1,f2,d⟩
theorem Inv.unpinned (I:Inv X (pins++pl) σ H s):Inv X pins σ H s:=I.pins_of λp hp=>I.pin p (mem_append_right _ (mem_append_left _ hp))
theorem gA {iter:Expr}(hp:PassesOwn (model X.prog X.w) X.A X.env X.xe)(hc:X.calm=true)(hi:PI X tg iter wi)(hg:PG X tg g)(hb:PSs X body tb)(hs:∀x,foldedSetIterable iter X.env x=pure x:=by intro _;rfl):PS X (.For tg iter body [] pos) (qs6 wi g tb):=by
 intro pins s σ H D I h;refine wpAny_For (thn (hi pins s σ H _ I h) λv s1 h1=>thn h1 λitv s2 h2=>?_) hs;obtain⟨it,fp,tn,J,H2,e,I2,T,st2,f2,W,⟨m0,w0⟩,turn⟩:=h2;subst e;have stat:∀{H':Hp},(∀b∈fp,H' b=none)->∀b∈fp,oQ X pins H' b:=λhn b hb=>⟨hn b hb,(f2 b hb).2⟩
 refine codeAny_forLoop_any (λn s'=>∃i σ' H',Inv X pins σ' H' s'/\tn i s'.heap/\(∀b∈fp,H' b=none)/\W i n σ' H') ?_ m0 ⟨0,σ,H2,I2,st2,λb hb=>(f2 b hb).1,w0⟩;rintro n s3 ⟨i,σ3,H3,I3,st3,fr3,w3⟩;rcases turn i n σ3 H3 w3 with ⟨stop,qn⟩ | ⟨go,N,hN,step⟩
 .refine wpAny_passesOwn hp (thn (T.done X rfl rfl rfl hc i pins s3 σ3 H3 X.xe I3 (stat fr3) st3 stop) λr s4 ⟨hr,I4⟩=>?_);subst hr;exact wpAny_execs_nil ⟨σ3,H3,I4,qn⟩
 .refine wpAny_passesOwn hp (thn (T.item X rfl rfl rfl hc i pins s3 σ3 H3 X.xe I3 (stat fr3) st3 go) λr s4 ⟨u,hr,h4⟩=>?_);subst hr;refine wpAny_passesOwn hp (thn h4 λ_ s5 ⟨x,H5,I5,r5,y5,st5,fr5⟩=>?_);have I5':=I5.pinned (stat fr5) (T.obj _ _ st5);refine wpAny_passesOwn hp (thn (hg _ s5 σ3 H5 x u _ I5' r5 (step x H5 y5)) λ_ s6 ⟨σ6,H6,I6,q6⟩=>?_);refine wpAny_passesOwn hp (thn (hb _ s6 σ6 H6 _ I6 q6) λf s7 q7=>?_);have again:∀{σ7:St} {H7:Hp},Inv X (pins++xK fp s5.heap) σ7 H7 s7->N σ7 H7->∃m,m < n/\∃i σ' H',Inv X pins σ' H' s7/\tn i s7.heap/\(∀b∈fp,H' b=none)/\W i m σ' H':=λ{σ7 H7} I7 n7=>by
   obtain⟨m',hm,w7⟩:=hN σ7 H7 n7;refine⟨m',hm,i+1,σ7,H7,I7.unpinned,T.keep _ _ _ st5 λb hb o e=>(I7.pin (b,o) (mem_append_right _ (mem_append_right _ (kI hb e)))).1,λb hb=>?_,w7⟩;obtain⟨o,e,d⟩:=T.obj _ _ st5 b hb;exact(I7.pin (b,o) (mem_append_right _ (mem_append_right _ (kI hb e)))).2.1
  cases f with
  |next=>obtain⟨σ7,H7,I7,n7⟩:=q7;exact again I7 n7
  |cont=>obtain⟨σ7,H7,I7,n7⟩:=q7;exact again I7 n7
  |brk=>obtain⟨σ7,H7,I7,q7⟩:=q7;exact⟨σ7,H7,I7.unpinned,q7⟩
  |ret v=>obtain⟨x7,σ7,H7,I7,r7,q7⟩:=q7;exact⟨x7,σ7,H7,I7.unpinned,r7,q7⟩
end
theorem gU {K:Frag}{g:TG}{tb:TS}{D:jW}(Pv:Nat->St->Hp->Prop)(h0:Pv 0 σ H)(hl:∀i σ H,i<=xs.length->Pv i σ H->SqL K H a xs)(hs:∀i x σ H,xs[i]?=some x->Pv i σ H->g x σ H λσ2 H2=>tb { D with nx:=Pv (i+1),ct:=Pv (i+1),bk:=D.nx } σ2 H2)(hd:∀σ H,Pv xs.length σ H->D.nx σ H):
  ∃W:Nat->Nat->St->Hp->Prop,(∃m,W 0 m σ H)/\∀i m σ H,W i m σ H->
   ((Itl K a).stop i H/\D.nx σ H)\/((Itl K a).go i H/\∃N:St->Hp->Prop,(∀σ' H',N σ' H'->∃m',m' < m/\W (i+1) m' σ' H')/\∀x H',(Itl K a).yld i H x H'->g x σ H' λσ2 H2=>tb { D with nx:=N,ct:=N,bk:=D.nx } σ2 H2):=by
 refine⟨λi m σ H=>m=xs.length - i/\i<=xs.length/\Pv i σ H,⟨xs.length,⋯,Nat.zero_le _,h0⟩,?_⟩;rintro i m σ H ⟨rfl,hi,p⟩;have q:=hl i σ H hi p
 by_cases hlt:i < xs.length
 .refine .inr ⟨⟨xs,xs[i],q,by simp[hlt]⟩,Pv (i+1),λσ' H' p'=>⟨xs.length - (i+1),(),rfl,hlt,p'⟩,λx H' y=>?_⟩;obtain⟨e,y⟩:=y;subst e;exact hs i x σ _ (y xs q) p
 .have e:i=xs.length:=by lia
  subst e;exact .inl ⟨⟨xs,q,Nat.le_refl _⟩,hd σ H p⟩
theorem Vw {K:Frag}{g:TG}{tb:TS}{D:jW}(Pv:Nat->St->Hp->Prop)(h0:Pv 0 σ H)(hl:∀i σ H,i<=xs.length->Pv i σ H->SqT K H a xs)(hs:∀i x σ H,xs[i]?=some x->Pv i σ H->g x σ H λσ2 H2=>tb { D with nx:=Pv (i+1),ct:=Pv (i+1),bk:=D.nx } σ2 H2)(hd:∀σ H,Pv xs.length σ H->D.nx σ H):
  ∃W:Nat->Nat->St->Hp->Prop,(∃m,W 0 m σ H)/\∀i m σ H,W i m σ H->
   ((Itt K a).stop i H/\D.nx σ H)\/((Itt K a).go i H/\∃N:St->Hp->Prop,(∀σ' H',N σ' H'->∃m',m' < m/\W (i+1) m' σ' H')/\∀x H',(Itt K a).yld i H x H'->g x σ H' λσ2 H2=>tb { D with nx:=N,ct:=N,bk:=D.nx } σ2 H2):=by
 refine⟨λi m σ H=>m=xs.length - i/\i<=xs.length/\Pv i σ H,⟨xs.length,⋯,Nat.zero_le _,h0⟩,?_⟩;rintro i m σ H ⟨rfl,hi,p⟩;have q:=hl i σ H hi p
 by_cases hlt:i < xs.length
 .refine .inr ⟨⟨xs,xs[i],q,by simp[hlt]⟩,Pv (i+1),λσ' H' p'=>⟨xs.length - (i+1),(),rfl,hlt,p'⟩,λx H' y=>?_⟩;obtain⟨e,y⟩:=y;subst e;exact hs i x σ _ (y xs q) p
 .have e:i=xs.length:=by lia
  subst e;exact .inl ⟨⟨xs,q,Nat.le_refl _⟩,hd σ H p⟩
theorem kE {lo:Int}{g:TG}{tb:TS}{D:jW}(Pv:Nat->St->Hp->Prop)(h0:Pv 0 σ H)(hs:∀i σ H,i < n->Pv i σ H->g (.int (lo+i)) σ H λσ2 H2=>tb { D with nx:=Pv (i+1),ct:=Pv (i+1),bk:=D.nx } σ2 H2)(hd:∀σ H,Pv n σ H->D.nx σ H):
  ∃W:Nat->Nat->St->Hp->Prop,(∃m,W 0 m σ H)/\∀i m σ H,W i m σ H->
   ((Itr lo n).stop i H/\D.nx σ H)\/((Itr lo n).go i H/\∃N:St->Hp->Prop,(∀σ' H',N σ' H'->∃m',m' < m/\W (i+1) m' σ' H')/\∀x H',(Itr lo n).yld i H x H'->g x σ H' λσ2 H2=>tb { D with nx:=N,ct:=N,bk:=D.nx } σ2 H2):=by
 refine⟨λi m σ H=>m=n - i/\i<=n/\Pv i σ H,⟨n,⋯,Nat.zero_le _,h0⟩,?_⟩;rintro i m σ H ⟨rfl,hi,p⟩
 by_cases hlt:i < n
 .refine .inr ⟨hlt,Pv (i+1),λσ' H' p'=>⟨n - (i+1),(),rfl,hlt,p'⟩,λx H' y=>?_⟩;obtain⟨e,y⟩:=y;subst e y;exact hs i σ _ hlt p
 .have e:i=n:=by lia
  subst e;exact .inl ⟨Nat.le_refl _,hd σ H p⟩
theorem wN (Pv:St->Hp->Prop)(μ:St->Hp->Nat)(h0:Pv σ H)(hs:∀σ H,Pv σ H->c σ H λb H1=>if b=true then tb { D with nx:=λσ' H'=>Pv σ' H'/\μ σ' H' < μ σ H,ct:=λσ' H'=>Pv σ' H'/\μ σ' H' < μ σ H,bk:=D.nx } σ H1 else D.nx σ H1)(mono:∀σ H Q Q',(∀b H1,Q b H1->Q' b H1)->c σ H Q->c σ H Q'):Qb c tb D σ H:=by
 refine⟨λm σ H=>m=μ σ H/\Pv σ H,⟨_,rfl,h0⟩,?_⟩;rintro m σ H ⟨rfl,p⟩;refine mono σ H _ _ (λb H1 q=>?_) (hs σ H p)
 cases b with
 |true=>exact⟨_,λσ' H' ⟨p',l⟩=>⟨_,l,rfl,p'⟩,q⟩
 |false=>exact q
abbrev R2:=V->V->Hp->VK->Prop
def OpR (X:Cx)(f:Value->Value->Sem Value)(r:R2):Prop:=
 ∀(pins:List (Addr × Obj)) (s:Shared) (σ:St) (H:Hp) (x y:V) (v u:Value) (Q:VK),Inv X pins σ H s->cG x v->cG y u->r x y H Q->
  wpAny (model X.prog X.w) X.A (f v u) (EP X pins σ Q) X.xe s
def UnR (X:Cx)(f:Value->Sem Value)(r:V->Hp->VK->Prop):Prop:=
 ∀(pins:List (Addr × Obj)) (s:Shared) (σ:St) (H:Hp) (x:V) (v:Value) (Q:VK),Inv X pins σ H s->cG x v->r x H Q->
  wpAny (model X.prog X.w) X.A (f v) (EP X pins σ Q) X.xe s
def oX (X:Cx)(f:Value)(r:List V->Hp->VK->Prop):Prop:=
 ∀(pins:List (Addr × Obj)) (s:Shared) (σ:St) (H:Hp) (xs:List V) (us:List Value) (Q:VK),Inv X pins σ H s->cE xs us->r xs H Q->
  wpAny (model X.prog X.w) X.A (call f us) (EP X pins σ Q) X.xe s
def tOp (r:R2)(ta tb:TE):TE:=λσ H Q=>ta σ H λx H1=>tb σ H1 λy H2=>r x y H2 Q
def tUn (r:V->Hp->VK->Prop)(ta:TE):TE:=λσ H Q=>ta σ H λx H1=>r x H1 Q
inductive rI (C:Int->Int->Prop) (g:Int->Int->V) (x:V) (y:V) (H:Hp) (Q:VK):Prop where
 |mk (i j):x=.int i->y=.int j->C i j->Q (g i j) H->rI C g x y H Q
inductive rI0 (g:Int->Int->V) (x:V) (y:V) (H:Hp) (Q:VK):Prop where
 |mk (i j):x=.int i->y=.int j->Q (g i j) H->rI0 g x y H Q
inductive rU (g:Int->V) (x:V) (H:Hp) (Q:VK):Prop where
 |mk (i):x=.int i->Q (g i) H->rU g x H Q
section
variable {X:Cx} {a b c:Expr} {ta tb tc:TE} {pos:Pos}
theorem qk1 (ha:PE X a ta)(hb:PE X b tb){R:V->V->Hp->Prop}(I:Inv X pins σ H s)(h:ta σ H λx H1=>tb σ H1 λy H2=>R x y H2){f:Value->Value->Sem Value}(hf:∀v u s2 x y H2,Inv X pins σ H2 s2->cG x v->cG y u->R x y H2->wpAny (model X.prog X.w) X.A (f v u) Q X.xe s2):
  wpAny (model X.prog X.w) X.A (eval a X.env) (λv s₁=>wpAny (model X.prog X.w) X.A (eval b X.env) (λu s₂=>wpAny (model X.prog X.w) X.A (f v u) Q X.xe s₂) X.xe s₁) X.xe s:=by
 refine thn (ha pins s σ H _ I h) λv s1 ⟨x,H1,I1,r1,q1⟩=>?_;refine thn (hb pins s1 σ H1 _ I1 q1) λu s2 ⟨y,H2,I2,r2,q2⟩=>?_;exact hf v u s2 x y H2 I2 r1 r2 q2
theorem aY (ho:OpR X (binaryOp op) r)(ha:PE X a ta)(hb:PE X b tb):PE X (.BinOp a op b pos) (tOp r ta tb):=by
 intro pins s σ H Q I h;exact wpAny_BinOp (qk1 ha hb I h λv u s2 x y H2 I2 rx ry q=>ho pins s2 σ H2 x y v u Q I2 rx ry q)
theorem Eu (ho:UnR X (unaryOp op) r)(ha:PE X a ta):PE X (.UnaryOp op a pos) (tUn r ta):=by
 intro pins s σ H Q I h;exact UnaryOp_ (thn (ha pins s σ H _ I h) λv s1 ⟨x,H1,I1,r1,q1⟩=>ho pins s1 σ H1 x v Q I1 r1 q1)
theorem opI {g:Int->Int->Int}(rule:∀(i j:Int) (t u:Tok) (s:Shared) (Q:Value->Shared->Prop) (E:Value->Shared->Prop),C i j->Q (.int (g i j) s.toks) { s with toks:=s.toks+1 }->wpAny (model X.prog X.w) X.A (f (.int i t) (.int j u)) Q E s):
  OpR X f (rI C λi j=>.int (g i j)):=by
 intro pins s σ H x y v u Q I rx ry h;obtain⟨i,j,rfl,rfl,hc,q⟩:=h;obtain⟨t,rfl⟩:=rx;obtain⟨t',rfl⟩:=ry;exact rule i j t t' s _ _ hc ⟨.int (g i j),H,I.tok _,⟨_,rfl⟩,q⟩
theorem qn0 {g:Int->Int->Int}(rule:∀(i j:Int) (t u:Tok) (s:Shared) (Q:Value->Shared->Prop) (E:Value->Shared->Prop),Q (.int (g i j) s.toks) { s with toks:=s.toks+1 }->wpAny (model X.prog X.w) X.A (f (.int i t) (.int j u)) Q E s):
  OpR X f (rI0 λi j=>.int (g i j)):=by
 intro pins s σ H x y v u Q I rx ry h;obtain⟨i,j,rfl,rfl,q⟩:=h;obtain⟨t,rfl⟩:=rx;obtain⟨t',rfl⟩:=ry;exact rule i j t t' s _ _ ⟨.int (g i j),H,I.tok _,⟨_,rfl⟩,q⟩
theorem Zy {g:Int->Int->Bool}(rule:∀(i j:Int) (t u:Tok) (s:Shared) (Q:Value->Shared->Prop) (E:Value->Shared->Prop),Q (.bool (g i j)) s->wpAny (model X.prog X.w) X.A (f (.int i t) (.int j u)) Q E s):
  OpR X f (rI0 λi j=>.bl (g i j)):=by
 intro pins s σ H x y v u Q I rx ry h;obtain⟨i,j,rfl,rfl,q⟩:=h;obtain⟨t,rfl⟩:=rx;obtain⟨t',rfl⟩:=ry;exact rule i j t t' s _ _ ⟨.bl (g i j),H,I,rfl,q⟩
def qs2 (i j:Int):Prop:=0 < j/\j < 1073741824
def qu7 (i j:Int):Prop:=0<=j/\j<=1000000/\i.natAbs < 2 ^ 64
def qd2 (i j:Int):Prop:=(-(2 ^ 64) < i/\i < 2 ^ 64)\/(-(2 ^ 64) < j/\j < 2 ^ 64)
theorem qd2.ok (h:qd2 i j):IntMulOk i j:=by
 rcases h with ⟨h1,h2⟩ | ⟨h1,h2⟩
 .exact .of_left (intBits_le_64 h1 h2)
 .exact .of_right (intBits_le_64 h1 h2)
theorem dS:OpR X (binaryOp .Add) (rI0 λi j=>.int (i+j)):=qn0 λ_ _ _ _ _ _ _ q=>add_int q
theorem iW:OpR X (binaryOp .Sub) (rI0 λi j=>.int (i - j)):=qn0 λ_ _ _ _ _ _ _ q=>sub_int q
theorem oZ:OpR X (binaryOp .Mult) (rI qd2 λi j=>.int (i*j)):=opI λ_ _ _ _ _ _ _ hc q=>mul_int q hc.ok
theorem rA:OpR X (binaryOp .FloorDiv) (rI qs2 λi j=>.int (i / j)):=opI λi j _ _ _ _ _ hc q=>by
 have h1:(0:Int) < j:=hc.1;have h2:j < 1073741824:=hc.2;exact floordiv_int () (by rw[Int.fdiv_eq_ediv_of_nonneg i ()];exact q) (.inl (PyProof.noPylong_small ()))
theorem mM:OpR X (binaryOp .Mod) (rI (λ_ j=>0 < j) λi j=>.int (i % j)):=opI λi j _ _ _ _ _ hc q=>by
 have h1:(0:Int) < j:=hc;exact mod_int' () (by rw[Int.fmod_eq_emod_of_nonneg i ()];exact q)
theorem kK:OpR X (binaryOp .Mod) (rI (λ_ j=>j≠0) λi j=>.int (i.fmod j)):=opI λ_ _ _ _ _ _ _ hc q=>mod_int' hc q
theorem lV:OpR X (binaryOp .Pow) (rI qu7 λi j=>.int (i ^ j.toNat)):=opI λ_ _ _ _ _ _ _ hc q=>pow_int_small hc.1 hc.2.1 hc.2.2 q
theorem unI {g:Int->Int}(rule:∀(i:Int) (t:Tok) (s:Shared) (Q:Value->Shared->Prop) (E:Value->Shared->Prop),Q (.int (g i) s.toks) { s with toks:=s.toks+1 }->wpAny (model X.prog X.w) X.A (f (.int i t)) Q E s):
  UnR X f (rU λi=>.int (g i)):=by
 intro pins s σ H x v Q I rx h;obtain⟨i,rfl,q⟩:=h;obtain⟨t,rfl⟩:=rx;exact rule i t s _ _ ⟨.int (g i),H,I.tok _,⟨_,rfl⟩,q⟩
theorem wR:UnR X (unaryOp .USub) (rU λi=>.int (-i)):=unI λ_ _ _ _ _ q=>neg_int q
end
def qr0:V->V->Bool
 | .non,.non=>true | .non,.int _=>true | .int _,.non=>true | .non,.bl _=>true | .bl _,.non=>true | .non,.str _=>true | .str _,.non=>true
 | .int _,.int _=>true | .bl _,.bl _=>true | .str _,.str _=>true | .byt _,.byt _=>true
 | .int _,.str _=>true | .str _,.int _=>true | .bl _,.str _=>true | .str _,.bl _=>true
 |_,_=>false
def rEq:R2:=λx y H Q=>qr0 x y=true/\Q (.bl (decide (x=y))) H
def rNe:R2:=λx y H Q=>qr0 x y=true/\Q (.bl (!decide (x=y))) H
theorem Ll:decide (V.int i=V.int j)=(i == j):=by
 rw[Bool.eq_iff_iff];simp
theorem Si:decide (V.bl i=V.bl j)=(i == j):=by
 rw[Bool.eq_iff_iff];simp
theorem Kx:decide (V.str i=V.str j)=(i == j):=by
 rw[Bool.eq_iff_iff];simp
theorem Ju:decide (V.byt i=V.byt j)=(i.toList == j.toList):=by
 rw[Bool.eq_iff_iff]
 cases i
 cases j
 simp
section
variable {X:Cx} {a b c:Expr} {ta tb tc:TE} {pos:Pos}
theorem cY (I:Inv X pins σ H s)(q:Q (.bl k) H)(e:k=k'):EP X pins σ Q (.bool k') s:=by
 subst e;exact⟨.bl k,H,I,rfl,q⟩
theorem eQ:OpR X (compareOp .Eq) rEq:=by
 intro pins s σ H x y v u Q I rx ry h;obtain⟨hs,q⟩:=h
 cases x with
 |non=>
  cases rx
  cases y with
  |non=>cases ry;exact PySem.EqNone.eq_none_none (cY I q ⋯)
  |bl j=>cases ry;exact PySem.EqNone.eq_none_bool (cY I q ⋯)
  |int j=>obtain⟨t',rfl⟩:=ry;exact PySem.EqNone.eq_none_int (cY I q ⋯)
  |str j=>obtain⟨t',rfl⟩:=ry;exact PySem.EqNone.eq_none_str (cY I q ⋯)
  |_=>exact absurd (show false=true from hs) Bool.false_ne_true
 |bl i=>
  cases rx
  cases y with
  |non=>cases ry;exact PySem.EqNone.eq_bool_none (cY I q ⋯)
  |bl j=>cases ry;exact eq_bool (cY I q Si)
  |str j=>obtain⟨t',rfl⟩:=ry;exact PySem.EqMixed.eq_bool_str (cY I q ⋯)
  |_=>exact absurd (show false=true from hs) Bool.false_ne_true
 |int i=>
  obtain⟨t,rfl⟩:=rx
  cases y with
  |non=>cases ry;exact PySem.EqNone.eq_int_none (cY I q ⋯)
  |int j=>obtain⟨t',rfl⟩:=ry;exact eq_int (cY I q Ll)
  |str j=>obtain⟨t',rfl⟩:=ry;exact PySem.EqMixed.eq_int_str (cY I q ⋯)
  |_=>exact absurd (show false=true from hs) Bool.false_ne_true
 |str i=>
  obtain⟨t,rfl⟩:=rx
  cases y with
  |non=>cases ry;exact PySem.EqNone.eq_str_none (cY I q ⋯)
  |bl j=>cases ry;exact PySem.EqMixed.eq_str_bool (cY I q ⋯)
  |int j=>obtain⟨t',rfl⟩:=ry;exact PySem.EqMixed.eq_str_int (cY I q ⋯)
  |str j=>obtain⟨t',rfl⟩:=ry;exact eq_str (cY I q Kx)
  |_=>exact absurd (show false=true from hs) Bool.false_ne_true
 |byt i=>
  obtain⟨t,rfl⟩:=rx
  cases y with
  |byt j=>obtain⟨t',rfl⟩:=ry;exact W.eq_bytes (cY I q Ju)
  |_=>exact absurd (show false=true from hs) Bool.false_ne_true
 |_=>cases y<;>exact absurd (show false=true from hs) Bool.false_ne_true
theorem qK:OpR X (compareOp .NotEq) rNe:=by
 intro pins s σ H x y v u Q I rx ry h;obtain⟨hs,q⟩:=h
 cases x with
 |non=>
  cases rx
  cases y with
  |non=>cases ry;exact PySem.EqNone.ne_none_none (cY I q ⋯)
  |bl j=>cases ry;exact PySem.EqNone.ne_none_bool (cY I q ⋯)
  |int j=>obtain⟨t',rfl⟩:=ry;exact PySem.EqNone.ne_none_int (cY I q ⋯)
  |str j=>obtain⟨t',rfl⟩:=ry;exact PySem.EqNone.ne_none_str (cY I q ⋯)
  |_=>exact absurd (show false=true from hs) Bool.false_ne_true
 |bl i=>
  cases rx
  cases y with
  |non=>cases ry;exact PySem.EqNone.ne_bool_none (cY I q ⋯)
  |bl j=>cases ry;exact ne_bool (cY I q (congrArg not Si))
  |str j=>obtain⟨t',rfl⟩:=ry;exact PySem.EqMixed.ne_bool_str (cY I q ⋯)
  |_=>exact absurd (show false=true from hs) Bool.false_ne_true
 |int i=>
  obtain⟨t,rfl⟩:=rx
  cases y with
  |non=>cases ry;exact PySem.EqNone.ne_int_none (cY I q ⋯)
  |int j=>obtain⟨t',rfl⟩:=ry;exact ne_int (cY I q (congrArg not Ll))
  |str j=>obtain⟨t',rfl⟩:=ry;exact PySem.EqMixed.ne_int_str (cY I q ⋯)
  |_=>exact absurd (show false=true from hs) Bool.false_ne_true
 |str i=>
  obtain⟨t,rfl⟩:=rx
  cases y with
  |non=>cases ry;exact PySem.EqNone.ne_str_none (cY I q ⋯)
  |bl j=>cases ry;exact PySem.EqMixed.ne_str_bool (cY I q ⋯)
  |int j=>obtain⟨t',rfl⟩:=ry;exact PySem.EqMixed.ne_str_int (cY I q ⋯)
  |str j=>obtain⟨t',rfl⟩:=ry;exact ne_str (cY I q (congrArg not Kx))
  |_=>exact absurd (show false=true from hs) Bool.false_ne_true
 |byt i=>
  obtain⟨t,rfl⟩:=rx
  cases y with
  |byt j=>obtain⟨t',rfl⟩:=ry;exact W.ne_bytes (cY I q (congrArg not Ju))
  |_=>exact absurd (show false=true from hs) Bool.false_ne_true
 |_=>cases y<;>exact absurd (show false=true from hs) Bool.false_ne_true
theorem xW:OpR X (compareOp .Lt) (rI0 λi j=>.bl (decide (i < j))):=Zy λ_ _ _ _ _ _ _ q=>lt_int q
theorem Jh:OpR X (compareOp .Gt) (rI0 λi j=>.bl (decide (j < i))):=Zy λ_ _ _ _ _ _ _ q=>gt_int q
theorem Ru:OpR X (compareOp .GtE) (rI0 λi j=>.bl (decide (j<=i))):=Zy λ_ _ _ _ _ _ _ q=>ge_int q
theorem bC (b:Expr)(h:op≠.In:=by decide)(h2:op≠.NotIn:=by decide):behindInMarks op b=false:=by
 have e1:(op == CmpOp.In)=false:=by cases op<;>first | rfl | exact absurd rfl h
 have e2:(op == CmpOp.NotIn)=false:=by cases op<;>first | rfl | exact absurd rfl h2
 cases b<;>simp[behindInMarks,e1,e2]
theorem gL (ho:OpR X (compareOp op) r)(ha:PE X a ta)(hb:PE X b tb)(hm:behindInMarks op b=false):PE X (.Compare a [op] [b] pos) (tOp r ta tb):=by
 intro pins s σ H Q I h;exact wpAny_Compare1 (qk1 ha hb I h λv u s2 x y H2 I2 rx ry q=>ho pins s2 σ H2 x y v u Q I2 rx ry q) hm
def qp7 (t:TE):TT:=λσ H Q=>t σ H λx H'=>BlT x λk=>Q k H'
theorem bA (ho:OpR X (compareOp op) r)(ha:PE X a ta)(hb:PE X b tb)(hm:behindInMarks op b=false):PT X (.Compare a [op] [b] pos) (qp7 (tOp r ta tb)):=by
 intro pins s σ H Q I h;refine wpAny_isTrue_Compare1 (thn (ha pins s σ H _ I h) λv s1 ⟨x,H1,I1,r1,q1⟩=>thn (hb pins s1 σ H1 _ I1 q1) λu s2 ⟨y,H2,I2,r2,q2⟩=>
  thn (ho pins s2 σ H2 x y v u _ I2 r1 r2 q2) λc s3 ⟨z,H3,I3,r3,k,e,q3⟩=>?_) hm
 subst e
 cases r3
 exact wpAny_truthy_bool ⟨H3,I3,q3⟩
theorem Bq:(sizeLine:Nat) < 2 ^ 63:=by rw[sizeLine_eq];decide
theorem Du (r:cE [x] us):∃u,us=[u]/\cG x u:=by
 cases r with
 |cons r1 r2=>cases r2;exact⟨_,rfl,r1⟩
theorem Eh (r:cE [x,y] us):∃u w',us=[u,w']/\cG x u/\cG y w':=by
 cases r with
 |cons r1 r2=>
  cases r2 with
  |cons r3 r4=>cases r4;exact⟨_,_,rfl,r1,r3⟩
theorem qX:oX X (.builtin "abs") (λxs H Q=>∃i,xs=[.int i]/\Q (.int (if i < 0 then -i else i)) H):=by
 intro pins s σ H xs us Q I r h;obtain⟨i,rfl,q⟩:=h;obtain⟨u,rfl,t,rfl⟩:=Du r;exact call_abs_int λu tk=>⟨.int (if i < 0 then -i else i),H,I.tok _,⟨_,rfl⟩,q⟩
end
structure Il (h:Heap) (x dx C:Addr) (mA:Str->Option Value):Prop where
 obj:h.get? x=some (W.instObj C dx)
 ns:h.Ns1 dx mA
 ne:dx≠x
theorem yX {h:Heap}(n:h.Ns1 dx mA):∃od,h.get? dx=some od/\∀name,W.lookIn name od=some (mA name):=by
 obtain⟨o,es,ep,ho,hd,hk,_,hm⟩:=n;refine⟨o,ho,λname=>?_⟩;have e:=hm name;unfold nsFind findBy at e;rw[<- Array.find?_toList] at e;unfold W.lookIn;rw[hd];dsimp only;split
 .rename_i y q
  rw[q] at e;exact congrArg some e
 .rename_i q
  rw[q] at e;have a:es.toList.any (·.refKey)=false:=by
   rw[any_eq_false];intro y hy;obtain⟨z,t,hkey⟩:=hk y (Array.mem_toList_iff.mp hy);simp[DictEntry.refKey,hkey]
  have a':¬es.toList.any (·.refKey)=true:=by rw[a];exact Bool.false_ne_true
  rw[if_neg a'];exact congrArg some e
theorem Il.look (I:Il h x dx C mA):∃od,W.InstAt h x (W.instObj C dx) C (some od)/\∀name,W.lookIn name od=some (mA name):=
 let ⟨od,ho,hl⟩:=yX I.ns
 ⟨od,⟨I.obj,rfl,rfl,ho⟩,hl⟩
section
variable {prog:Program} {w:World} {A:Around} {E:Value->Shared->Prop} {s:Shared} {K:Frag} {x dx C f:Addr} {mA:Str->Option Value} {name:Str} {v:Value}
theorem Wv (X:K.In s.heap)(I:Il s.heap x dx C mA)(hg:W.plainGet K C name=true)(hh:W.hasDictIn K C=true)(ha:W.findIn K (.ref C) name=some none)(hv:mA name=some v)(hv':W.handedIn v=true)(h:Q v { s with toks:=s.toks+1 }):
  wpAny (model prog w) A (getAttr (.ref x) name expr) Q E s:=by
 obtain⟨od,J,hl⟩:=I.look;exact W.get_value X J (W.plainGet_of hg).1 (W.findObj_own hh ha rfl (by rw[hl,hv])) hv' h
theorem Ob (X:K.In s.heap)(I:Il s.heap x dx C mA)(hg:W.plainGet K C name=true)(hf:W.findIn K (.ref C) name=some (some (.ref f)))(ht:W.isFn K (.ref f)=true)(hv:mA name=none)(h:Q (.ref f,[.ref x]) s):
  wpAny (model prog w) A (getMethod (.ref x) name pl) Q E s:=by
 obtain⟨od,J,hl⟩:=I.look;exact W.method_fn X J (W.plainGet_of hg).1 (W.plainGet_of hg).2 hf (beq_iff_eq.mp ht) (by show (W.lookIn name od).map (·.isSome)=some false;rw[hl,hv];rfl) h
theorem Yh (X:K.In s.heap)(I:Il s.heap x dx C mA)(hs:W.findIn K (.ref C) "__setattr__"=some (some (.builtin "object.__setattr__")))(hp:W.plainOver K C=true)(ht:W.takerIn K C name=some none)(hh:W.hasDictIn K C=true)(hw:PySem.Within mA ns)(hsz:ns.length<=sizeLine)(h:∀h',Il h' x dx C (λy=>if y=name then some v else mA y)->Heap.SameBut dx s.heap h'->Q .unit { s with heap:=h',toks:=s.toks+2 }):
  wpAny (model prog w) A (setAttr (.ref x) name v) Q E s:=by
 obtain⟨od,J,hl⟩:=I.look;refine W.set_plain X J hs (W.osa_open (s:={ s with toks:=s.toks+1 }) (r:=none) X J hp ht λb=>?_);obtain⟨cd,hc,hd'⟩:=W.any_some hh;have hx:s.heap.get? x=some ⟨.ref C,some dx,.plain,#[]⟩:=I.obj;refine wpAny_bind (wpAny_pure (wpAny_bind (wpAny_bind (wpAny_loadPart hx (wpAny_bind (W.Looks.here (s:={ s with toks:=s.toks+1 }) (W.looks_clsIn X hc) ?_))))));rw[hd'];refine wpAny_pure (a:=some dx) (wpAny_bind (wpAny_pure (wpAny_bind ?_)));refine wpAny_nsSet1 (s:={ s with toks:=s.toks+1 }) I.ns λh' hn2 hs2=>?_;obtain⟨oD,esD,epD,hoD,hdD,hcD⟩:=hn2.count (PySem.Within.cons name v hw);refine wpAny_bind (wpAny_lookBehind hoD (by rw[hdD];exact pastItsLine_dict (Nat.le_trans hcD (by rw[length_cons];lia))) ?_);exact wpAny_pure (h _ ⟨(hs2.2 _ (Ne.symm I.ne)).trans I.obj,hn2,I.ne⟩ hs2)
theorem Pg (X:K.In s.heap)(hm:W.makesIn K C=true)(hi:W.findIn K (.ref C) "__init__"=some (some (.ref f)))(hf:W.typeIn K (.ref f)=some (.type "function"))(h:codeAny (model prog w) (A.under (.builtin "type.__call__" ⟨.ref C :: vs,kw⟩)) (.call (.ref f) ⟨.ref (s.heap.objs.size+1) :: vs,kw⟩) (W.InitBack (s.heap.objs.size+1) R)
   { s with heap:=(s.heap.push W.emptyDict).push (W.instObj C s.heap.objs.size) }):
  codeAny (model prog w) A (.call (.ref C) ⟨vs,kw⟩) R s:=by
 obtain⟨hh,g,d,t,os⟩:=s;exact W.make_core (W.makes_of X hm) (W.looks_findIn X hi) (λself=>W.bind_fn X self hf) (.inl rfl) h
end
def cP (f:Str)(v:V):List (Str × V)->List (Str × V)
 | []=>[(f,v)]
 | (g,x) :: r=>if g=f then (g,v) :: r else (g,x) :: cP f v r
theorem bH (f g:Str)(v:V):∀fs:List (Str × V),(cP f v fs).lookup g=if g=f then some v else fs.lookup g
 | []=>by
  show List.lookup g [(f,v)]=_
  by_cases h:g=f
  .have hb:(g == f)=true:=beq_iff_eq.mpr h;simp only[List.lookup,hb,if_pos h]
  .have hb:(g == f)=false:=beq_eq_false_iff_ne.mpr h;simp only[List.lookup,hb,if_neg h]
 | (k,x) :: r=>by
  have ih:=bH f g v r;rw[show cP f v ((k,x) :: r)=(if k=f then (k,v) :: r else (k,x) :: cP f v r) from rfl]
  by_cases hk:k=f
  .rw[if_pos hk]
   by_cases h:g=k
   .have hb:(g == k)=true:=beq_iff_eq.mpr h;simp only[List.lookup,hb,if_pos (h.trans hk)]
   .have hb:(g == k)=false:=beq_eq_false_iff_ne.mpr h;simp only[List.lookup,hb,if_neg (λe:g=f=>h (e.trans hk.symm))]
  .rw[if_neg hk]
   by_cases h:g=k
   .have hb:(g == k)=true:=beq_iff_eq.mpr h;simp only[List.lookup,hb,if_neg (λe:g=f=>hk (h.symm.trans e))]
   .have hb:(g == k)=false:=beq_eq_false_iff_ne.mpr h;simp only[List.lookup,hb];exact ih
theorem sX (f:Str)(v:V):∀fs:List (Str × V),f∈(cP f v fs).map (·.1)/\∀g,g∈fs.map (·.1)->g∈(cP f v fs).map (·.1)
 | []=>⟨by simp[cP],λg h=>by simp at h⟩
 | (k,x) :: r=>by
  obtain⟨i1,i2⟩:=sX f v r;rw[show cP f v ((k,x) :: r)=(if k=f then (k,v) :: r else (k,x) :: cP f v r) from rfl]
  by_cases hk:k=f
  .rw[if_pos hk];subst hk;exact⟨⋯,λg h=>by simpa using h⟩
  .rw[if_neg hk];refine⟨?_,λg h=>?_⟩
   .rw[map_cons];exact mem_cons_of_mem _ i1
   .rw[map_cons] at h ⊢;rcases mem_cons.mp h with e | e
    .exact mem_cons.mpr (.inl e)
    .exact mem_cons_of_mem _ (i2 g e)
theorem dU (f:Str)(v:V):∀fs:List (Str × V),(cP f v fs).length<=fs.length+1
 | []=>by simp[cP]
 | (k,x) :: r=>by
  have ih:=dU f v r;rw[show cP f v ((k,x) :: r)=(if k=f then (k,v) :: r else (k,x) :: cP f v r) from rfl]
  by_cases hk:k=f
  .rw[if_pos hk,length_cons,length_cons];lia
  .rw[if_neg hk,length_cons,length_cons];lia
theorem lG.some_of (r:lG (some v) o):∃u,o=some u/\cG v u:=by
 cases o with
 |none=>exact(show False from r).elim
 |some u=>exact⟨u,rfl,r⟩
theorem lG.none_of (r:lG none o):o=none:=by
 cases o with
 |none=>rfl
 |some u=>exact(show False from r).elim
theorem Nt (r:cG v u):W.handedIn u=true:=by
 cases v with
 |non=>cases (show u=Value.none from r);rfl
 |bl b=>cases (show u=Value.bool b from r);rfl
 |int i=>obtain⟨t,e⟩:=(show ∃t,u=Value.int i t from r);cases e;rfl
 |str x=>obtain⟨t,e⟩:=(show ∃t,u=Value.str x t from r);cases e;rfl
 |byt b=>obtain⟨t,e⟩:=(show ∃t,u=Value.bytes b t from r);cases e;rfl
 |flt b=>obtain⟨t,e⟩:=(show ∃t,u=Value.float b t from r);cases e;rfl
 |ref a=>cases (show u=Value.ref a from r);rfl
 |ty n=>cases (show u=Value.type n from r);rfl
section
variable {P:Program} {w:World} {H H':Hp} {h h':Heap} {a C dx:Addr} {fs fs':List (Str × V)}
theorem uR (hok:HOk P w H h)(e:H a=some (.ins C dx fs)):∃mA,Il h a dx C mA/\(∀f,lG (fs.lookup f) (mA f))/\PySem.Within mA (fs.map (·.1))/\fs.length<=1000/\H dx=some (.own a):=by
 obtain⟨d,z,ne,ob,mA,n,r,q⟩:=(show dP P w H h a (.ins C dx fs) from hok a _ e)
 exact⟨mA,⟨ob,n,ne⟩,r,q,z,d⟩
end
structure Cls (K:Frag) (C:Addr):Prop where
 pg:W.plainGet K C Str.empty=true
 hd:W.hasDictIn K C=true
 po:W.plainOver K C=true
 sa:W.findIn K (.ref C) "__setattr__"=some (some (.builtin "object.__setattr__"))
theorem Cls.get {K:Frag}(c:Cls K C)(f:Str):W.plainGet K C f=true:=c.pg
def gJ (K:Frag)(C:Addr)(f:Str):Prop:=W.findIn K (.ref C) f=some none
theorem gJ.taker {K:Frag}(n:gJ K C f):W.takerIn K C f=some none:=by
 unfold W.takerIn;rw[show W.findIn K (.ref C) f=some none from n];rfl
structure dE (K:Frag) (C:Addr) (m:Str) (f:Addr):Prop where
 at_:W.findIn K (.ref C) m=some (some (.ref f))
 fn:W.isFn K (.ref f)=true
 kp:W.keepIn K (.ref f)=true
section
variable {X:Cx} {pins:List (Addr × Obj)} {σ:St} {H:Hp} {s:Shared} {a C dx:Addr} {fs:List (Str × V)} {f:Str} {v:V} {A:Around} {E:Value->Shared->Prop}
theorem Hr (I:Inv X pins σ H s)(e:H a=some (.ins C dx fs))(c:Cls X.K C)(n:gJ X.K C f)(l:fs.lookup f=some v)(h:∀u s',Inv X pins σ H s'->cG v u->Q u s'):wpAny (model X.prog X.w) A (getAttr (.ref a) f b) Q E s:=by
 obtain⟨mA,O,r,_,_,_⟩:=uR I.hok e;obtain⟨u,hu,ru⟩:=lG.some_of (v:=v) (o:=mA f) (by rw[<- l];exact r f);exact Wv I.kIn O (c.get f) c.hd n hu (Nt ru) (h u _ (I.tok _) ru)
theorem iT (I:Inv X pins σ H s)(e:H a=some (.ins C dx fs))(c:Cls X.K C)(k:dE X.K C m g)(l:fs.lookup m=none)(h:Q (.ref g,[.ref a]) s):wpAny (model X.prog X.w) A (getMethod (.ref a) m pl) Q E s:=by
 obtain⟨mA,O,r,_,_,_⟩:=uR I.hok e;have hn:mA m=none:=lG.none_of (by rw[<- l];exact r m);exact Ob I.kIn O (c.get m) k.at_ k.fn hn h
theorem Gx (I:Inv X pins σ H s)(e:H a=some (.ins C dx fs))(c:Cls X.K C)(n:gJ X.K C f)(hl:fs.length < 1000)(ry:cG y u)(h:∀s',Inv X pins σ (upd H a (.ins C dx (cP f y fs))) s'->Q .unit s'):wpAny (model X.prog X.w) A (setAttr (.ref a) f u) Q E s:=by
 obtain⟨mA,O,r,wi,_,ho⟩:=uR I.hok e;have hz:(fs.map (·.1)).length<=sizeLine:=by rw[length_map,sizeLine_eq];lia
 refine Yh I.kIn O c.sa c.po n.taker c.hd wi hz λh' O' sb=>h _ ?_;have hd:∃o,h'.get? dx=some o:=let ⟨o,_,_,e',_⟩:=O'.ns;⟨o,e'⟩
 refine I.write (x:=a) (e:=dx) (by rw[e];exact True.intro) (.inr ho) (λb q hb z=>(sb.2 b hb).trans z) hd ?_;refine⟨by rw[aX O.ne];exact ho,?_,O.ne,O'.obj,_,O'.ns,λg=>?_,λg hg=>?_⟩
 .have:=dU f y fs;lia
 .show lG ((cP f y fs).lookup g) (if g=f then some u else mA g);rw[bH]
  by_cases q:g=f
  .rw[if_pos q,if_pos q];exact ry
  .rw[if_neg q,if_neg q];exact r g
 .by_cases q:g=f
  .rw[q];exact(sX f y fs).1
  .refine(sX f y fs).2 g (wi g λz=>hg ?_);show (if g=f then some u else mA g)=none;rw[if_neg q];exact z
theorem Inv.made (I:Inv X pins σ H s):Inv X pins σ (upd (upd H s.heap.objs.size (.own (s.heap.objs.size+1))) (s.heap.objs.size+1) (.ins C s.heap.objs.size []))
  { s with heap:=(s.heap.push W.emptyDict).push (W.instObj C s.heap.objs.size) }:=by
 have e1:(s.heap.push W.emptyDict).get? s.heap.objs.size=some W.emptyDict:=Heap.get?_push_size s.heap rfl;have e2:((s.heap.push W.emptyDict).push (W.instObj C s.heap.objs.size)).get? (s.heap.objs.size+1)=some (W.instObj C s.heap.objs.size):=by
  have:=Heap.get?_push_size (s.heap.push W.emptyDict) (o:=W.instObj C s.heap.objs.size) rfl
  rwa [Heap.size_push] at this
 have e3:(s.heap.push W.emptyDict).Ns s.heap.objs.size (λ_=>none):=⟨W.emptyDict,#[],_,e1,rfl,(λe he=>absurd he ⋯),λ_=>rfl⟩
 have I1:=I.laid (a:=s.heap.objs.size) (o:=.own (s.heap.objs.size+1)) (h':=s.heap.push W.emptyDict) (t':=s.toks) (λb u q=>Heap.get?_push_of_some _ q) (Nat.le_refl _) ⟨_,e1⟩;refine I1.laid (a:=s.heap.objs.size+1) (o:=.ins C s.heap.objs.size []) (t':=s.toks) (λb u q=>Heap.get?_push_of_some _ q) (Nat.le_of_eq (Heap.size_push _ _)) ?_;have ne:s.heap.objs.size≠s.heap.objs.size+1:=Nat.ne_of_lt (Nat.lt_succ_self _);refine⟨by rw[aX ne,aB],Nat.zero_le _,ne,e2,λ_=>none,(Heap.Ns1.of_empty e3).at λo q=>Heap.get?_push_of_some _ q,λ_=>True.intro,λy hy=>absurd rfl hy⟩
theorem Uw (hb:attributeBase e f env (eval e env)=eval e env)(h:wpAny (model prog w) A (eval e env) (λo s₁=>wpAny (model prog w) A (getAttr o f true) Q E s₁) E s):wpAny (model prog w) A (eval (.Attribute e f pos) env) Q E s:=
 Attribute_any_ h (by rw[arm_eval_Attribute,hb])
end
inductive Yu (K:Frag) (f:Str) (Q:VK) (x:V) (H1:Hp):Prop where
 |mk (a C dx fs v):x=.ref a->H1 a=some (.ins C dx fs)->Cls K C->gJ K C f->fs.lookup f=some v->Q v H1->Yu K f Q x H1
def qs5 (K:Frag)(ta:TE)(f:Str):TE:=λσ H Q=>ta σ H λx H1=>Yu K f Q x H1
inductive Yr (K:Frag) (f:Str) (D:jW) (σ:St) (x:V) (H2:Hp) (y:V):Prop where
 |mk (a C dx fs):x=.ref a->H2 a=some (.ins C dx fs)->Cls K C->gJ K C f->fs.length < 1000->D.nx σ (upd H2 a (.ins C dx (cP f y fs)))->Yr K f D σ x H2 y
def qt7 (K:Frag)(ta tv:TE)(f:Str):TS:=λD σ H=>tv σ H λy H1=>ta σ H1 λx H2=>Yr K f D σ x H2 y
section
variable {X:Cx} {o e value:Expr} {f:Str} {pos pos' tpos:Pos} {ta tv:TE}
theorem bX (he:PE X e ta)(hb:attributeBase e f X.env (eval e X.env)=eval e X.env):PE X (.Attribute e f pos) (qs5 X.K ta f):=by
 intro pins s σ H Q I h;refine Uw hb (thn (he pins s σ H _ I h) λu s1 ⟨x,H1,I1,rx,a,C,dx,fs,v,ex,ea,c,n,l,q⟩=>?_);subst ex;obtain rfl:u=Value.ref a:=rx;exact Hr I1 ea c n l λu' s2 I2 ru=>⟨v,H1,I2,ru,q⟩
theorem iC (ha:PE X o ta)(hv:PE X value tv)(hs:swapsWith value (some (.Attribute o f pos')) pos.line X.env=pure false):PS X (.Assign [.Attribute o f pos'] value pos) (qt7 X.K ta tv f):=by
 intro pins s σ H D I h;refine plainObj_wpAny_Assign_Attribute (thn (hv pins s σ H _ I h) λu s1 ⟨y,H1,I1,ry,q⟩=>thn (ha pins s1 σ H1 _ I1 q) λov s2 ⟨x,H2,I2,rx,a,C,dx,fs,ex,ea,c,n,l,q2⟩=>?_) hs;subst ex;obtain rfl:ov=Value.ref a:=rx;exact Gx I2 ea c n l ry λs3 I3=>⟨σ,_,I3,q2⟩
end
section
variable {X:Cx} {pins:List (Addr × Obj)} {σ:St} {H:Hp} {s:Shared} {A:Around} {E:Value->Shared->Prop} {Q:Value->Shared->Prop} {c:Value} {b:Bool}
inductive kF (K:Frag) (H:Hp):V->Value->Prop where
 |non:kF K H .non (.type "NoneType")
 |bl (x:Bool):kF K H (.bl x) (.type "bool")
 |int (i:Int):kF K H (.int i) (.type "int")
 |str (x:Str):kF K H (.str x) (.type "str")
 |flt (x:UInt64):kF K H (.flt x) (.type "float")
 |lst {a:Addr} {xs:List V} (e:H a=some (.lst xs)):kF K H (.ref a) (.type "list")
 |frz {a:Addr} {o:Obj} {xs:List V} (e:H a=some (.frz o (.lst xs))):kF K H (.ref a) (.type "list")
 |tup {a:Addr} {xs:List V} (e:H a=some (.tup xs)):kF K H (.ref a) (.type "tuple")
 |dK {a:Addr} {kvs:List (Key × V)} (e:H a=some (.dK kvs)):kF K H (.ref a) (.type "dict")
 |dT {a:Addr} {kvs:List (List Key × V)} (e:H a=some (.dT kvs)):kF K H (.ref a) (.type "dict")
 |ins {a C dx:Addr} {fs:List (Str × V)} (e:H a=some (.ins C dx fs)) (cl:Cls K C) (ha:W.findIn K (.ref C) "__class__"=some (some (.builtin "object.__class__")))
   (hn:W.specialIn K (.builtin "object.__class__") "__get__"=some (some (.builtin "getset_descriptor.__get__"))) (htk:W.takesIn K (.builtin "object.__class__")=some true)
   (hm:W.mroIn K C (.type "object")=some true):kF K H (.ref a) (.ref C)
theorem Lz (I:Inv X pins σ H s)(rx:cG x u)(ty:kF X.K H x t)(e:W.kitOne X.K t c=some b)(h:∀tk,Q (.bool b) { s with toks:=tk }):
  wpAny (model X.prog X.w) A (call (.builtin "isinstance") [u,c]) Q E s:=by
 cases ty with
 |non=>cases (show u=Value.none from rx);exact W.kia_one W.kitx_none I.kIn True.intro e (λz=>nomatch z) h
 |bl y=>cases (show u=Value.bool y from rx);exact W.kia_one W.kitx_bool I.kIn True.intro e (λz=>nomatch z) h
 |int i=>obtain⟨t,q⟩:=(show ∃t,u=Value.int i t from rx);cases q;exact W.kia_one W.kitx_int I.kIn True.intro e (λz=>nomatch z) h
 |str y=>obtain⟨t,q⟩:=(show ∃t,u=Value.str y t from rx);cases q;exact W.kia_one W.kitx_str I.kIn True.intro e (λz=>nomatch z) h
 |flt y=>obtain⟨t,q⟩:=(show ∃t,u=Value.float y t from rx);cases q;exact W.kia_one W.kitx_float I.kIn True.intro e (λz=>nomatch z) h
 | @lst a xs ea=>
  cases (show u=Value.ref a from rx)
  obtain⟨_,_,n,_,h1⟩:=(show dP X.prog X.w H s.heap a (.lst xs) from I.hok a _ ea)
  exact W.kia_one W.kitx_list I.kIn ⟨_,h1,rfl⟩ e (λz=>nomatch z) h
 | @frz a ob xs ea=>
  cases (show u=Value.ref a from rx)
  obtain⟨_,_,_,n,_,h1⟩:=(show dP X.prog X.w H s.heap a (.frz ob (.lst xs)) from I.hok a _ ea)
  exact W.kia_one W.kitx_list I.kIn ⟨_,h1,rfl⟩ e (λz=>nomatch z) h
 | @tup a xs ea=>
  cases (show u=Value.ref a from rx)
  obtain⟨_,_,_,p⟩:=(show dP X.prog X.w H s.heap a (.tup xs) from I.hok a _ ea)
  obtain⟨o,h1,h2,_⟩:=p;exact W.kia_one W.kitx_tuple I.kIn ⟨o,h1,h2⟩ e (λz=>nomatch z) h
 | @dK a kvs ea=>
  cases (show u=Value.ref a from rx)
  obtain⟨_,_,vs,_,p⟩:=(show dP X.prog X.w H s.heap a (.dK kvs) from I.hok a _ ea)
  obtain⟨o,es,ep,h1,h2,_⟩:=p;exact W.kia_one W.kitx_dict I.kIn ⟨o,h1,h2.1⟩ e (λz=>nomatch z) h
 | @dT a kvs ea=>
  cases (show u=Value.ref a from rx)
  obtain⟨_,_,xs,_,o,es,ep,h1,h2,_⟩:=(show dP X.prog X.w H s.heap a (.dT kvs) from I.hok a _ ea)
  exact W.kia_one W.kitx_dict I.kIn ⟨o,h1,h2.1⟩ e (λz=>nomatch z) h
 | @ins a C dx fs ea cl ha hn htk hm=>
  cases (show u=Value.ref a from rx)
  obtain⟨mA,O,_⟩:=uR I.hok ea;obtain⟨od,J,_⟩:=O.look;exact W.kia_one (W.kitx_own (cl.get _) cl.hd ha hn htk hm) I.kIn J e (λz=>nomatch z) h
end
structure gQ (k:Nat) (A:Around):Prop where
 hd:A.handled=none
 dp:A.depth+3*k+5 < recursionLimit
 un:A.units+16*k+200 < cLine
theorem gQ.mono (r:gQ k A)(h:j<=k):gQ j A:=⟨r.hd,by have:=r.dp;lia,by have:=r.un;lia⟩
theorem gQ.deeper (r:gQ (k+1) A)(env:Env):gQ k (A.deeper env):=
 ⟨r.hd,by have:=r.dp;show A.depth+1+3*k+5 < _;lia,by have:=r.un;show A.units+3+16*k+200 < _;lia⟩
theorem Gs {A:Around}:(A.under (.builtin "type.__call__" ⟨.ref C :: us,kw⟩)).depth=A.depth+1:=by
 first | rfl | simp[Around.under,Code.weight,Code.isCreation,Code.isGuard,Code.isCaller,Code.frames,Code.isFrame,guardIds]
theorem Gv {A:Around}:(A.under (.builtin "type.__call__" ⟨.ref C :: us,kw⟩)).units=A.units+1:=by
 first | rfl | simp[Around.under,Code.cUnits,Code.frames,Code.isFrame]
theorem gQ.make (r:gQ (k+1) A)(C:Addr)(us:List Value)(kw:List (Str × Value)):gQ k (A.under (.builtin "type.__call__" ⟨.ref C :: us,kw⟩)):=
 ⟨r.hd,by have:=r.dp;rw[Gs];lia,by have:=r.un;rw[Gv];lia⟩
theorem gQ.depth (r:gQ k A):A.depth < recursionLimit:=by have:=r.dp;lia
theorem gQ.units (r:gQ k A):A.units+64 < cLine:=by have:=r.un;lia
def qh6:TA:=λ_ H Q=>Q [] H
def qm2 (ta:TE)(tr:TA):TA:=λσ H Q=>ta σ H λx H1=>tr σ H1 λxs H2=>Q (x :: xs) H2
section
variable {X:Cx} {e:Expr} {es:List Expr} {te:TE} {t:TA} {pos:Pos}
theorem aC:PA X [] qh6:=λ_ _ _ _ H Q I h=>Calls.spliced_nil ⟨[],H,I,.nil,h⟩
theorem aA (ha:PE X e te)(hr:PA X es t)(hs:starEach (e :: es) X.env=(false,eval e X.env) :: starEach es X.env:=by rfl):PA X (e :: es) (qm2 te t):=by
 intro pos pins s σ H Q I h;rw[hs];show wpAny _ _ (spliced ((false,eval e X.env) :: backTo pos (starEach es X.env))) _ _ s;refine Calls.spliced_cons (thn (ha pins s σ H _ I h) λu s1 ⟨x,H1,I1,r1,q1⟩=>?_);exact thn (hr pos pins s1 σ H1 _ I1 q1) λus s2 ⟨xs,H2,I2,r2,q2⟩=>⟨x :: xs,H2,I2,.cons r1 r2,q2⟩
def qn7 (t:TA):TE:=λσ H Q=>t σ H λxs H1=>xs.length<=sizeLine/\∀p,H1 p=none->Q (.ref p) (upd H1 p (.tup xs))
def qt2 (t:TA):TE:=λσ H Q=>t σ H λxs H1=>xs.length<=sizeLine/\∀p,H1 p=none->Q (.ref p) (upd H1 p (.lst xs))
theorem cF {x1}(h:PA X es t):PE X (.Tuple es x1 pos) (qn7 t):=by
 intro pins s σ H Q I hq;refine wpAny_Tuple_spliced (thn (h pos pins s σ H _ I hq) λus s1 ⟨xs,H1,I1,r,z,q⟩=>⟨by rw[<- r.length];exact z,?_⟩);have hf:H1 s1.heap.objs.size=none:=I1.hok.fresh (Nat.le_refl _);refine⟨.ref s1.heap.objs.size,upd H1 s1.heap.objs.size (.tup xs),I1.laid (t':=s1.toks) (λb u e=>Heap.get?_push_of_some _ e) (Nat.le_refl _) ?_,rfl,q _ hf⟩;exact⟨z,us,r,⟨_,Heap.get?_push_size _ rfl,rfl,_,rfl⟩⟩
theorem cD (h:PA X es t):PE X (.List es pos) (qt2 t):=by
 intro pins s σ H Q I hq;refine wpAny_List_spliced (thn (h pos pins s σ H _ I hq) λus s1 ⟨xs,H1,I1,r,z,q⟩=>⟨by rw[<- r.length];exact z,?_⟩);have hf:H1 s1.heap.objs.size=none:=I1.hok.fresh (Nat.le_refl _);refine⟨.ref s1.heap.objs.size,upd H1 s1.heap.objs.size (.lst xs),I1.laid (t':=s1.toks) (λb u e=>Heap.get?_push_of_some _ e) (Nat.le_refl _) ?_,rfl,q _ hf⟩;exact⟨z,us,0,r,Heap.get?_push_size _ rfl⟩
end
abbrev Sp:=List V->Hp->VK->XK->Prop
abbrev CXT:=List Env->Hp->Shared->XK->Value->Shared->Prop
structure Fn (P:Program) (w:World) (K:Frag) (mg:Str->Option Value) (base:Heap) (A:Around) (outer:List Env) (s:Shared) (H:Hp):Prop where
 frames:A.frames=some outer
 mod:Mod K mg base
 bs:∀b o,base.get? b=some o->s.heap.get? b=some o/\H b=none
 bsz:base.objs.size<=s.heap.objs.size
 funs:s.heap.FunFrames base outer
 frf:∀b∈frs outer,H b=none
 hok:HOk P w H s.heap
 bare:AllBare s.gens
def CE (outer:List Env)(P:Program)(w:World)(H:Hp)(s:Shared)(Q:VK)(u:Value)(s':Shared):Prop:=
 ∃v H',s'.os=s.os/\AllBare s'.gens/\Un (frs outer) [] H H' s.heap s'.heap/\HOk P w H' s'.heap/\cG v u/\Q v H'
def CR (CX:CXT)(outer:List Env)(P:Program)(w:World)(H:Hp)(s:Shared)(Q:VK)(E:XK)(r:Result)(s':Shared):Prop:=
 match r with
 | .ok (.ret u)=>CE outer P w H s Q u s'
 | .ok _=>False
 | .error e=>CX outer H s E e s'
structure aL (P:Program) (w:World) (K:Frag) (mg:Str->Option Value) (base:Heap) (CX:CXT) (k:Nat) (f:Addr) (fd:FuncData) (ps:List Str) (sp:Sp):Prop where
 len:∀vs H Q E,sp vs H Q E->vs.length=ps.length
 run:∀(A:Around) (outer:List Env) (s:Shared) (H:Hp) (args:Args) (us:List Value) (vs:List V) (Q:VK) (E:XK),gQ k A->Fn P w K mg base A outer s H->BindsTo s fd args (ps.zip us)->cE vs us->sp vs H Q E->
  codeAny (model P w) A (.call (.ref f) args) (CR CX outer P w H s Q E) s
theorem Fn.make {K:Frag}(e:Fn P w K mg base A outer s H)(C:Addr)(us:List Value)(kw:List (Str × Value)):
  Fn P w K mg base (A.under (.builtin "type.__call__" ⟨.ref C :: us,kw⟩)) outer s H:=⟨by first | exact e.frames | (simpa[Around.under,Code.envs,Code.isFrame,pushEnvs] using e.frames),e.mod,e.bs,e.bsz,e.funs,e.frf,e.hok,e.bare⟩
section
variable {X:Cx} {pins:List (Addr × Obj)} {σ:St} {H:Hp} {s s':Shared}
theorem Inv.env0 (I:Inv X pins σ H s):Fn X.prog X.w X.K X.mg X.base X.A X.stack s H:=
 ⟨I.ok.frames,I.ok.mod,I.bs,Nat.le_trans I.ok.bsz I.sz,I.stack,I.stkFree,I.hok,I.bare⟩
theorem Inv.after (I:Inv X pins σ H s)(h:CE X.stack X.prog X.w H s Q u s'):EP X pins σ Q u s':=by
 obtain⟨v,H',os,bare,un,hok,r,q⟩:=h;obtain⟨hh,g,d,t,os'⟩:=s';obtain rfl:os'=s.os:=os;exact⟨v,H',I.call (h':=hh) (g':=g) (d':=d) (t':=t) (ch:=[]) un hok bare (λb z=>absurd z ⋯),r,q⟩
end
def qk9 (sp:Sp)(dvs:List V)(E:XK)(t:TA):TE:=λσ H Q=>t σ H λvs H1=>sp (vs++dvs) H1 Q E
inductive Te (C:Addr) (m:Str) (sp:Sp) (dvs:List V) (E:XK) (t:TA) (σ:St) (Q:VK) (x:V) (H1:Hp):Prop where
 |mk (a dx fs):x=.ref a->H1 a=some (.ins C dx fs)->fs.lookup m=none->(t σ H1 λvs H2=>sp (x :: (vs++dvs)) H2 Q E)->Te C m sp dvs E t σ Q x H1
def Ym (C:Addr)(m:Str)(sp:Sp)(dvs:List V)(E:XK)(ta:TE)(t:TA):TE:=λσ H Q=>ta σ H λx H1=>Te C m sp dvs E t σ Q x H1
def qm6 (C:Addr)(sp:Sp)(dvs:List V)(E:XK)(t:TA):TE:=λσ H Q=>t σ H λvs H1=>∀x dx,H1 x=none->H1 dx=none->dx≠x->
 sp (.ref x :: (vs++dvs)) (upd (upd H1 dx (.own x)) x (.ins C dx [])) (λv H2=>v=.non/\Q (.ref x) H2) E
def aM (K:Frag)(fd:FuncData)(ps:List Str)(ds:List Value):Prop:=
 ∀(s:Shared) (us:List Value),K.In s.heap->(us++ds).length=ps.length->BindsTo s fd ⟨us,[]⟩ (ps.zip (us++ds))
theorem aM.all {K:Frag}(h:∀us:List Value,us.length=ps.length->bindArgs fd ⟨us,[]⟩=pure (ps.zip us)):aM K fd ps []:=λs us _ hl=>by
 rw[append_nil] at hl ⊢;exact .of_eq (h us hl)
def jV (CX:CXT)(X:Cx)(E:XK):Prop:=∀(pins:List (Addr × Obj)) (σ:St) (H:Hp) (s:Shared) (e:Value) (s':Shared),Inv X pins σ H s->CX X.stack H s E e s'->X.xe e s'
section
variable {X:Cx} {CX:CXT} {k:Nat} {f C:Addr} {fd:FuncData} {ps:List Str} {sp:Sp} {dvs:List V} {ds:List Value} {E:XK} {x m:Str} {p pos apos:Pos} {e o:Expr} {es:List Expr} {ta:TE} {t:TA}
theorem wS (F:aL X.prog X.w X.K X.mg X.base CX k f fd ps sp)(hr:gQ k X.A)(hb:aM X.K fd ps ds)(hd:cE dvs ds)(hx:jV CX X E)(I:Inv X pins σ H s)(r:cE vs us)(h:sp (vs++dvs) H Q E):wpAny (model X.prog X.w) X.A (call (.ref f) us) (EP X pins σ Q) X.xe s:=by
 have r2:cE (vs++dvs) (us++ds):=r.append hd;have hl:(us++ds).length=ps.length:=by rw[<- r2.length];exact F.len _ _ _ _ h
 refine wpAny_call (codeAny_mono (F.run X.A X.stack s H ⟨us,[]⟩ (us++ds) (vs++dvs) Q E hr I.env0 (hb s us I.kIn hl) r2 h) λr s' hq=>?_)
 cases r with
 |error e=>exact hx pins σ H s e s' I hq
 |ok fl=>
  cases fl with
  |ret u=>exact I.after hq
  |next=>exact False.elim hq
  |brk=>exact False.elim hq
  |cont=>exact False.elim hq
theorem aH (F:aL X.prog X.w X.K X.mg X.base CX k f fd ps sp)(hr:gQ k X.A)(hg:Gl X x)(hm:X.mg x=some (.ref f))(hk:W.keepIn X.K (.ref f)=true)(hb:aM X.K fd ps ds)(hd:cE dvs ds)(hx:jV CX X E)(ha:PA X (e :: es) t)(hdb:(x == ("__debug__":Str))=false:=by decide)(he:starEach (e :: es) X.env=(false,eval e X.env) :: starEach es X.env:=by rfl)(hpl:(backTo pos (starEach es X.env)).any (·.1)=false:=by rfl) :
  PE X (.Call (.Name x p) (e :: es) [] pos) (qk9 sp dvs E t):=by
 intro pins s σ H Q I h;refine wpAny_Call_Name_kw (qU I hg hm ?_ hdb);refine W.callWith_K (h₀:=X.base) I.ok.mod.kin hk (thn (ha pos pins s σ H _ I h) λus s1 ⟨vs,H1,I1,r,q⟩=>⟨I1.kIn,?_⟩) he hpl;exact wS F hr hb hd hx I1 r q
theorem uS (he:PE X o ta)(c:Cls X.K C)(hm:dE X.K C m f)(F:aL X.prog X.w X.K X.mg X.base CX k f fd ps sp)(hr:gQ k X.A)(hb:aM X.K fd ps ds)(hd:cE dvs ds)(hx:jV CX X E)(ha:PA X (e :: es) t)(hst:starEach (e :: es) X.env=(false,eval e X.env) :: starEach es X.env:=by rfl)(hpl:(backTo pos (starEach es X.env)).any (·.1)=false:=by rfl)(ht:eval (.Call (.Attribute o m apos) (e :: es) [] pos) X.env=(do
   let ov <- eval o X.env
   standAt apos.atName
   let (f,first) <- holding [ov] (getMethod ov m pl)
   callWith pos f first (backTo pos (starEach (e :: es) X.env)) (backToKw pos (keywordEach [] X.env))):=by rfl):
  PE X (.Call (.Attribute o m apos) (e :: es) [] pos) (Ym C m sp dvs E ta t):=by
 intro pins s σ H Q I h;refine W.methodCall_KW (pl:=pl) (thn (he pins s σ H _ I h) λu s1 ⟨x,H1,I1,rx,a,dx,fs,ex,ea,l,q⟩=>?_) ht;subst ex;obtain rfl:u=Value.ref a:=rx;refine iT I1 ea c hm l ?_;refine W.callWith_K (first:=[.ref a]) (h₀:=X.base) I.ok.mod.kin hm.kp (thn (ha pos pins s1 σ H1 _ I1 q) λus s2 ⟨vs,H2,I2,r,q2⟩=>⟨I2.kIn,?_⟩) hst hpl;exact wS (us:=.ref a :: us) (vs:=.ref a :: vs) F hr hb hd hx I2 (.cons rfl r) q2
theorem bN (he:PE X o ta)(c:Cls X.K C)(hm:dE X.K C m f)(F:aL X.prog X.w X.K X.mg X.base CX k f fd ps sp)(hr:gQ k X.A)(hb:aM X.K fd ps ds)(hd:cE dvs ds)(hx:jV CX X E)(ht:eval (.Call (.Attribute o m apos) [] [] pos) X.env=(do
   let ov <- eval o X.env
   standAt apos.atName
   let (f,first) <- holding [ov] (getMethod ov m pl)
   callWith pos f first (backTo pos (starEach [] X.env)) (backToKw pos (keywordEach [] X.env))):=by rfl):
  PE X (.Call (.Attribute o m apos) [] [] pos) (Ym C m sp dvs E ta qh6):=by
 intro pins s σ H Q I h;refine W.methodCall_KW (pl:=pl) (thn (he pins s σ H _ I h) λu s1 ⟨x,H1,I1,rx,a,dx,fs,ex,ea,l,q⟩=>?_) ht;subst ex;obtain rfl:u=Value.ref a:=rx;refine iT I1 ea c hm l ?_;exact W.callWith_K0 (first:=[.ref a]) I1.kIn hm.kp (wS (us:=[.ref a]) (vs:=[.ref a]) F hr hb hd hx I1 (.cons rfl .nil) q)
structure Mk (K:Frag) (C f:Addr):Prop where
 makes:W.makesIn K C=true
 init:W.findIn K (.ref C) "__init__"=some (some (.ref f))
 fn:W.isFn K (.ref f)=true
 kp:W.keepIn K (.ref C)=true
theorem Re (M:Mk X.K C f)(F:aL X.prog X.w X.K X.mg X.base CX k f fd ps sp)(hr:gQ (k+1) X.A)(hb:aM X.K fd ps ds)(hd:cE dvs ds)(hx:jV CX X E)(I:Inv X pins σ H s)(r:cE vs us)(h:∀x dx,H x=none->H dx=none->dx≠x->sp (.ref x :: (vs++dvs)) (upd (upd H dx (.own x)) x (.ins C dx [])) (λv H2=>v=.non/\Q (.ref x) H2) E):
  wpAny (model X.prog X.w) X.A (call (.ref C) us) (EP X pins σ Q) X.xe s:=by
 have hq:=h (s.heap.objs.size+1) s.heap.objs.size (I.hok.fresh (Nat.le_succ _)) (I.hok.fresh (Nat.le_refl _)) (Nat.ne_of_lt (Nat.lt_succ_self _));have I2:=Inv.made (C:=C) I;have r2:cE (V.ref (s.heap.objs.size+1) :: (vs++dvs)) (Value.ref (s.heap.objs.size+1) :: (us++ds)):=.cons rfl (r.append hd);have hl:(Value.ref (s.heap.objs.size+1) :: us++ds).length=ps.length:=by
  have e:=r2.length;rw[F.len _ _ _ _ hq] at e;exact e.symm
 refine wpAny_call (Pg (f:=f) I.kIn M.makes M.init (beq_iff_eq.mp M.fn) (codeAny_mono (F.run _ X.stack _ _ ⟨Value.ref (s.heap.objs.size+1) :: us,[]⟩ (Value.ref (s.heap.objs.size+1) :: (us++ds)) _ _ E (hr.make C us [])
  (I2.env0.make C us []) (hb _ (Value.ref (s.heap.objs.size+1) :: us) I2.kIn hl) r2 hq) λr s' hq'=>?_))
 cases r with
 |error e=>exact hx pins σ _ _ e s' I2 hq'
 |ok fl=>
  cases fl with
  |ret u=>
   obtain⟨v,H',I3,rv,ev,q3⟩:=I2.after hq';subst ev;exact⟨rv,⟨V.ref (s.heap.objs.size+1),H',I3,rfl,q3⟩⟩
  |next=>exact False.elim hq'
  |brk=>exact False.elim hq'
  |cont=>exact False.elim hq'
theorem gN (M:Mk X.K C f)(F:aL X.prog X.w X.K X.mg X.base CX k f fd ps sp)(hr:gQ (k+1) X.A)(hg:Gl X x)(hm:X.mg x=some (.ref C))(hb:aM X.K fd ps ds)(hd:cE dvs ds)(hx:jV CX X E)(ha:PA X (e :: es) t)(hdb:(x == ("__debug__":Str))=false:=by decide)(he:starEach (e :: es) X.env=(false,eval e X.env) :: starEach es X.env:=by rfl)(hpl:(backTo pos (starEach es X.env)).any (·.1)=false:=by rfl) :
  PE X (.Call (.Name x p) (e :: es) [] pos) (qm6 C sp dvs E t):=by
 intro pins s σ H Q I h;refine wpAny_Call_Name_kw (qU I hg hm ?_ hdb);refine W.callWith_K (h₀:=X.base) I.ok.mod.kin M.kp (thn (ha pos pins s σ H _ I h) λus s1 ⟨vs,H1,I1,r,q⟩=>⟨I1.kIn,?_⟩) he hpl;exact Re M F hr hb hd hx I1 r q
end
structure aR (N P:List Str) (sc:Scope):Prop where
 kind:sc.kind=.function
 co:sc.isCoroutine=false
 gen:sc.isGenerator=false
 nd:N.Nodup
 pre:N.take P.length=P
 par:∀x∈P,sc.names.lookup x=some .local\/sc.names.lookup x=some .cell
 nofree:∀y∈sc.names,y.2≠.free
theorem sK9 (a:sc.kind=.function:=by rfl)(b:sc.isCoroutine=false:=by rfl)(c:sc.isGenerator=false:=by rfl)(d:N.take P.length=P:=by rfl)(e:(decide N.Nodup&&decide (∀x∈P,sc.names.lookup x=some .local\/sc.names.lookup x=some .cell)&&decide (∀y∈sc.names,y.2≠.free))=true:=by decide +kernel):aR N P sc:=by
 rw[Bool.and_eq_true,Bool.and_eq_true] at e
 exact ⟨a,b,c,of_decide_eq_true e.1.1,d,of_decide_eq_true e.1.2,of_decide_eq_true e.2⟩
theorem zl9 (n:Nat)(h:n<=16:=by decide):n<=sizeLine:=Nat.le_trans h ∅
abbrev kI9 (K:Frag)(g:Addr):Prop:=W.keepIn K (.ref g)=true
abbrev mI9 (mg:Str->Option Value)(x:Str)(g:Addr):Prop:=mg x=some (.ref g)
theorem yT {kindOf:Str->Option NameKind}:∀{binds:List (Str × Value)} {m:Str->Option Value},(∀v,(x,v)∉binds)->bindL kindOf binds m x=m x
 | [],_,_=>rfl
 | (n,v) :: r,m,h=>by
  unfold bindL;rw[yT λw hw=>h w (mem_cons_of_mem _ hw)];split
  .have:x≠n:=by rintro rfl;exact h v mem_cons_self
   simp[this]
  .rfl
theorem yQ {kindOf:Str->Option NameKind}:∀{binds:List (Str × Value)} {m:Str->Option Value},(∀v,(x,v)∉binds)->bindC kindOf binds m x=m x
 | [],_,_=>rfl
 | (n,v) :: r,m,h=>by
  unfold bindC;rw[yQ λw hw=>h w (mem_cons_of_mem _ hw)];split
  .rfl
  .have:x≠n:=by rintro rfl;exact h v mem_cons_self
   simp[this]
theorem zB {kindOf:Str->Option NameKind}:∀{P:List Str} {vs:List Value} {i:Nat} {m:Str->Option Value},P.Nodup->P[i]?=some x->vs[i]?=some v->kindOf x=some .local->
  bindL kindOf (P.zip vs) m x=some v
 | [],_,_,_,_,h,_,_=>by simp at h
 |_ :: _,[],_,_,_,_,h,_=>by simp at h
 |p :: P,w :: vs,0,m,nd,h1,h2,hk=>by
  simp at h1 h2;subst h1;subst h2;show bindL kindOf ((p,w) :: P.zip vs) m p=_;unfold bindL;rw[yT λv hv=>(nodup_cons.mp nd).1 (of_mem_zip hv).1,if_pos hk];simp
 |p :: P,w :: vs,i+1,m,nd,h1,h2,hk=>by
  show bindL kindOf ((p,w) :: P.zip vs) m x=_;unfold bindL;exact zB (i:=i) (nodup_cons.mp nd).2 (by simpa using h1) (by simpa using h2) hk
theorem yL {kindOf:Str->Option NameKind}:∀{P:List Str} {vs:List Value} {i:Nat} {m:Str->Option Value},P.Nodup->P[i]?=some x->vs[i]?=some v->kindOf x≠some .local->
  bindC kindOf (P.zip vs) m x=some v
 | [],_,_,_,_,h,_,_=>by simp at h
 |_ :: _,[],_,_,_,_,h,_=>by simp at h
 |p :: P,w :: vs,0,m,nd,h1,h2,hk=>by
  simp at h1 h2;subst h1;subst h2;show bindC kindOf ((p,w) :: P.zip vs) m p=_;unfold bindC;rw[yQ λv hv=>(nodup_cons.mp nd).1 (of_mem_zip hv).1,if_neg hk];simp
 |p :: P,w :: vs,i+1,m,nd,h1,h2,hk=>by
  show bindC kindOf ((p,w) :: P.zip vs) m x=_;unfold bindC;exact yL (i:=i) (nodup_cons.mp nd).2 (by simpa using h1) (by simpa using h2) hk
def start (N:List Str)(vs:List V):St:=vs.map some++replicate (N.length - vs.length) none
def yC (CX:CXT)(P:Program)(w:World)(K:Frag)(mg:Str->Option Value)(base:Heap)(N:List Str)(qual:Str)(scope:Scope)(f:Addr)(cd:Value)(A:Around)(outer:List Env)(s:Shared)(H:Hp)(E:XK):Cx where
 prog:=P
 w:=w
 K:=K
 mg:=mg
 base:=base
 A:=A.deeper (envOfC qual scope s.heap.objs.size f cd)
 N:=N
 s₀:=s
 H₀:=H
 env:=envOfC qual scope s.heap.objs.size f cd
 outer:=outer
 stack:=envOfC qual scope s.heap.objs.size f cd :: outer
 ex:=[]
 calm:=true
 fn:=λ_=>true
 pn:=[]
 xe:=λe s'=>wpAny (model P w) (A.deeper (envOfC qual scope s.heap.objs.size f cd)) (leaving (envOfC qual scope s.heap.objs.size f cd) e) (λ_ s''=>CX outer H s E e s'') (λe' s''=>CX outer H s E e' s'') s'
theorem Fa {sc:Scope}(h:sc.names.lookup x=some .cell):∃c,(cellsFrom n sc.names []).lookup x=some c:=by
 have q:=W.cellsFrom_some sc.names n [] (.inl h);exact Option.isSome_iff_exists.mp q
theorem Ni {K:Frag}(S:aR N ps scope)(hd:A.handled=none)(e0:Fn P w K mg base A outer s H)(hl:vs.length=ps.length)(r:cE vs us)(x:InCallC s s.heap.objs.size (bindL (envOfC qual scope s.heap.objs.size f cd).kindOf (ps.zip us) λ_=>none) (cellsFrom (s.heap.objs.size+1) scope.names []) (bindC (envOfC qual scope s.heap.objs.size f cd).kindOf (ps.zip us) λ_=>none) s1):
  Inv (yC CX P w K mg base N qual scope f cd A outer s H E) [] (start N vs) H s1:=by
 have hpl:ps.length<=N.length:=by have:=congrArg List.length S.pre;rw[length_take] at this;lia
 obtain⟨h1,tk,rfl,hk⟩:=x.done;have noA:∀b:Addr,b∉(yC CX P w K mg base N qual scope f cd A outer s H E).ex:=λb z=>absurd (show b∈([]:List Addr) from z) ⋯;refine⟨⟨e0.mod,S.kind,rfl,rfl,Nat.le_refl _,λy z c h1 h2=>?_,λy hy=>?_,λy c _ h=>?_,λ_=>hd,Around.frames_deeper e0.frames,.inr ⟨rfl,rfl⟩,λb z=>absurd z (noA b),e0.bs,e0.bsz,λb _ _=>noA b,λb z=>absurd z (noA b),e0.funs,e0.frf⟩,
  rfl,e0.bare,Un.kept hk,⟨_,x.toInCall.ns,λi y v h1 h2 h3=>?_⟩,λy c h=>⟨_,x.cell y c h⟩,e0.hok.fresh (Nat.le_refl _),λy c h=>?_,λp hp=>absurd (show p∈([]:List (Addr × Obj)) from hp) ⋯,e0.hok.kept hk,?_⟩
 .exact name_of_addr x.apart (PySem.mem_of_lookup h1) (PySem.mem_of_lookup h2)
 .have hy:scope.names.lookup y=some .cell\/scope.names.lookup y=some .free:=hy;rcases hy with hy | hy
  .exact Fa hy
  .exact absurd rfl (S.nofree _ (PySem.mem_of_lookup hy))
 .exact Nat.le_of_lt (x.above y c (PySem.mem_of_lookup h))
 .have hi:i < vs.length:=by
   unfold start at h2
   by_cases hi:i < vs.length
   .exact hi
   .rw[getElem?_append_right (by simpa using hi)] at h2;rw[getElem?_replicate] at h2;split at h2<;>cases h2
  have ha:vs[i]?=some v:=by
   unfold start at h2;rw[getElem?_append_left (by simpa using hi),getElem?_map] at h2
   cases e:vs[i]? with
   |none=>rw[e] at h2;cases h2
   |some a=>rw[e] at h2;cases h2;rfl
  obtain⟨u,hu,rv⟩:=r.get ha;have hp:ps[i]?=some y:=by
   rw[<- S.pre,getElem?_take_of_lt ()];exact h1
  have ndP:ps.Nodup:=by rw[<- S.pre];exact S.nd.sublist (take_sublist _ _)
  refine⟨u,rv,?_⟩;rcases S.par y (mem_of_getElem? hp) with k | k
  .exact .inl ⟨k,zB ndP hp hu k⟩
  .obtain⟨c,e⟩:=Fa (n:=s.heap.objs.size+1) k;refine .inr ⟨.inl k,c,e,?_⟩;have q:=x.cell y c e;rw[yL ndP hp hu (by show scope.names.lookup y≠_;rw[k];decide)] at q;exact q
 .exact e0.hok.fresh (Nat.le_of_lt (x.above y c (PySem.mem_of_lookup h)))
 .unfold start;show _=N.length;rw[List.length_append,length_map,length_replicate];lia
theorem qq5 {K:Frag}{dV kV doc pm cdv ct oc:Value}(lk:K.lookup f=some ⟨oc,od,.func (W.fnOf name qual params body scope dV kV doc pm an cdv ct),osl⟩)(hcd:W.codeIn K cdv qual=true)(S:aR N ps scope)(len:∀vs H Q E,sp vs H Q E->vs.length=ps.length)(hbody:∀(A:Around) (outer:List Env) (s:Shared) (H:Hp) (vs:List V) (Q:VK) (E:XK),gQ k (A.deeper (envOfC qual scope s.heap.objs.size f cdv))->sp vs H Q E->
   ∃t,PSs (yC CX P w K mg base N qual scope f cdv A outer s H E) body t/\t { nx:=λ_ H'=>Q .non H',rt:=Q } (start N vs) H):
  aL P w K mg base CX (k+1) f (W.fnOf name qual params body scope dV kV doc pm an cdv ct) ps sp:=by
 refine⟨len,λA outer s H args us vs Q E hr e0 hb r hsp=>?_⟩;have hl:=len _ _ _ _ hsp;have KX:K.In s.heap:=e0.mod.kin.keeps λb o e=>(e0.bs b o e).1;have lim:s.heap.NoLimit:=e0.mod.nolimit.keeps λb o e=>(e0.bs b o e).1;have hkind:∀y∈ps.zip us,scope.names.lookup y.1=some .local\/(scope.names.lookup y.1=some .cell/\((cellsFrom (s.heap.objs.size+1) scope.names []).lookup y.1).isSome=true):=λ⟨n,v⟩ hy=>by
  rcases S.par n (of_mem_zip hy).1 with q | q
  .exact .inl q
  .exact .inr ⟨q,W.cellsFrom_some _ _ _ (.inl q)⟩
 refine codeAny_call_function hr.depth (KX _ _ lk) rfl S.co S.gen rfl (W.codeRec_of KX hcd) (hb _ _ _ _ ?_);refine wpAny_newFunctionEnv_cells S.kind hkind λenv he s1 x=>?_;subst he;refine⟨lim.keeps x.toInCall.keep,codeAny_func ?_⟩;obtain⟨t,ht,hq⟩:=hbody A outer s H vs Q E (hr.deeper _) hsp;have I:Inv (yC CX P w K mg base N qual scope f cdv A outer s H E) [] (start N vs) H s1:=Ni S hr.hd e0 hl r x;refine wpAny_mono (ht [] s1 (start N vs) H _ I hq) (λfl s' hs=>?_) λe s' hs=>hs;have fin:∀{σ':St} {H':Hp} {v:V} {u:Value},Inv (yC CX P w K mg base N qual scope f cdv A outer s H E) [] σ' H' s'->cG v u->Q v H'->CE outer P w H s Q u s':=
  λ{σ' H' v u} J rv q=>⟨v,H',J.os,J.bare,J.base,J.hok,rv,q⟩
 cases fl with
 |ret u=>
  obtain⟨v,σ',H',J,rv,q⟩:=hs;exact fin J rv q
 |next=>
  obtain⟨σ',H',J,q⟩:=hs;exact fin (v:=V.non) (u:=Value.none) J rfl q
 |brk=>
  obtain⟨_,_,_,q⟩:=hs;exact False.elim q
 |cont=>
  obtain⟨_,_,_,q⟩:=hs;exact False.elim q
section
variable {X:Cx} {x:Str} {p pos:Pos} {e:Expr} {es:List Expr} {t:TA} {id T:String} {r:List V->Hp->VK->Prop}
def tCB (r:List V->Hp->VK->Prop)(t:TA):TE:=λσ H Q=>t σ H λvs H1=>r vs H1 Q
theorem bL (hc:oX X (.builtin id) r)(hg:Gl X x)(hm:X.mg x=none)(hv:bootBuiltins x=some (.builtin id))(ha:PA X (e :: es) t)(hn:x≠"__name__":=by decide)(hdb:(x == ("__debug__":Str))=false:=by decide)(he:starEach (e :: es) X.env=(false,eval e X.env) :: starEach es X.env:=by rfl)(hpl:(backTo pos (starEach es X.env)).any (·.1)=false:=by rfl):PE X (.Call (.Name x p) (e :: es) [] pos) (tCB r t):=by
 intro pins s σ H Q I h;refine wpAny_Call_Name_kw (jR I hg hm hv ?_ hn hdb);exact PyProof.Rows.callWith_builtin1 (thn (ha pos pins s σ H _ I h) λus s1 ⟨vs,H1,I1,r1,q1⟩=>hc pins s1 σ H1 vs us Q I1 r1 q1) he hpl
theorem iQ (hc:oX X (.type T) r)(hg:Gl X x)(hm:X.mg x=none)(hv:bootBuiltins x=some (.type T))(ha:PA X (e :: es) t)(hn:x≠"__name__":=by decide)(hdb:(x == ("__debug__":Str))=false:=by decide)(he:starEach (e :: es) X.env=(false,eval e X.env) :: starEach es X.env:=by rfl)(hpl:(backTo pos (starEach es X.env)).any (·.1)=false:=by rfl):PE X (.Call (.Name x p) (e :: es) [] pos) (tCB r t):=by
 intro pins s σ H Q I h;refine wpAny_Call_Name_kw (jR I hg hm hv ?_ hn hdb);exact PyProof.Rows.callWith_type1 (thn (ha pos pins s σ H _ I h) λus s1 ⟨vs,H1,I1,r1,q1⟩=>hc pins s1 σ H1 vs us Q I1 r1 q1) he hpl
end
end L2
namespace HT
open PySem PyProof.Rows
section
variable {prog:Program} {w:World} {A:Around} {E:Value->Shared->Prop} {s:Shared}
theorem cat_tup (ht:IsTup s.heap t vs.toArray)(hb:IsTup s.heap b ws.toArray)(hv:vs≠[])(h1:ws=[]->Q (.ref t) s)(h2:ws≠[]->Q (.ref s.heap.objs.size) { s with heap:=s.heap.push { cls:=.type "tuple",data:=.seq (vs++ws).toArray } })(hsz:vs.length+ws.length<=sizeLine):wpAny (model prog w) A (binaryOp .Add (.ref t) (.ref b)) Q E s:=by
 obtain⟨⟨cls,dd,data,sl⟩,ho,hc,n,hd⟩:=id ht;obtain⟨⟨cls2,dd2,data2,sl2⟩,ho2,hc2,n2,hd2⟩:=id hb;simp only at hc hd hc2 hd2;subst hc hd hc2 hd2;have e:vs.toArray++ws.toArray=(vs++ws).toArray:=by simp
 by_cases hw:ws=[]
 .exact concat_meets ⟨_,ho,rfl⟩ ⟨_,ho2,rfl⟩ noFill_tuple_add seq_tuple_add PySem.F.slot_tuple_add PySem.F.entry_tuple_add (PySem.F.args_tuple_add_2 _ _)
   (tuple_addW1 t b vs.toArray ws.toArray n n2 dd dd2 sl sl2 (by simpa using hv) (by simp[hw])) ⟨ho,ho2,h1 hw⟩
 .refine concat_meets ⟨_,ho,rfl⟩ ⟨_,ho2,rfl⟩ noFill_tuple_add seq_tuple_add PySem.F.slot_tuple_add PySem.F.entry_tuple_add (PySem.F.args_tuple_add_2 _ _)
   (tuple_addW2 t b vs.toArray ws.toArray n n2 dd dd2 sl sl2 (by simpa using hv) (by simpa using hw) (by rw[size_toArray,size_toArray];exact hsz)) ⟨ho,ho2,?_⟩
  rw[e];exact h2 hw
def sIx (n d:Nat):Option Int->Nat
 |none=>d
 |some v=>if v < 0 then (v+(n:Int)).toNat else min v.toNat n
theorem sIx_nat (n d k:Nat):sIx n d (some (k:Int))=min k n:=by
 show (if (k:Int) < 0 then ((k:Int)+(n:Int)).toNat else min (k:Int).toNat n)=min k n;rw[if_neg (),Int.toNat_natCast]
theorem Zs (n d:Nat)(hd:d<=n)(o:Option Int):sIx n d o<=n:=by
 cases o with
 |none=>exact hd
 |some v=>
  show (if v < 0 then (v+(n:Int)).toNat else min v.toNat n)<=n
  by_cases hv:v < 0
  .rw[if_pos hv];lia
  .rw[if_neg hv];exact Nat.min_le_right _ _
theorem Jw (v:Int)(n d:Nat):(if v < 0 then max (v+(n:Int)) 0 else min v (n:Int))=((sIx n d (some v):Nat):Int):=by
 show (if v < 0 then max (v+(n:Int)) 0 else min v (n:Int))=(((if v < 0 then (v+(n:Int)).toNat else min v.toNat n):Nat):Int)
 by_cases hv:v < 0
 .simp only[if_pos hv];lia
 .simp only[if_neg hv];lia
theorem Hk (lo hi:Option Int)(n:Nat):Builtin.Slice.sliceAdjust lo hi 1 (n:Int)=(((sIx n 0 lo:Nat):Int),((sIx n n hi:Nat):Int)):=by
 have h1:¬((1:Int) < 0):=by lia
 unfold Builtin.Slice.sliceAdjust;simp only[h1,if_false];refine Prod.ext ?_ ?_
 .cases lo with
  |none=>rfl
  |some v=>exact Jw v n 0
 .cases hi with
  |none=>rfl
  |some v=>exact Jw v n n
theorem Gn (i j:Nat):Builtin.Slice.slicePlaces (i:Int) (j:Int) 1=j - i:=by
 unfold Builtin.Slice.slicePlaces;have h1:(1:Int) > 0:=by lia
 simp only[h1,if_true,Int.ediv_one];split<;>lia
theorem vX (p:IsPart v o)(h:Q o s):wpAny (model prog w) A (Builtin.Slice.slicePartIndex v) Q E s:=by
 cases p with
 |none=>exact slicePart_none h
 |int i t=>exact slicePart_int h
theorem rK {lo hi:Option Int}{n:Nat}(hs:s.heap.IsSliceOf sl vl vu .none)(pl:IsPart vl lo)(pu:IsPart vu hi)(h:Q (((sIx n 0 lo:Nat):Int),1,sIx n n hi - sIx n 0 lo) s):wpAny (model prog w) A (Builtin.Slice.sliceApplied (.ref sl) (pure (n:Int))) Q E s:=by
 obtain⟨os,hos,hcs,hds⟩:=id hs;unfold Builtin.Slice.sliceApplied Builtin.Slice.sliceFields;refine wpAny_bind (wpAny_bind (wpAny_field hos hds (x:=vl) rfl (wpAny_bind (wpAny_field hos hds (x:=vu) rfl (wpAny_bind (wpAny_field hos hds (x:=.none) rfl (wpAny_pure ?_)))))));refine wpAny_bind (slicePart_none ?_);show wpAny _ _ (if ((1:Int) == 0)=true then _ else _) _ _ s;rw[if_neg ∅];refine wpAny_bind (vX pl (wpAny_bind (vX pu (wpAny_bind (wpAny_pure ?_)))));show wpAny _ _ (match Builtin.Slice.sliceAdjust lo hi 1 (n:Int) with | (lo,hi)=>pure (lo,(1:Int),Builtin.Slice.slicePlaces lo hi 1)) _ _ s;rw[Hk lo hi n];show wpAny _ _ (pure (((sIx n 0 lo:Nat):Int),(1:Int),Builtin.Slice.slicePlaces ((sIx n 0 lo:Nat):Int) ((sIx n n hi:Nat):Int) 1)) _ _ s;rw[Gn];exact wpAny_pure h
theorem Qm (xs:Array Value)(i k:Nat):((List.range k).filterMap λ(m:Nat)=>xs[((i:Int)+(m:Int)*1).toNat]?).toArray=((xs.toList.drop i).take k).toArray:=by
 have e:(λ(m:Nat)=>xs[((i:Int)+(m:Int)*1).toNat]?)=λm=>xs[i+m]?:=by
  funext m
  have:((i:Int)+(m:Int)*1).toNat=i+m:=by lia
  rw[this]
 rw[e];have:=pick_run xs i k;rw[filterMap_map] at this;have e2:((λx=>xs[x]?) ∘ λx=>i+x)=λm=>xs[i+m]?:=rfl;rw[e2] at this;rw[this]
theorem getItem_tuple_cut {lo hi:Option Int}(ht:IsTup s.heap t items)(hs:s.heap.IsSliceOf sl vl vu .none)(pl:IsPart vl lo)(pu:IsPart vu hi)(hw:¬(sIx items.size 0 lo=0/\sIx items.size items.size hi=items.size))(h:Q (.ref s.heap.objs.size) { s with heap:=s.heap.push { cls:=.type "tuple",data:=.seq ((items.toList.drop (sIx items.size 0 lo)).take (sIx items.size items.size hi - sIx items.size 0 lo)).toArray } })(hsz:items.size<=sizeLine):wpAny (model prog w) A (getItem (.ref t) (.ref sl)) Q E s:=by
 have htake:sizeOk (.seq ((items.toList.drop (sIx items.size 0 lo)).take (sIx items.size items.size hi - sIx items.size 0 lo)).toArray):=by
  show ((items.toList.drop (sIx items.size 0 lo)).take (sIx items.size items.size hi - sIx items.size 0 lo)).toArray.size<=sizeLine;rw[size_toArray,length_take,length_drop,Array.length_toList];lia
 have hj:sIx items.size items.size hi<=items.size:=Zs _ _ (Nat.le_refl _) hi;obtain⟨os,hos,hcs,hds⟩:=id hs;have hTs:s.TypeIs (.ref sl) "slice":=⟨os,hos,hcs⟩
 unfold getItem
 try with_reducible refine wpAny_holding ?_
 first | refine wpAny_bind (wpAny_pure ?_) | skip
 refine wpAny_bind (wpAny_sequenceKey ht.typeIs ∅ ?_);refine wpAny_bind (wpAny_callSpecial?_slot (name:=Str.ofString "__getitem__") ht.typeIs PyProof.Rows.slot_tuple_getitem
  (wpAny_call_entry PyProof.Rows.slot_tuple_getitem ht.typeIs entry_tuple_getitem ?_ (args_tuple_getitem _ _)))
 show wpAny _ _ (Builtin.Tuple.tupleItemsOf (.ref t) >>= _) _ _ s;refine wpAny_bind (tupleItemsOf_ ht ?_);refine wpAny_bind (wpAny_typeOf hTs ?_);rw[if_pos ∅];refine wpAny_bind (rK hs pl pu ?_);have hno:¬((((sIx items.size 0 lo:Nat):Int) == 0 && (1:Int) == 1 && (sIx items.size items.size hi - sIx items.size 0 lo) == items.size)=true):=by
  intro q;rw[Bool.and_eq_true,Bool.and_eq_true] at q;have q1:((sIx items.size 0 lo:Nat):Int)=0:=eq_of_beq q.1.1;have q2:sIx items.size items.size hi - sIx items.size 0 lo=items.size:=eq_of_beq q.2;exact hw ⟨(),()⟩
 show wpAny _ _ (if (((sIx items.size 0 lo:Nat):Int) == 0 && (1:Int) == 1 && (sIx items.size items.size hi - sIx items.size 0 lo) == items.size)=true then _ else _) _ _ s;rw[if_neg hno,Qm]
 first
  |exact wpAny_bind (m:=Builtin.Tuple.tupleExact _) (wpAny_newObj_type (wpAny_pure ⟨_,rfl,wpAny_pure h⟩) htake)
  |exact wpAny_bind (m:=Builtin.Tuple.tupleExact _) (wpAny_newObj_type (wpAny_bind (wpAny_pure (wpAny_pure ⟨_,rfl,wpAny_pure h⟩))) htake)
  |exact wpAny_bind (wpAny_bind (m:=Builtin.Tuple.tupleExact _) (wpAny_newObj_type (wpAny_pure (wpAny_pure ⟨_,rfl,wpAny_pure h⟩)) htake))
  |exact wpAny_bind (wpAny_bind (m:=Builtin.Tuple.tupleExact _) (wpAny_newObj_type (wpAny_pure ⟨_,rfl,wpAny_pure h⟩) htake))
end
end HT
namespace L2
open PySem PySem.Spec PyProof.Rows
abbrev TO:=St->Hp->(Option Int->Hp->Prop)->Prop
def PO (X:Cx)(e:Option Expr)(t:TO):Prop:=
 ∀(pins:List (Addr × Obj)) (s:Shared) (σ:St) (H:Hp) (Q:Option Int->Hp->Prop),Inv X pins σ H s->t σ H Q->
  wpAny (model X.prog X.w) X.A (evalPart e X.env) (λu s'=>∃o H',Inv X pins σ H' s'/\IsPart u o/\Q o H') X.xe s
def Xd:TO:=λ_ H Q=>Q none H
def qm5 (t:TE):TO:=λσ H Q=>t σ H λx H1=>∃i,x=.int i/\Q (some i) H1
section
variable {X:Cx} {e:Expr} {te:TE} {lo hi:Option Expr} {tl th:TO} {pos p2:Pos}
theorem iH:PO X none Xd:=by
 intro pins s σ H Q I h;rw[evalPart_none];exact wpAny_pure ⟨none,H,I,.none,h⟩
theorem eY (h:PE X e te):PO X (some e) (qm5 te):=by
 intro pins s σ H Q I hw;rw[evalPart_some];refine thn (h pins s σ H _ I hw) λu s1 ⟨x,H1,I1,r1,q1⟩=>?_;obtain⟨i,rfl,q⟩:=q1;obtain⟨t,rfl⟩:=r1;exact⟨some i,H1,I1,.int i t,q⟩
def SlR (X:Cx)(r:V->Option Int->Option Int->Hp->VK->Prop):Prop:=
 ∀(pins:List (Addr × Obj)) (s:Shared) (σ:St) (H:Hp) (x:V) (v vl vu:Value) (lo hi:Option Int) (sl:Addr) (Q:VK),Inv X pins σ H s->cG x v->s.heap.IsSliceOf sl vl vu .none->IsPart vl lo->IsPart vu hi->r x lo hi H Q->
  ∃T id,typeLookup (.type T) "__getitem__"=pure (some (.builtin id))/\s.TypeIs v T/\wpAny (model X.prog X.w) X.A (getItem v (.ref sl)) (EP X pins σ Q) X.xe s
def tSl (r:V->Option Int->Option Int->Hp->VK->Prop)(te:TE)(tl th:TO):TE:=λσ H Q=>te σ H λx H1=>tl σ H1 λl H2=>th σ H2 λu H3=>r x l u H3 Q
theorem fA (hr:SlR X r)(he:PE X e te)(hl:PO X lo tl)(hu:PO X hi th):PE X (.Subscript e (.Slice lo hi none p2) pos) (tSl r te tl th):=by
 intro pins s σ H Q I h;refine Subscript_ (thn (he pins s σ H _ I h) λv s1 ⟨x,H1,I1,r1,q1⟩=>?_);refine wpAny_Slice (thn (hl pins s1 σ H1 _ I1 q1) λvl s2 ⟨l,H2,I2,pl,q2⟩=>thn (hu pins s2 σ H2 _ I2 q2) λvu s3 ⟨u,H3,I3,pu,q3⟩=>?_);rw[evalPart_none];refine wpAny_pure ?_;have I4:Inv X pins σ H3 { s3 with heap:=s3.heap.push { cls:=.type "slice",data:=.fields #[vl,vu,.none] } }:=I3.kept (t':=s3.toks) λb ob q=>Heap.get?_push_of_some _ q;obtain⟨T,id,hT,ht,hg⟩:=hr pins { s3 with heap:=s3.heap.push { cls:=.type "slice",data:=.fields #[vl,vu,.none] } } σ H3 x v vl vu l u s3.heap.objs.size Q I4 r1 (Heap.IsSliceOf.new ..) pl pu q3;show wpAny (model X.prog X.w) X.A (subscriptTail e (.Slice lo hi none p2) v (.ref s3.heap.objs.size)) (EP X pins σ Q) X.xe { s3 with heap:=s3.heap.push { cls:=.type "slice",data:=.fields #[vl,vu,.none] } };exact tail_any (ops:=[.ref s3.heap.objs.size,v]) ht hT hg (by with_unfolding_all rfl)
def jC (xs:List V)(lo hi:Option Int):List V:=(xs.drop (HT.sIx xs.length 0 lo)).take (HT.sIx xs.length xs.length hi - HT.sIx xs.length 0 lo)
theorem tO (xs:List V)(lo hi:Option Int):(jC xs lo hi).length<=xs.length:=by
 unfold jC;exact Nat.le_trans (length_take_le' _ _) (by rw[length_drop];exact Nat.sub_le _ _)
inductive qn3 (K:Frag) (x:V) (lo:Option Int) (hi:Option Int) (H:Hp) (Q:VK):Prop where
 |mk (a xs):x=.ref a->SqT K H a xs->(¬(HT.sIx xs.length 0 lo=0/\HT.sIx xs.length xs.length hi=xs.length))->(∀p,H p=none->Q (.ref p) (upd H p (.tup (jC xs lo hi))))->qn3 K x lo hi H Q
theorem Zx:SlR X (qn3 X.K):=by
 intro pins s σ H x v vl vu lo hi sl Q I rx hs pl pu h;obtain⟨a,xs,rfl,hx,hw,q⟩:=h
 cases rx
 obtain⟨its,r,ht,hz⟩:=I.tuple hx;have hlen:its.toArray.size=xs.length:=by rw[size_toArray];exact r.length.symm
 refine⟨"tuple",_,PyProof.Rows.slot_tuple_getitem.lookup,ht.typeIs,?_⟩;refine HT.getItem_tuple_cut ht hs pl pu (by rw[hlen];exact hw) ?_ (by rw[hlen];exact hz);rw[hlen];refine⟨.ref s.heap.objs.size,_,I.laid (t':=s.toks) (o:=.tup (jC xs lo hi)) (λb ob q=>Heap.get?_push_of_some _ q) (Nat.le_refl _) ?_,rfl,q _ (I.hok.fresh (Nat.le_refl _))⟩;exact⟨Nat.le_trans (tO xs lo hi) hz,_,(r.drop (HT.sIx xs.length 0 lo)).take (HT.sIx xs.length xs.length hi - HT.sIx xs.length 0 lo),IsTup.new _ _⟩
inductive Zc (K:Frag) (x:V) (y:V) (H:Hp) (Q:VK):Prop where
 |mk (a b xs ys):x=.ref a->y=.ref b->SqT K H a xs->SqT K H b ys->xs≠[]->xs.length+ys.length<=sizeLine->(ys=[]->Q (.ref a) H)->(ys≠[]->∀p,H p=none->Q (.ref p) (upd H p (.tup (xs++ys))))->Zc K x y H Q
theorem cE.nil_iff (r:cE xs us):us=[]↔xs=[]:=by
 cases r with
 |nil=>simp
 |cons _ _=>simp
theorem Vu:OpR X (binaryOp .Add) (Zc X.K):=by
 intro pins s σ H x y v u Q I rx ry h;obtain⟨a,b,xs,ys,rfl,rfl,ha,hb,hx,hz,q1,q2⟩:=h
 cases rx
 cases ry
 obtain⟨its,r1,p1,_⟩:=I.tuple ha;obtain⟨its2,r2,p2,_⟩:=I.tuple hb;refine HT.cat_tup p1 p2 (λz=>hx (r1.nil_iff.mp z)) (λz=>⟨.ref a,H,I,rfl,q1 (r2.nil_iff.mp z)⟩) (λz=>?_) (by rw[<- r1.length,<- r2.length];exact hz);refine⟨.ref s.heap.objs.size,_,I.laid (t':=s.toks) (o:=.tup (xs++ys)) (λb ob q=>Heap.get?_push_of_some _ q) (Nat.le_refl _) ?_,rfl,q2 (λw=>z (r2.nil_iff.mpr w)) _ (I.hok.fresh (Nat.le_refl _))⟩;exact⟨by rw[List.length_append];exact hz,_,r1.append r2,IsTup.new _ _⟩
end
def ixN (n:Nat)(i:Int):Option Nat:=if 0<=i then (if i < n then some i.toNat else none) else if -(n:Int)<=i then some (i+n).toNat else none
def atI {α:Type}(xs:List α)(i:Int):Option α:=(ixN xs.length i).bind λj=>xs[j]?
theorem Kg (h:ixN n i=some j):seqIndex? i n=some j/\j < n/\-(n:Int)<=i/\i < n:=by
 unfold ixN at h
 by_cases h0:0<=i
 .rw[if_pos h0] at h
  by_cases h1:i < n
  .rw[if_pos h1] at h;have e:i.toNat=j:=Option.some.inj h;exact⟨by rw[seqIndex_of h0 h1,e],(),(),h1⟩
  .rw[if_neg h1] at h;cases h
 .rw[if_neg h0] at h
  by_cases h1:-(n:Int)<=i
  .rw[if_pos h1] at h;have e:(i+n).toNat=j:=Option.some.inj h;exact⟨by rw[seqIndex_neg () h1,e],(),h1,()⟩
  .rw[if_neg h1] at h;cases h
theorem Ks (h:atI xs i=some v):∃j,seqIndex? i xs.length=some j/\xs[j]?=some v/\j < xs.length/\-(xs.length:Int)<=i/\i < xs.length:=by
 unfold atI at h
 cases e:ixN xs.length i with
 |none=>rw[e] at h;cases h
 |some j=>
  rw[e] at h;obtain⟨h1,h2,h3,h4⟩:=Kg e;exact⟨j,h1,h,h2,h3,h4⟩
theorem cO {xs:List α}{j:Nat}{v:α}(h:xs[j]?=some v):atI xs (j:Int)=some v:=by
 have hj:j < xs.length:=(List.getElem?_eq_some_iff.mp h).1;have e:ixN xs.length (j:Int)=some j:=by
  unfold ixN;rw[if_pos (),if_pos ()];simp
 unfold atI;rw[e];exact h
def Vr (b:Expr):Prop:=∀o i,subscripted b false o i=operate [o,i] (getItem o i)
def IxR (X:Cx)(r:R2):Prop:=
 ∀(value slice:Expr) (pins:List (Addr × Obj)) (s:Shared) (σ:St) (H:Hp) (x y:V) (v u:Value) (Q:VK),Inv X pins σ H s->cG x v->cG y u->r x y H Q->
  subscripted slice false v u=operate [v,u] (getItem v u)->wpAny (model X.prog X.w) X.A (subscriptTail value slice v u) (EP X pins σ Q) X.xe s
def MtR (X:Cx)(id:String)(r:V->List V->Hp->VK->Prop):Prop:=
 ∀(pins:List (Addr × Obj)) (s:Shared) (σ:St) (H:Hp) (x:V) (xs:List V) (v:Value) (us:List Value) (Q:VK),Inv X pins σ H s->cG x v->cE xs us->r x xs H Q->
  wpAny (model X.prog X.w) X.A (call (.builtin id) (v :: us)) (EP X pins σ Q) X.xe s
section
variable {X:Cx} {a b:Expr} {ta tb:TE} {pos:Pos}
theorem aW (hr:IxR X r)(ha:PE X a ta)(hb:PE X b tb)(hs:Vr b):PE X (.Subscript a b pos) (tOp r ta tb):=by
 intro pins s σ H Q I h;exact Subscript_ (qk1 ha hb I h λv u s2 x y H2 I2 rx ry q=>hr a b pins s2 σ H2 x y v u Q I2 rx ry q (hs _ _))
inductive Zr (K:Frag) (x:V) (y:V) (H:Hp) (Q:VK):Prop where
 |mk (p xs i v):x=.ref p->y=.int i->SqL K H p xs->atI xs i=some v->Q v H->Zr K x y H Q
inductive Tx (K:Frag) (x:V) (y:V) (H:Hp) (Q:VK):Prop where
 |mk (p xs i v):x=.ref p->y=.int i->SqT K H p xs->atI xs i=some v->Q v H->Tx K x y H Q
theorem cA:IxR X (Zr X.K):=by
 intro value slice pins s σ H x y v u Q I rx ry h hs;obtain⟨p,xs,i,z,rfl,rfl,hq,he,q⟩:=h
 cases rx
 obtain⟨t,rfl⟩:=ry;obtain⟨its,r,pl,hz⟩:=I.list hq;obtain⟨j,h1,h2,h3,h4,h5⟩:=Ks he;obtain⟨w,ew,rw'⟩:=r.get h2;have hl:=r.length;have hn:=Bq;have fin:EP X pins σ Q w s:=⟨z,H,I,rw',q⟩
 by_cases h0:0<=i
 .have hj:i.toNat=j:=by
   rw[seqIndex_of h0 h5] at h1;exact Option.some.inj h1
  exact item_listR pl.isList h0 () (by rw[hj];simpa using ew) fin hs
 .have hj:(i+(its.toArray.size:Int)).toNat=j:=by
   rw[seqIndex_neg () h4] at h1;rw[size_toArray,<- hl];exact Option.some.inj h1
  exact subscriptTail_builtinR (x:=w) pl.isList.typeIs slot_list_getitem.lookup
   (wpAny_getItem_list_neg (Q:=λr s'=>r=w/\EP X pins σ Q r s') pl.isList () (by rw[size_toArray]<;>lia) () (by rw[hj];simpa using ew) ⟨rfl,fin⟩) hs
theorem aZ:IxR X (Tx X.K):=by
 intro value slice pins s σ H x y v u Q I rx ry h hs;obtain⟨p,xs,i,z,rfl,rfl,hq,he,q⟩:=h
 cases rx
 obtain⟨t,rfl⟩:=ry;obtain⟨its,r,pl,hz⟩:=I.tuple hq;obtain⟨j,h1,h2,h3,h4,h5⟩:=Ks he;obtain⟨w,ew,rw'⟩:=r.get h2;have hl:=r.length;have hn:=Bq;have fin:EP X pins σ Q w s:=⟨z,H,I,rw',q⟩
 exact subscriptTail_builtinR (x:=w) pl.typeIs slot_tuple_getitem.lookup
  (getItem_tuple (j:=j) (Q:=λr s'=>r=w/\EP X pins σ Q r s') pl () () (by rw[size_toArray,<- hl];exact h1) (by simpa using ew) ⟨rfl,fin⟩) hs
theorem Hj (its:List Value)(n j:Nat)(u:Value):Obj.mapSeq (·.setIfInBounds j u) { cls:=.type "list",data:=.seq its.toArray n }={ cls:=.type "list",data:=.seq (its.set j u).toArray n }:=by
 simp[Obj.mapSeq]
theorem Inv.lst (I:Inv X pins σ H s)(h:H p=some (.lst xs)):
  ∃(its:List Value) (n:Nat),cE xs its/\s.heap.get? p=some { cls:=.type "list",data:=.seq its.toArray n }/\xs.length<=sizeLine:=by
 obtain⟨z,its,n,r,e⟩:=I.hok p _ h;exact⟨its,n,r,e,z⟩
theorem Inv.lstUpd {its its':List Value}(I:Inv X pins σ H s)(h:H p=some (.lst xs))(ho:s.heap.get? p=some { cls:=.type "list",data:=.seq its.toArray n })(hf:f { cls:=.type "list",data:=.seq its.toArray n }={ cls:=.type "list",data:=.seq its'.toArray n' })(r:cE ys its')(hz:ys.length<=sizeLine)(t:Nat):
  Inv X pins σ (upd H p (.lst ys)) { s with heap:=s.heap.update p f,toks:=t }:=by
 have e:(s.heap.update p f).get? p=some { cls:=.type "list",data:=.seq its'.toArray n' }:=by
  rw[Heap.get?_update_self f ho (by rw[hf]<;>rfl),hf]
 refine I.write (x:=p) (e:=p) (by rw[h];trivial) (.inl rfl) (λb u hb q=>(Heap.get?_update_other _ _ (Ne.symm hb)).trans q) ⟨_,e⟩ ?_;exact⟨hz,its',n',r,e⟩
def qp5:V->V->V->Hp->(Hp->Prop)->Prop:=λo i v H Q=>∃p xs k j,o=.ref p/\i=.int k/\H p=some (.lst xs)/\ixN xs.length k=some j/\Q (upd H p (.lst (xs.set j v)))
theorem iZ:qn4 X qp5:=by
 intro pins s σ H o i v ov iv u Q I ro ri rv h;obtain⟨p,xs,k,j,rfl,rfl,hp,hj,q⟩:=h
 cases ro
 obtain⟨t,rfl⟩:=ri;obtain⟨its,n,r,ho,hz⟩:=I.lst hp;obtain⟨h1,h2,h3,h4⟩:=Kg hj;have hl:=r.length;have hn:=Bq;have I':Inv X pins σ (upd H p (.lst (xs.set j v))) { s with heap:=s.heap.update p (Obj.mapSeq (·.setIfInBounds j u)) }:=
  I.lstUpd hp ho (Hj its n j u) (r.set rv j) (by rw[length_set];exact hz) s.toks
 by_cases h0:0<=k
 .have hk:k.toNat=j:=by
   rw[seqIndex_of h0 h4] at h1;exact Option.some.inj h1
  exact W.ki_setAt ho h0 () (by rw[size_toArray,<- hl];exact h4) (by rw[hk];exact⟨_,I',q⟩)
 .have hk:(k+(its.toArray.size:Int)).toNat=j:=by
   rw[seqIndex_neg () h3] at h1;rw[size_toArray,<- hl];exact Option.some.inj h1
  exact W.ki_setBack ho () (by rw[size_toArray,<- hl];exact h3) () (by rw[hk];exact⟨_,I',q⟩)
theorem sbA (lo hi:Option Int)(n:Nat):(sliceBounds lo hi none n).1=((HT.sIx n 0 lo:Nat):Int):=by
 cases lo with
 |none=>simp[sliceBounds,HT.sIx]
 |some i=>
  simp only[sliceBounds,HT.sIx,Option.getD_none,show (1:Int) > 0 by decide,if_true]
  by_cases h:i < 0
  .simp only[h,if_true]<;>lia
  .simp only[h,if_false]<;>lia
theorem Ar (lo hi:Option Int)(n:Nat):(sliceBounds lo hi none n).1=((HT.sIx n 0 lo:Nat):Int)/\(sliceBounds lo hi none n).2.1=((HT.sIx n n hi:Nat):Int)/\(sliceBounds lo hi none n).2.2=1:=by
 refine⟨sbA lo hi n,?_,rfl⟩
 cases hi with
 |none=>simp[sliceBounds,HT.sIx]
 |some i=>exact sbA (some i) lo n
theorem yF (its:List Value)(lo hi:Option Int):slicePick its.toArray lo hi none=((its.drop (HT.sIx its.length 0 lo)).take (HT.sIx its.length its.length hi - HT.sIx its.length 0 lo)).toArray:=by
 obtain⟨h1,h2,h3⟩:=Ar lo hi its.toArray.size;unfold slicePick;rw[h1,h2,h3];simp only[sliceRange_one,pick_run,size_toArray]<;>rfl
inductive Xw (K:Frag) (x:V) (lo:Option Int) (hi:Option Int) (H:Hp) (Q:VK):Prop where
 |mk (a xs):x=.ref a->SqL K H a xs->(∀p,H p=none->Q (.ref p) (upd H p (.lst (jC xs lo hi))))->Xw K x lo hi H Q
theorem gK:SlR X (Xw X.K):=by
 intro pins s σ H x v vl vu lo hi sl Q I rx hs pl pu h;obtain⟨a,xs,rfl,hx,q⟩:=h
 cases rx
 obtain⟨its,r,ht,hz⟩:=I.list hx;have hlen:=r.length;refine⟨"list",_,slot_list_getitem.lookup,ht.isList.typeIs,?_⟩;refine wpAny_getItem_list_slice ht.isList hs pl pu .none ⋯ ?_ (by rw[size_toArray]<;>lia);rw[yF,<- hlen];refine⟨.ref s.heap.objs.size,_,I.laid (t':=s.toks) (o:=.lst (jC xs lo hi)) (λb ob q=>Heap.get?_push_of_some _ q) (Nat.le_refl _) ?_,rfl,q _ (I.hok.fresh (Nat.le_refl _))⟩;exact⟨Nat.le_trans (tO xs lo hi) hz,_,0,(r.drop (HT.sIx xs.length 0 lo)).take (HT.sIx xs.length xs.length hi - HT.sIx xs.length 0 lo),Heap.get?_push_size _ rfl⟩
def oS:V->Bool
 | .non=>true
 | .bl _=>true
 | .int _=>true
 | .str _=>true
 |_=>false
def eqV:V->V->Bool
 | .non,.non=>true
 | .bl a,.bl b=>a == b
 | .bl a,.int b=>(if a then 1 else 0) == b
 | .int a,.bl b=>a == (if b then 1 else 0)
 | .int a,.int b=>a == b
 | .str a,.str b=>a == b
 |_,_=>false
theorem Zg (ry:cG y u)(rx:cG x v)(fy:oS y=true)(fx:oS x=true):SeqAt.EqAt A s u v (eqV y x):=by
 cases y with
 |non=>
  cases ry
  cases x with
  |non=>cases rx;exact SeqAt.EqAt.same _
  |bl b=>cases rx;exact SeqAt.EqAt.none_bool b
  |int b=>obtain⟨t,rfl⟩:=rx;exact SeqAt.EqAt.none_int b t
  |str b=>obtain⟨t,rfl⟩:=rx;exact SeqAt.EqAt.none_str b t
  |_=>exact absurd (show false=true from fx) Bool.false_ne_true
 |bl a=>
  cases ry
  cases x with
  |non=>cases rx;exact SeqAt.EqAt.bool_none a
  |bl b=>cases rx;exact SeqAt.EqAt.bool_bool a b
  |int b=>obtain⟨t,rfl⟩:=rx;exact SeqAt.EqAt.bool_int a b t
  |str b=>obtain⟨t,rfl⟩:=rx;exact SeqAt.EqAt.bool_str a b t
  |_=>exact absurd (show false=true from fx) Bool.false_ne_true
 |int a=>
  obtain⟨t',rfl⟩:=ry
  cases x with
  |non=>cases rx;exact SeqAt.EqAt.int_none a t'
  |bl b=>cases rx;exact SeqAt.EqAt.int_bool a t' b
  |int b=>obtain⟨t,rfl⟩:=rx;exact SeqAt.EqAt.int_int a t' b t
  |str b=>obtain⟨t,rfl⟩:=rx;exact SeqAt.EqAt.int_str a t' b t
  |_=>exact absurd (show false=true from fx) Bool.false_ne_true
 |str a=>
  obtain⟨t',rfl⟩:=ry
  cases x with
  |non=>cases rx;exact SeqAt.EqAt.str_none a t'
  |bl b=>cases rx;exact SeqAt.EqAt.str_bool a t' b
  |int b=>obtain⟨t,rfl⟩:=rx;exact SeqAt.EqAt.str_int a t' b t
  |str b=>obtain⟨t,rfl⟩:=rx;exact SeqAt.EqAt.str_str a t' b t
  |_=>exact absurd (show false=true from fx) Bool.false_ne_true
 |_=>exact absurd (show false=true from fy) Bool.false_ne_true
def eqU (x:V)(u:Value):Bool:=match u with
 | .none=>eqV .non x
 | .bool b=>eqV (.bl b) x
 | .int i _=>eqV (.int i) x
 | .str z _=>eqV (.str z) x
 |_=>false
theorem Ql (r:cG y u)(f:oS y=true):eqU x u=eqV y x:=by
 cases y with
 |non=>cases r;rfl
 |bl b=>cases r;rfl
 |int i=>obtain⟨t,rfl⟩:=r;rfl
 |str z=>obtain⟨t,rfl⟩:=r;rfl
 |_=>exact absurd (show false=true from f) Bool.false_ne_true
theorem Bu:∀{xs:List V} {us:List Value},cE xs us->xs.all oS=true->us.any (eqU x)=xs.any λy=>eqV y x
 |_,_,.nil,_=>rfl
 |y :: xs,u :: us,.cons r t,f=>by
  rw[all_cons,Bool.and_eq_true] at f;rw[any_cons,any_cons,Ql r f.1,Bu t f.2]
theorem vF (rx:cG x v)(fx:oS x=true):∀{xs:List V} {us:List Value},cE xs us->xs.all oS=true->∀u∈us,SeqAt.EqAt A s u v (eqU x u)
 |_,_,.nil,_=>λu hu=>by cases hu
 |y :: xs,u :: us,.cons r t,f=>λu' hu=>by
  rw[all_cons,Bool.and_eq_true] at f;rcases mem_cons.mp hu with rfl | hu
  .rw[Ql r f.1];exact Zg r rx f.1 fx
  .exact vF rx fx t f.2 u' hu
def inV (x:V)(xs:List V):Bool:=xs.any λy=>eqV y x
inductive rIn (K:Frag) (neg:Bool) (x:V) (y:V) (H:Hp) (Q:VK):Prop where
 |mk (p xs):y=.ref p->(SqL K H p xs\/SqT K H p xs)->oS x=true->xs.all oS=true->Q (.bl (if neg then !inV x xs else inV x xs)) H->rIn K neg x y H Q
theorem Lx:OpR X (compareOp .In) (rIn X.K false):=by
 intro pins s σ H x y v u Q I rx ry h;obtain⟨p,xs,rfl,hq,fx,fs,q⟩:=h
 cases ry
 rcases hq with hq | hq
 .obtain⟨its,r,pl,hz⟩:=I.list hq;refine SeqAt.in_listAt (eqU x) pl.isList (λw hw=>vF rx fx r fs w (by simpa using hw)) ⟨.bl _,H,I,rfl,?_⟩;rw[show its.toArray.any (eqU x)=its.any (eqU x) by simp,Bu r fs];exact q
 .obtain⟨its,r,pl,hz⟩:=I.tuple hq;refine SeqAt.in_tupleAt (eqU x) pl (λw hw=>vF rx fx r fs w (by simpa using hw)) ⟨.bl _,H,I,rfl,?_⟩;rw[show its.toArray.any (eqU x)=its.any (eqU x) by simp,Bu r fs];exact q
theorem bQ:oX X (.builtin "len") (λxs H Q=>∃p ys,xs=[.ref p]/\(SqL X.K H p ys\/SqT X.K H p ys)/\Q (.int ys.length) H):=by
 intro pins s σ H xs us Q I r h;obtain⟨p,ys,rfl,hq,q⟩:=h;obtain⟨u,rfl,rx⟩:=Du r
 cases rx
 have hn:=Bq;rcases hq with hq | hq
 .obtain⟨its,r',pl,hz⟩:=I.list hq;have hlen:=r'.length;exact Calls.call_len_list pl.isList (by simp only[size_toArray]<;>lia) ⟨.int ys.length,H,I.tok _,⟨s.toks+1,by rw[size_toArray,hlen]⟩,q⟩
 .obtain⟨its,r',pl,hz⟩:=I.tuple hq;have hlen:=r'.length;exact len_tuple pl (by simp only[size_toArray]<;>lia) ⟨.int ys.length,H,I.tok _,⟨s.toks+1,by rw[size_toArray,hlen]⟩,q⟩
theorem gF:oX X (.type "list") (λxs H Q=>∃p ys,xs=[.ref p]/\(SqL X.K H p ys\/SqT X.K H p ys)/\∀l,H l=none->Q (.ref l) (upd H l (.lst ys))):=by
 intro pins s σ H xs us Q I r h;obtain⟨p,ys,rfl,hq,q⟩:=h;obtain⟨u,rfl,rx⟩:=Du r
 cases rx
 have fin:∀(its:List Value),cE ys its->ys.length<=sizeLine->∀(h':Heap) (c':Nat),(∀b o',s.heap.get? b=some o'->h'.get? b=some o')->
   h'.get? s.heap.objs.size=some { cls:=.type "list",dict:=none,data:=.seq its.toArray c',slots:=#[] }->EP X pins σ Q (.ref s.heap.objs.size) { s with heap:=h' }:=λits r' hz h' c' kp e=>
  ⟨.ref s.heap.objs.size,_,I.laid (t':=s.toks) kp (Nat.le_refl _) (show dP X.prog X.w _ h' _ (.lst ys) from ⟨hz,its,c',r',e⟩),rfl,q _ (I.hok.fresh (Nat.le_refl _))⟩
 rcases hq with hq | hq
 .obtain⟨its,r',pl,hz⟩:=I.list hq;have hlen:=r'.length;obtain⟨o,ho,hc,n,hd⟩:=pl.isList;exact call_list_seq p (.inl rfl) ho hc hd (λh' c' kp e=>fin its r' hz h' c' kp e) (by simp only[size_toArray]<;>lia)
 .obtain⟨its,r',pl,hz⟩:=I.tuple hq;have hlen:=r'.length;obtain⟨o,ho,hc,n,hd⟩:=pl;exact call_list_seq p (.inr rfl) ho hc hd (λh' c' kp e=>fin its r' hz h' c' kp e) (by simp only[size_toArray]<;>lia)
def tyV (K:Frag)(T:String)(x:V)(H:Hp):Prop:=match x with
 | .str _=>T = "str"
 | .int _=>T = "int"
 | .ref p=>(T = "list"/\∃xs,SqL K H p xs)\/(T = "tuple"/\∃o,K.lookup p=some o/\o.cls=.type "tuple"/\o.dict=none)\/
   (T = "dict"/\((∃kvs,H p=some (.dK kvs))\/∃kvs,H p=some (.dT kvs)))\/(T = "set"/\∃S n,H p=some (.set S n))
 |_=>False
theorem Qt (I:Inv X pins σ H s)(r:cG x v)(ty:tyV X.K T x H):
  s.TypeIs v T/\∀a,v=.ref a->∃ob,s.heap.get? a=some ob/\ob.dict=none:=by
 cases x with
 |str z=>
  obtain⟨t,rfl⟩:=r
  cases (show T = "str" from ty)
  exact⟨typeIs_str s z t,λ_ e=>nomatch e⟩
 |int i=>
  obtain⟨t,rfl⟩:=r
  cases (show T = "int" from ty)
  exact⟨typeIs_int s i t,λ_ e=>nomatch e⟩
 |ref p=>
  cases r
  rcases ty with ⟨rfl,xs,hq⟩ | ⟨rfl,o,hk,hc,hd⟩ | ⟨rfl,hk⟩ | ⟨rfl,S,n,hk⟩
  .obtain⟨its,_,pl,_⟩:=I.list hq;refine⟨pl.isList.typeIs,λa e=>?_⟩
   cases e
   obtain⟨o,n,e,c,hd,_⟩:=pl;exact⟨o,e,hd⟩
  .refine⟨⟨o,I.kIn p o hk,hc⟩,λa e=>?_⟩
   cases e
   exact⟨o,I.kIn _ o hk,hd⟩
  .have z:∃o,s.heap.get? p=some o/\o.ExactDict:=by
    rcases hk with ⟨kvs,hk⟩ | ⟨kvs,hk⟩
    .obtain⟨_,_,_,_,o,_,_,e,ex,_⟩:=I.hok p _ hk;exact⟨o,e,ex⟩
    .obtain⟨_,_,_,_,o,_,_,e,ex,_⟩:=I.hok p _ hk;exact⟨o,e,ex⟩
   obtain⟨o,e,ex⟩:=z;refine⟨⟨o,e,ex.1⟩,λa e2=>?_⟩
   cases e2
   exact⟨o,e,ex.2.1⟩
  .obtain⟨o,_,_,_,e,ex,_⟩:=I.hok p _ hk;refine⟨⟨o,e,ex.1⟩,λa e2=>?_⟩
   cases e2
   exact⟨o,e,ex.2.1⟩
 |_=>exact False.elim ty
def qs7 (K:Frag)(T:String)(r:V->List V->Hp->VK->Prop)(to:TE):TE:=λσ H Q=>to σ H λx H1=>tyV K T x H1/\r x [] H1 Q
def tBM (K:Frag)(T:String)(r:V->List V->Hp->VK->Prop)(to:TE)(t:TA):TE:=λσ H Q=>to σ H λx H1=>tyV K T x H1/\t σ H1 λxs H2=>r x xs H2 Q
variable {o e:Expr} {es:List Expr} {to:TE} {t:TA} {name:Str} {apos cpos:Pos} {T id:String} {r:V->List V->Hp->VK->Prop}
theorem qc4 (pa:PlainAttrs T)(slot:Slot T name id)(hty:typeOf (.builtin id)=pure (.type "method_descriptor"))(hm:MtR X id r)(ho:PE X o to)(hbase:attributeBase o name X.env (eval o X.env)=eval o X.env:=by rfl)(hline:(apos.endLine == cpos.line)=true:=by rfl):PE X (.Call (.Attribute o name apos) [] [] cpos) (qs7 X.K T r to):=by
 intro pins s σ H Q I h;refine wpAny_Call_method0_late hbase hline (thn (ho pins s σ H _ I h) λv s1 ⟨x,H1,I1,r1,ty,q1⟩=>?_);obtain⟨h1,h2⟩:=Qt I1 r1 ty;exact⟨T,id,pa,slot,hty,h1,h2,Calls.callWith_builtin rfl (PySem.evalArgs_none (hm pins s1 σ H1 x [] v [] Q I1 r1 .nil q1))⟩
theorem mY (pa:PlainAttrs T)(slot:Slot T name id)(hty:typeOf (.builtin id)=pure (.type "method_descriptor"))(hm:MtR X id r)(ho:PE X o to)(ha:PA X (e :: es) t)(hbase:attributeBase o name X.env (eval o X.env)=eval o X.env:=by rfl)(hfew:((backTo cpos (starEach (e :: es) X.env)).all (λx=>!x.1) && (backToKw cpos (keywordEach [] X.env)).all (λx=>x.1.isSome)
   && decide ((e :: es).length+([]:List Keyword).length+(if ([]:List Keyword).isEmpty then 0 else 1) < 30))=true:=by rfl)(hline:(apos.endLine == cpos.line)=true:=by rfl)(hs:starEach (e :: es) X.env=(false,eval e X.env) :: starEach es X.env:=by rfl)(hplain:(backTo cpos (starEach es X.env)).any (·.1)=false:=by rfl) :
  PE X (.Call (.Attribute o name apos) (e :: es) [] cpos) (tBM X.K T r to t):=by
 intro pins s σ H Q I h;refine wpAny_Call_method_late hbase hfew hline rfl (thn (ho pins s σ H _ I h) λv s1 ⟨x,H1,I1,r1,ty,q1⟩=>?_);obtain⟨h1,h2⟩:=Qt I1 r1 ty;refine⟨T,id,pa,slot,hty,h1,h2,?_⟩;have hA:=ha cpos pins s1 σ H1 _ I1 q1;rw[hs] at hA ⊢;refine Calls.callWith_builtin (by show (false || (backTo cpos (starEach es X.env)).any (·.1))=false;rw[hplain]<;>rfl) (Calls.evalArgs_plain ?_);exact thn hA λus s2 ⟨vs,H2,I2,r2,q2⟩=>hm pins s2 σ H2 x vs v us Q I2 r1 r2 q2
end
def MtM (X:Cx)(id:String)(r:V->List V->Hp->VK->Prop):Prop:=
 ∀(pins:List (Addr × Obj)) (s:Shared) (σ:St) (H:Hp) (x:V) (xs:List V) (v:Value) (us:List Value) (Q:VK),Inv X pins σ H s->cG x v->cE xs us->r x xs H Q->
  wpAny (model X.prog X.w) X.A (call (.builtin id) (v :: us)) (EP X pins σ Q) X.xe s
theorem cE.one:∀{x:V} {us:List Value},cE [x] us->∃u,us=[u]/\cG x u
 |_,_,.cons r .nil=>⟨_,rfl,r⟩
theorem cE.zero:∀{us:List Value},cE [] us->us=[]
 |_,.nil=>rfl
theorem cE.dropLast (h:cE xs us):cE xs.dropLast us.dropLast:=by
 induction h with
 |nil=>exact .nil
 |cons r t ih=>
  cases t with
  |nil=>exact .nil
  |cons q t'=>exact .cons r ih
theorem cE.rep (h:cE xs us):∀k:Nat,cE (replicate k xs).flatten (replicate k us).flatten
 |0=>.nil
 |k+1=>by
  rw[replicate_succ,replicate_succ,flatten_cons,flatten_cons];exact cE.append h (cE.rep h k)
theorem Io {α:Type}(l:List α):l.eraseIdx (l.length - 1)=l.dropLast:=by
 induction l with
 |nil=>rfl
 |cons a r ih=>
  cases r with
  |nil=>rfl
  |cons b r=>
   have e:(a :: b :: r).length - 1=((b :: r).length - 1)+1:=by
    have h1:(a :: b :: r).length=r.length+2:=rfl;have h2:(b :: r).length=r.length+1:=rfl;lia
   rw[e,eraseIdx_cons_succ,ih]
   all_goals rfl
theorem yJ (its:List Value):∀(k:Nat) (acc:List Value),
  foldl (λx1 x2=>x1++x2) acc.toArray (replicate k its.toArray)=(acc++(replicate k its).flatten).toArray
 |0,acc=>by simp
 |k+1,acc=>by
  have e:acc.toArray++its.toArray=(acc++its).toArray:=by simp
  have e2:(acc++its)++(replicate k its).flatten=acc++(replicate (k+1) its).flatten:=by
   rw[replicate_succ,flatten_cons,List.append_assoc]
  rw[<- e2,<- yJ its k (acc++its),<- e,replicate_succ,foldl_cons]
section
variable {X:Cx} {pins:List (Addr × Obj)} {σ:St} {H:Hp} {s:Shared} {l b:Addr} {xs ys zs:List V}
theorem Inv.lset {its its':List Value}(I:Inv X pins σ H s)(hH:H l=some (.lst xs))(e:s.heap.get? l=some { cls:=.type "list",data:=.seq its.toArray n })(hf:f its.toArray=its'.toArray)(hv:cE ys its')(hz:ys.length<=sizeLine):
  Inv X pins σ (upd H l (.lst ys)) { s with heap:=s.heap.update l (Obj.mapSeq f),toks:=t' }:=by
 have q:=PySem.IsL.update e f;rw[hf] at q;refine I.write (x:=l) (e:=l) (by rw[hH];exact trivial) (.inl rfl) (λb' u hb hu=>(Heap.get?_update_other s.heap (Obj.mapSeq f) (Ne.symm hb)).trans hu) ⟨_,q⟩ ?_;exact⟨hz,its',_,hv,q⟩
theorem Inv.lnew (I:Inv X pins σ H s)(hv:cE ys its)(hz:ys.length<=sizeLine):
  Inv X pins σ (upd H s.heap.objs.size (.lst ys)) { s with heap:=s.heap.push { cls:=.type "list",data:=.seq its.toArray },toks:=t' }:=
 I.laid (λ_ _ q=>Heap.get?_push_of_some _ q) (Nat.le_refl _) ⟨hz,its,0,hv,Heap.get?_push_size _ rfl⟩
theorem Inv.fresh (I:Inv X pins σ H s):H s.heap.objs.size=none:=I.hok.fresh (Nat.le_refl _)
theorem Inv.lstM (I:Inv X pins σ H s)(hH:H l=some (.lst xs)):xs.length<=sizeLine/\∃(its:List Value) (n:Nat),cE xs its/\xs.length=its.length/\s.heap.get? l=some { cls:=.type "list",data:=.seq its.toArray n }:=by
 obtain⟨z,its,n,r,e⟩:=I.hok l _ hH;exact⟨z,its,n,r,r.length,e⟩
theorem To (h:n<=sizeLine):Builtin.List.listTooLong n=false:=by
 unfold Builtin.List.listTooLong;exact decide_eq_false ()
end
section
variable {X:Cx}
inductive Lm (x:V) (vs:List V) (H:Hp) (Q:VK):Prop where
 |mk (l xs y):x=.ref l->vs=[y]->H l=some (.lst xs)->xs.length < sizeLine->Q .non (upd H l (.lst (xs++[y])))->Lm x vs H Q
theorem fD:MtM X "list.append" Lm:=by
 intro pins s σ H x vs v us Q I rx rv h;obtain⟨l,xs,y,rfl,rfl,hH,hz,q⟩:=h
 cases rx
 obtain⟨u,rfl,ru⟩:=rv.one;obtain⟨z,its,n,r,hl,e⟩:=I.lstM hH;refine call_meets F.slot_list_append ⟨_,e,rfl⟩ F.entry_list_append (F.args_list_append_2 _ _) (PySem.list_append l its.toArray n u (by rw[size_toArray];lia)) ⟨e,?_⟩;refine⟨.non,_,I.lset (its':=its++[u]) hH e ⋯ (r.append (.cons ru .nil)) ?_,rfl,q⟩;rw[List.length_append,length_singleton];lia
inductive qp2 (x:V) (vs:List V) (H:Hp) (Q:VK):Prop where
 |mk (l xs y):x=.ref l->vs=[]->H l=some (.lst xs)->xs[xs.length - 1]?=some y->Q y (upd H l (.lst xs.dropLast))->qp2 x vs H Q
theorem qi7:MtM X "list.pop" qp2:=by
 intro pins s σ H x vs v us Q I rx rv h;obtain⟨l,xs,y,rfl,rfl,hH,hy,q⟩:=h
 cases rx
 have hus:=rv.zero;subst hus;obtain⟨z,its,n,r,hl,e⟩:=I.lstM hH;obtain⟨u,hu,ru⟩:=r.get hy;have hy':its.toArray[its.toArray.size - 1]?=some u:=by
  show its.toArray[its.length - 1]?=some u;rw[<- Array.getElem?_toList,<- hl];exact hu
 refine call_meets F.slot_list_pop ⟨_,e,rfl⟩ F.entry_list_pop (F.args_list_pop_1 _) (MeetsSeq.list_pop_last l its.toArray n u hy' (by rw[size_toArray];lia)) ⟨e,?_⟩;refine⟨y,_,I.lset (its':=its.dropLast) hH e ?_ r.dropLast ?_,ru,q⟩
 .show its.toArray.eraseIdxIfInBounds (its.toArray.size - 1)=its.dropLast.toArray;rw[size_toArray,eraseIdxIfInBounds_toArray,Io]
 .rw[length_dropLast];lia
inductive qm7 (x:V) (y:V) (H:Hp) (Q:VK):Prop where
 |mk (l b xs zs):x=.ref l->y=.ref b->H l=some (.lst xs)->H b=some (.lst zs)->xs.length+zs.length<=sizeLine->(∀p,H p=none->Q (.ref p) (upd H p (.lst (xs++zs))))->qm7 x y H Q
theorem jF:OpR X (binaryOp .Add) qm7:=by
 intro pins s σ H x y v u Q I rx ry h;obtain⟨l,b,xs,zs,rfl,rfl,hH,hB,hz,q⟩:=h
 cases rx
 cases ry
 obtain⟨z,its,n,r,hl,e⟩:=I.lstM hH;obtain⟨z2,its2,n2,r2,hl2,e2⟩:=I.lstM hB;refine PySem.P.add_list e e2 ?_ (by rw[size_toArray,size_toArray];lia);have ea:its.toArray++its2.toArray=(its++its2).toArray:=by simp
 rw[ea];exact⟨.ref _,_,I.lnew (t':=s.toks) (r.append r2) (by rw[List.length_append];lia),rfl,q _ I.fresh⟩
inductive qo3 (x:V) (y:V) (H:Hp) (Q:VK):Prop where
 |mk (l k xs):x=.ref l->y=.int k->H l=some (.lst xs)->-(2 ^ 63)<=k->k < 2 ^ 63->xs.length*k.toNat<=sizeLine->(∀p,H p=none->Q (.ref p) (upd H p (.lst (replicate k.toNat xs).flatten)))->qo3 x y H Q
theorem Wg {α:Type}(xs:List α)(k:Nat):(replicate k xs).flatten.length=k*xs.length:=by
 induction k with
 |zero=>simp
 |succ k ih=>rw[replicate_succ,flatten_cons,List.length_append,ih,Nat.succ_mul,Nat.add_comm]
theorem Ai:OpR X (binaryOp .Mult) qo3:=by
 intro pins s σ H x y v u Q I rx ry h;obtain⟨l,k,xs,rfl,rfl,hH,h1,h2,hz,q⟩:=h
 cases rx
 obtain⟨t,rfl⟩:=ry;obtain⟨z,its,n,r,hl,e⟩:=I.lstM hH;have hlen:its.toArray.size*k.toNat<=sizeLine:=by rw[size_toArray,<- hl];exact hz
 have hcap:¬its.toArray.size*k.toNat > (2 ^ 63 - 1) / 8:=by
  have:(sizeLine:Nat)<=(2 ^ 63 - 1) / 8:=by decide
  lia
 have hfit:¬(!Builtin.List.listFitsIndex k)=true:=by
  rw[fitsIndex_both h1 h2];exact Bool.false_ne_true
 have hlong:¬Builtin.List.listTooLong (its.toArray.size*k.toNat)=true:=by
  rw[To hlen];exact Bool.false_ne_true
 have hnew:foldl (λx1 x2=>x1++x2) #[] (replicate (if its.toArray.isEmpty=true then 0 else k.toNat) its.toArray)=(replicate k.toNat its).flatten.toArray:=by
  have f0:∀m:Nat,foldl (λx1 x2=>x1++x2) #[] (replicate m its.toArray)=(replicate m its).flatten.toArray:=λm=>by
   have:=yJ its m [];rw[nil_append] at this;exact this
  rw[f0]
  cases its with
  |nil=>simp
  |cons a r'=>rw[if_neg ⋯]
 refine wpAny_binaryOp_repeat_ref (T:="list") (U:="int") ∅ ⟨_,e,rfl⟩ (λs'=>typeIs_int s' k t) noFill_list_mul F.fills_int_mul F.slot_int_rmul repeat_list F.slot_int_index.lookup
  (call_meets F.slot_int_rmul (typeIs_int s k t) F.entry_int_rmul (F.args_int_rmul_2 _ _) (int___rmul___int_list k t l its.toArray n)
   ⟨e,rfl,⟨_,e,rfl⟩,call_meets F.slot_list_mul ⟨_,e,rfl⟩ F.entry_list_mul (F.args_list_mul_2 _ _) (AutoListH.list___mul___list_int_3 l its.toArray n k t hfit hcap hlong) ⟨e,?_⟩⟩)
 rw[hnew];exact⟨.ref _,_,I.lnew (t':=s.toks) (r.rep k.toNat) (by rw[Wg,Nat.mul_comm];exact hz),rfl,q _ I.fresh⟩
end
end L2
namespace Att
open PySem PySem.W PySem.Calls PyProof.Rows
theorem tS:∀(ns:List Int) (vs:List Value),WellAll P h vs (ns.map WData.int)->IntsAre vs ns:=by
 intro ns
 induction ns with
 |nil=>
  intro vs w;rw[map_nil] at w
  cases w
  exact .nil
 |cons n ns ih=>
  intro vs w;rw[map_cons] at w
  cases w with
  |cons a b=>
   cases a
   exact .cons _ _ (ih _ b)
theorem Lr {l:OpenLaw}(hn:l.most=some n)(hpre:l.row.toRowW.claim.pre args=true)(hwl:WellAll P h vals args):
  ∃a vs ns,vals=[Value.ref a]/\args=[WData.list (ns.map WData.int)]/\h.get? a=some { cls:=.type "list",data:=.seq vs.toArray }/\IntsAre vs ns/\ns.length<=n:=by
 have hsh:WShape.hasAll [] args [.list .int]=true:=(pre_splitW hpre).1;have hc:l.pre.holds [] { args:=args }=true:=(pre_splitW hpre).2;obtain⟨d,r,rfl,h1,h2⟩:=hasAllW_cons hsh;obtain rfl:=hasAllW_nil h2;obtain⟨xs,rfl,h3⟩:=hasW_list h1;obtain⟨ns,rfl⟩:=items_int h3;have hlen:ns.length<=n:=by
  unfold OpenLaw.pre at hc;have h4:(WTm.not (.lt (.lit (.int (n:Int))) (.len (.arg 0)))).holds [] { args:=[.list (ns.map .int)] }=true:=by
   have h4:=(holds_andW hc).1;rw[hn] at h4;exact h4
  have h5:=condW_of h4 (w_not (w_lt w_lit (w_len_list (w_arg rfl))));rw[length_map] at h5;refine Nat.le_of_not_lt λq=>?_;have q':(n:Int) < ((ns.length:Nat):Int):=by lia
  first
   | (rw[decide_eq_true q'] at h5;exact absurd h5 ∅)
   | (simp at h5;lia)
 cases hwl with
 |cons w1 w2=>
  cases w2
  cases w1 with
  |list ho hall=>exact⟨_,_,ns,rfl,rfl,ho,tS ns _ hall,hlen⟩
theorem Nb (l:OpenLaw)(args:List WData):l.row.toRowW.claim.post args (.bool true) args=true:=
 postW_of (r:=l.row.toRowW) (X:=(true == true))
  (show WShape.has [] (.bool true) .bool=true by first | rfl | decide | simp[WShape.has,WShape.arms,WShape.armsAll])
  (show (WTm.eq .res (.lit (.bool true))).value [] { args:=args,res:=some (.bool true),after:=args }=some (.bool (true == true)) from w_eq_bool (w_res rfl) w_lit) rfl
theorem attach_call {l:OpenLaw}(hn:l.most=some n)(hdf:d.params.defaults=[])(call:∀(w:World) (s₀ s₁:Shared) (mg mb:Str->Option Value) (fa:Addr) (o:Obj) (pm cd doc:Value) (a:Addr) (vs:List Value) (ns:List Int),
   Ground q loose [] XP w s₀ mg mb s₁.heap->YP w s₁.heap->
   s₁.heap.get? fa=some o->o.data=.func (docDef d.name d.params d.body d.scope pm cd doc)->s₁.heap.CodeRec cd d.name->mg d.name=some (.ref fa)->
   s₁.heap.get? a=some { cls:=.type "list",data:=.seq vs.toArray }->IntsAre vs ns->ns.length<=n->s₁.gens=#[]->
   codeAny (model l.prog w) callerA (.call (.ref fa) ⟨[.ref a],[]⟩) (λr s'=>r=.ok (.ret (.bool true))/\OldK s₁.heap s'.heap/\s'.os=s₁.os/\AllBare s'.gens) s₁):
  WalkO q loose XP YP l.row.toRowW d [] (λf vs=>PySem.call f vs):=by
 intro w s₀ s₁ mg mb G Y fa o pm cd doc dV kV ho hd hcd hD hmg hg args vals as hpre hlay hrd hwl hlo;obtain rfl:dV=.none:=Dflts.none hD hdf;obtain rfl:kV=.none:=Dflts.noKw hD;obtain⟨a,vs,ns,rfl,rfl,hobj,hints,hlen⟩:=Lr hn hpre hwl;refine enter_call (codeAny_mono (call w s₀ s₁ mg mb fa o pm cd doc a vs ns G Y ho (fd_plain hd) hcd hmg hobj hints hlen hg) λr s' hq=>?_);obtain⟨rfl,h2,h3,h4⟩:=hq;exact⟨.inl ⟨.bool true,.bool true,[],rfl,λ_=>rfl,.bool true,Nb l _,λ_=>⟨Pairwise.nil,λ_ hm=>(nomatch hm)⟩⟩,h2,h3,h4⟩
end Att
namespace L2
open PySem PySem.Spec PyProof.Rows
theorem yI:∀{vs:List Value} {ns:List Int},IntsAre vs ns->cE (ns.map V.int) vs
 |_,_,.nil=>.nil
 |_,_,.cons n t h=>.cons ⟨t,rfl⟩ (yI h)
def qe6 (H:Hp):Prop:=∀b,H b=none\/∃o xs,H b=some (.frz o (.lst xs))
theorem Pc {K:Frag}(KX:K.In s₁.heap)(hns:s₁.heap.Ns mainGlobals mg)(hb:s₁.heap.Ns builtinsNs mb)(hbb:∀x:Str,x≠"__name__"->mb x=bootBuiltins x)(hlim:s₁.heap.NoLimit)(hg:s₁.gens=#[])(ha:s₁.heap.get? a=some { cls:=.type "list",data:=.seq vs.toArray })(hi:IntsAre vs ns)(hl:ns.length<=sizeLine)(hr:gQ k callerA)(F:∀base:Heap,K.In base->base.Ns mainGlobals mg->aL P w K mg base CX k fa fd [x] sp)(hbind:∀(s:Shared) (u:Value),BindsTo s fd ⟨[u],[]⟩ [(x,u)])(hsp:∀H:Hp,qe6 H->SqL K H a (ns.map V.int)->sp [.ref a] H (λv _=>v=.bl true) λ_ _ _=>False)(hCX:∀H e s',CX [] H s₁ (λ_ _ _=>False) e s'->False):
  codeAny (model P w) callerA (.call (.ref fa) ⟨[.ref a],[]⟩) (λr s'=>r=.ok (.ret (.bool true))/\OldK s₁.heap s'.heap/\s'.os=s₁.os/\AllBare s'.gens) s₁:=by
 have rv:=yI hi;have lenV:=hi.length;have core:∀H:Hp,qe6 H->SqL K H a (ns.map V.int)->HOk P w H s₁.heap->(∀b,H b≠none->b=a)->(H a≠none->K.lookup a=none)->
   codeAny (model P w) callerA (.call (.ref fa) ⟨[.ref a],[]⟩) (λr s'=>r=.ok (.ret (.bool true))/\OldK s₁.heap s'.heap/\s'.os=s₁.os/\AllBare s'.gens) s₁:=by
  intro H hO hS hok hA hK;have base_of:∀{b:Addr} {o:Obj},s₁.heap.get? b=some o->H b=none->(Bo s₁.heap H).get? b=some o:=λe n=>Tc e n;have noA:∀{b:Addr} {o:Obj} {es:Array DictEntry} {ep:Nat},s₁.heap.get? b=some o->o.data=.dict es ep->H b=none:=λ{b o es ep} e d=>by
   cases q:H b with
   |none=>rfl
   |some u=>
    have e':b=a:=hA b (by rw[q];simp);subst e';rw[ha] at e;cases e;have d':Data.seq vs.toArray _=Data.dict es ep:=d
    cases d'
  have nsK:∀{b:Addr} {m:Str->Option Value},s₁.heap.Ns b m->(Bo s₁.heap H).Ns b m:=λ{b m} ⟨o,es,ep,e,d,r⟩=>⟨o,es,ep,base_of e (noA e d),d,r⟩
  have hKb:K.In (Bo s₁.heap H):=λb o e=>base_of (KX b o e) (by
   cases q:H b with
   |none=>rfl
   |some u=>
    have e':b=a:=hA b (by rw[q];simp);subst e';rw[hK (by rw[q];simp)] at e;cases e)
  have hM:Mod K mg (Bo s₁.heap H):=⟨hKb,nsK hns,⟨mb,nsK hb,hbb⟩,let ⟨mc,h1,h2⟩:=hlim;⟨mc,nsK h1,h2⟩⟩
  have e0:Fn P w K mg (Bo s₁.heap H) callerA [] s₁ H:=⟨rfl,hM,λb o e=>Xq e,Nat.le_of_eq (Nl _ _),trivial,λb hb=>absurd (show b∈([]:List Addr) from hb) ⋯,hok,.of_eq hg⟩
  refine codeAny_mono ((F _ hKb (nsK hns)).run callerA [] s₁ H ⟨[.ref a],[]⟩ [.ref a] [.ref a] _ _ hr e0 (hbind s₁ (.ref a)) (.cons rfl .nil) (hsp H hO hS)) λr s' h=>?_
  cases r with
  |error e=>exact(hCX H e s' h).elim
  |ok fl=>
   cases fl with
   |next=>exact False.elim h
   |brk=>exact False.elim h
   |cont=>exact False.elim h
   |ret u=>
    obtain⟨v,H',os,bare,un,hok',r',q⟩:=h;have q':v=.bl true:=q;subst q';obtain rfl:u=Value.bool true:=r';refine⟨rfl,OldK.of_keep λb o e=>?_,os,bare⟩
    cases q:H b with
    |none=>exact un.keep b o e q (by intro z;exact absurd (show b∈([]:List Addr) from z) ⋯) ⋯
    |some u=>
     rcases hO b with z | ⟨ob,xs,z⟩
     .rw[q] at z;cases z
     .have z2:=un.frzs b ob _ z;obtain⟨e1,_⟩:=hok b _ z;obtain⟨e2,_⟩:=hok' b _ z2;rw[e] at e1;cases e1;exact e2
 cases hk:K.lookup a with
 |some o=>
  have e:=KX a o hk;rw[ha] at e
  cases e
  refine core (λ_=>none) (λ_=>.inl rfl) (.inr ⟨_,vs.toArray,_,hk,rfl,rfl,rfl,by rw[size_toArray,lenV];exact hl,by simpa using rv⟩) (λb u z=>by have z':(none:Option HO)=some u:=z;cases z') (λb z=>absurd rfl z) λz=>absurd rfl z
 |none=>
  refine core (λb=>if b=a then some (.frz { cls:=.type "list",data:=.seq vs.toArray } (.lst (ns.map V.int))) else none) (λb=>?_) (.inl (.inr ⟨{ cls:=.type "list",data:=.seq vs.toArray },if_pos rfl⟩)) (λb u z=>?_) (λb z=>?_) λ_=>hk
  .by_cases hb:b=a
   .exact .inr ⟨_,_,if_pos hb⟩
   .exact .inl (if_neg hb)
  .by_cases hb:b=a
   .have z':=(if_pos hb).symm.trans z
    cases z'
    subst hb;exact⟨ha,by rw[length_map];exact hl,vs,_,rv,ha⟩
   .have z':=(if_neg hb).symm.trans z
    cases z'
  .by_cases hb:b=a
   .exact hb
   .exact absurd (if_neg hb) z
abbrev KOf {K:Frag}{h:Heap}(_:K.In h):Frag:=K
theorem Ux {l:W.OpenLaw}{XP:(Str->Option Value)->Heap->Prop}{K:Params->Frag}{CX:World->CXT}{sp:World->Sp}(hn:l.most=some n)(hn2:n<=sizeLine)(hdf:d.params.defaults=[])(hr:gQ k callerA)(hY:∀(w:World) (h:Heap),YP w h->(K w.params).In h)(F:∀(w:World) (mg:Str->Option Value) (fa:Addr) (h:Heap),(K w.params).In h->h.Ns mainGlobals mg->mg d.name=some (.ref fa)->
   ∃fd:FuncData,(∀(s:Shared) (u:Value),BindsTo s fd ⟨[u],[]⟩ [(x,u)])/\
    ∀base:Heap,(K w.params).In base->base.Ns mainGlobals mg->aL l.prog w (K w.params) mg base (CX w) k fa fd [x] (sp w))(hsp:∀(w:World) (H:Hp) (a:Addr) (ns:List Int),ns.length<=n->qe6 H->SqL (K w.params) H a (ns.map V.int)->sp w [.ref a] H (λv _=>v=.bl true) λ_ _ _=>False)(hCX:∀(w:World) (H:Hp) (s:Shared) (e:Value) (s':Shared),CX w [] H s (λ_ _ _=>False) e s'->False):
  W.WalkO q loose XP YP l.row.toRowW d [] (λf vs=>PySem.call f vs):=by
 refine Att.attach_call hn hdf λw s₀ s₁ mg mb fa o pm cd doc a vs ns G Y ho hd hcd hmg hobj hints hlen hg=>?_;have KX:=hY w _ Y;obtain⟨fd,hb,hF⟩:=F w mg fa _ KX G.T.g hmg;exact Pc KX G.T.g G.T.b G.T.builtins G.T.nolimit hg hobj hints (Nat.le_trans hlen hn2) hr hF hb (λH hO hS=>hsp w H a ns hlen hO hS) λH e s'=>hCX w H s₁ e s'
def cK (s:Stmt)(j:Nat):Stmt:=match s with
 | .ClassDef _ _ _ body _ _ _ _ _ _ _=>body.getD j (.Pass ⟨0,0,0,0⟩)
 |_=>.Pass ⟨0,0,0,0⟩
def eX (s:Stmt):Arguments:=match s with
 | .FunctionDef _ a _ _ _ _ _ _ _ _=>a
 |_=>{ posonlyargs:=[],args:=[],vararg:=none,kwonlyargs:=[],kw_defaults:=[],kwarg:=none,defaults:=[] }
def cV (s:Stmt):List Stmt:=match s with
 | .FunctionDef _ _ b _ _ _ _ _ _ _=>b
 |_=>[]
def aI (s:Stmt):Scope:=match s with
 | .FunctionDef _ _ _ _ _ _ sc _ _ _=>sc
 |_=>{ kind:=.function,names:=[],isGenerator:=false,isCoroutine:=false }
abbrev CX0:CXT:=λ_ _ _ _ _ _=>False
abbrev E0:XK:=λ_ _ _=>False
theorem aK:jV CX0 X E0:=λ_ _ _ _ _ _ _ h=>h.elim
theorem zH (hr:gQ k A):A.units+1 < cLine:=Nat.lt_of_le_of_lt (Nat.add_le_add_left (by decide:1<=64) _) hr.units
theorem bK (h:n<=1000):n < sizeLine:=Nat.lt_of_le_of_lt h ∅
section
variable {X:Cx}
theorem pv (i:Nat)(hN:X.N[i]?=some x:=by rfl)(hv:Vis X.env.scope x:=by first | exact Or.inl rfl | exact Or.inr (Or.inl rfl) | exact Or.inr (Or.inr rfl))(hd:(x == ("__debug__":Str))=false:=by decide)(hcd:(x == ("__classdict__":Str))=false:=by decide):PE X (.Name x pos) (Ud i):=Ov hN hv hd hcd
end
theorem gH {A B:Prop}(h:B):if false=true then A else B:=by
 rw[if_neg Bool.false_ne_true];exact h
theorem gC {A B:Prop}(h:A):if true=true then A else B:=by
 rw[if_pos rfl];exact h
theorem pC {c A B:Prop}[Decidable c](h1:c->A)(h2:¬c->B):if c then A else B:=by
 by_cases h:c
 .rw[if_pos h];exact h1 h
 .rw[if_neg h];exact h2 h
def aV (H H':Hp):Prop:=∀b o,H b=some o->H' b=some o
theorem aV.refl (H:Hp):aV H H:=λ_ _ h=>h
theorem aV.trans (a:aV H H1)(b:aV H1 H2):aV H H2:=λc o h=>b c o (a c o h)
theorem aV.free (e:aV H H')(h:H' l=Option.none):H l=Option.none:=by
 cases q:H l with
 |none=>rfl
 |some o=>
  rw[e l o q] at h
  cases h
theorem aV.seq {K:Frag}(e:aV H H')(h:SqL K H a xs):SqL K H' a xs:=by
 rcases h with (h | ⟨o,h⟩) | h
 .exact .inl (.inl (e _ _ h))
 .exact .inl (.inr ⟨o,e _ _ h⟩)
 .exact .inr h
section
variable {X:Cx}
def Bt (n:Nat)(i:Int):Prop:=i.natAbs < 2 ^ n
theorem vV (h:Bt n i):Builtin.Int.intBits i<=n:=by
 unfold Builtin.Int.intBits;split
 .exact Nat.zero_le _
 .rename_i h0
  have hp:i.natAbs≠0:=by
   intro z;apply h0;simp at z ⊢;exact z
  have:i.natAbs.log2 < n:=(Nat.log2_lt hp).mpr h;lia
def Vv (i j:Int):Prop:=∃n m,Bt n i/\Bt m j/\n<=1048576/\m<=1048576
theorem Vv.ok (h:Vv i j):IntMulOk i j:=by
 obtain⟨n,m,h1,h2,h3,h4⟩:=h;have e:(2:Nat) ^ 20=1048576:=by decide
 exact IntMulOk.of_bits (by have:=vV h1;lia) (by have:=vV h2;lia)
theorem cW:OpR X (binaryOp .Mult) (rI Vv λi j=>.int (i*j)):=opI λ_ _ _ _ _ _ _ hc q=>mul_int q hc.ok
def Kc (i j:Int):Prop:=j≠0/\∃n,Bt n j/\n<=9000
theorem Kc.ok (h:Kc i j):Builtin.divisionGoesByPylong i j=false:=by
 obtain⟨h0,n,h1,h2⟩:=h;refine PyProof.noPylong_of_log2 ?_;have hp:j.natAbs≠0:=by lia
 have:j.natAbs.log2 < n:=(Nat.log2_lt hp).mpr h1;lia
theorem jE:OpR X (binaryOp .FloorDiv) (rI Kc λi j=>.int (i.fdiv j)):=opI λ_ _ _ _ _ _ _ hc q=>floordiv_int hc.1 q (.inl hc.ok)
mutual
inductive pK (K:Frag) (H:Hp):V->PyData->Prop where
 |non:pK K H .non .none
 |bl (b:Bool):pK K H (.bl b) (.bool b)
 |int (i:Int):pK K H (.int i) (.int i)
 |str (x:Str):pK K H (.str x) (.str x)
 |lst {a:Addr} {xs:List V} {ds:List PyData} (h:SqL K H a xs) (q:rF K H xs ds):pK K H (.ref a) (.list ds)
 |tup {a:Addr} {xs:List V} {ds:List PyData} (h:SqT K H a xs) (q:rF K H xs ds):pK K H (.ref a) (.tuple ds)
inductive rF (K:Frag) (H:Hp):List V->List PyData->Prop where
 |nil:rF K H [] []
 |cons {x:V} {d:PyData} {xs:List V} {ds:List PyData} (p:pK K H x d) (q:rF K H xs ds):rF K H (x :: xs) (d :: ds)
end
theorem kJ {H:Hp}(I:Inv X pins σ H s):∀{x:V} {d:PyData},pK X.K H x d->∀{u:Value},cG x u->∃as,Reads s.heap u d as:=by
 intro x d h
 induction h using pK.rec (motive_2:=λxs ds _=>∀{us:List Value},cE xs us->∃as,ReadsAll s.heap us ds as) with
 |non=>intro u r;cases (show u=Value.none from r);exact⟨_,.none⟩
 |bl b=>intro u r;cases (show u=Value.bool b from r);exact⟨_,.bool b⟩
 |int i=>intro u r;obtain⟨t,rfl⟩:=(show ∃t,u=Value.int i t from r);exact⟨_,.int i t⟩
 |str y=>intro u r;obtain⟨t,rfl⟩:=(show ∃t,u=Value.str y t from r);exact⟨_,.str y t⟩
 |lst h q ih=>
  intro u r
  cases (show u=Value.ref _ from r)
  obtain⟨its,rv,pl,_⟩:=I.list h;obtain⟨as,ra⟩:=ih rv;obtain⟨o,h1,h2,n,h3⟩:=pl.isList;exact⟨_,.list h1 h2 h3 (by simpa using ra)⟩
 |tup h q ih=>
  intro u r
  cases (show u=Value.ref _ from r)
  obtain⟨its,rv,pl,_⟩:=I.tuple h;obtain⟨as,ra⟩:=ih rv;obtain⟨o,h1,h2,n,h3⟩:=pl;exact⟨_,.tuple h1 h2 h3 (by simpa using ra)⟩
 |nil=>rename_i us r;cases r;exact⟨_,.nil⟩
 |cons p q ih1 ih2=>
  rename_i us r
  cases r with
  |cons r1 r2=>
   obtain⟨as,h1⟩:=ih1 r1;obtain⟨bs,h2⟩:=ih2 r2;exact⟨_,.cons h1 h2⟩
inductive vS (K:Frag) (neg:Bool) (x:V) (y:V) (H:Hp) (Q:VK):Prop where
 |mk (d e):pK K H x d->pK K H y e->d.canLay0=true->e.canLay0=true->min d.depth e.depth<=16->Q (.bl (if neg then !PyData.eqv d e else PyData.eqv d e)) H->vS K neg x y H Q
theorem kO (hu:X.A.units+64 < cLine):OpR X (compareOp .Eq) (vS X.K false):=by
 intro pins s σ H x y v u Q I rx ry h;obtain⟨d,e,h1,h2,c1,c2,hm,q⟩:=h;obtain⟨as,r1⟩:=kJ I h1 rx;obtain⟨bs,r2⟩:=kJ I h2 ry;exact PySem.SeqAt.compareEq_reads r1 r2 c1 c2 () ⟨.bl (PyData.eqv d e),H,I,rfl,q⟩
theorem pG (hu:X.A.units+64 < cLine):OpR X (compareOp .NotEq) (vS X.K true):=by
 intro pins s σ H x y v u Q I rx ry h;obtain⟨d,e,h1,h2,c1,c2,hm,q⟩:=h;obtain⟨as,r1⟩:=kJ I h1 rx;obtain⟨bs,r2⟩:=kJ I h2 ry;exact PySem.SeqAt.compareNe_reads r1 r2 c1 c2 () ⟨.bl (!PyData.eqv d e),H,I,rfl,q⟩
end
section
variable {prog:Program} {w:World} {A:Around} {R:Result->Shared->Prop} {s:Shared}
abbrev Yz (ifs:List Expr)(env:Env):Sem Bool:=forIn ifs true λc r=>if r=true then do let ok <- isTrue c env (eval c env);pure (ForInStep.yield ok) else pure (ForInStep.yield r)
theorem My {elt target iter:Expr}(I:Nat->Shared->Prop)(turn:∀n s,I n s->wpAny (model prog w) A (pyNext it) (λr s₁=>match r with
   |none=>R (.ok .next) s₁
   |some v=>wpAny (model prog w) A (letOwnedTupleGo target it v) (λ_ s₀=>wpAny (model prog w) A (assign target env v) (λ_ s₂=>
     wpAny (model prog w) A (Yz ifs env) (λok s₃=>
      if ok=true then wpAny (model prog w) A (eval elt env) (λx s₄=>
       wpAny (model prog w) A (call (.builtin "list.append") [acc,x]) (λ_ s₅=>∃m,m < n/\I m s₅) (λ_ _=>False) s₄) (λ_ _=>False) s₃
      else ∃m,m < n/\I m s₃) (λ_ _=>False) s₂) (λ_ _=>False) s₀) (λ_ _=>False) s₁) (λ_ _=>False) s)(n:Nat)(h:I n s):
  codeAny (model prog w) A (.compLoop (.ListComp elt [⟨target,iter,ifs,0⟩] scope pos) 0 it acc env) R s:=by
 refine codeAny_loop rfl I (λn s hI=>?_) n h;show wpAny _ A ((compTurn (.ListComp elt [⟨target,iter,ifs,0⟩] scope pos) 0 it acc env).onRaise (λx=>do noteFrame x env;theTreesLotGoes x)) _ _ s;refine wpAny_noted ?_;rw[compTurn_list];refine wpAny_bind (wpAny_standAt (wpAny_bind (wpAny_mono (turn n s hI) (λr s₁ h₁=>?_) λ_ _ z=>z.elim)))
 cases r with
 |none=>exact wpAny_pure h₁
 |some v=>
  refine wpAny_bind (wpAny_mono h₁ (λ_ s₀ h₀=>?_) λ_ _ z=>z.elim);refine wpAny_bind (wpAny_mono h₀ (λ_ s₂ h₂=>wpAny_bind (wpAny_mono h₂ (λok s₃ h₃=>?_) λ_ _ z=>z.elim)) λ_ _ z=>z.elim)
  cases ok with
  |false=>exact wpAny_pure ⟨rfl,h₃⟩
  |true=>
   rw[if_pos rfl] at h₃;show wpAny _ _ ((do let _ <- call (.builtin "list.append") [acc,<- eval elt env]) >>= λ_=>again (.compLoop (.ListComp elt [⟨target,iter,ifs,0⟩] scope pos) 0 it acc env)) _ _ _;exact wpAny_bind (wpAny_bind (wpAny_mono h₃ (λx s₄ h₄=>wpAny_bind (wpAny_mono h₄ (λ_ s₅ h₅=>wpAny_pure (wpAny_pure ⟨rfl,h₅⟩)) λ_ _ z=>z.elim)) λ_ _ z=>z.elim))
end
structure Ay (X:Cx) (scope:Scope) (cl:List (Str × Addr)) (Nc:List Str) (nl:Nat) (fr:List Nat):Prop where
 clos:closureFor scope X.env=pure cl
 kind:scope.kind=.function
 names:∀y∈scope.names,y.2=.local->scope.names.lookup y.1=some .local
 cell:∀y∈scope.names,y.2≠.cell
 sub:∀x c,cl.lookup x=some c->X.env.cells.lookup x=some c
 has:∀x,(relabel scope X.env).names.lookup x=some .cell\/(relabel scope X.env).names.lookup x=some .free->∃c,cl.lookup x=some c
 len:Nc.length=nl+fr.length
 tail:∀i n,Nc[nl+i]?=some n->∃j,fr[i]?=some j/\X.N[j]?=some n/\X.env.kindOf n=some .cell/\cl.lookup n=X.env.cells.lookup n/\((relabel scope X.env).names.lookup n=some .cell\/(relabel scope X.env).names.lookup n=some .free)
abbrev fK (X:Cx)(scope:Scope)(cl:List (Str × Addr))(Nc:List Str)(C:Addr)(s3:Shared)(H3:Hp)(fp:List Addr)(pins:List (Addr × Obj)):Cx:=
 { X with N:=Nc,s₀:=s3,H₀:=H3,env:=compEnvC scope cl C X.env,outer:=X.stack,ex:=fp,fn:=λ_=>false,pn:=X.pn++pins,xe:=λ_ _=>False }
def σC (nl:Nat)(fr:List Nat)(σ:St):St:=replicate nl none++fr.map λj=>(σ[j]?).join
abbrev PIf (X:Cx)(ifs:List Expr)(t:TT):Prop:=
 ∀(pins:List (Addr × Obj)) (s:Shared) (σ:St) (H:Hp) (Q:Bool->Hp->Prop),Inv X pins σ H s->t σ H Q->wpAny (model X.prog X.w) X.A (Yz ifs X.env) (TP X pins σ Q) X.xe s
theorem fX:PIf X [] (λ_ H Q=>Q true H):=λ_ _ _ H _ I h=>wpAny_pure ⟨H,I,h⟩
theorem uA (h:PT X c t):PIf X [c] t:=λpins s σ H Q I q=>wpAny_tests_one (h pins s σ H Q I q)
section
variable {X:Cx} {scope:Scope} {cl:List (Str × Addr)} {Nc:List Str} {nl:Nat} {fr:List Nat} {pins:List (Addr × Obj)} {σ:St} {H3:Hp} {s3:Shared} {fp:List Addr} {h4:Heap} {tk:Nat}
theorem Hy (ck:Ay X scope cl Nc nl fr)(I:Inv X pins σ H3 s3)(hf:∀b∈fp,oQ X pins H3 b)(hfs:∀b∈fp,b < s3.heap.objs.size)(hns:h4.Ns s3.heap.objs.size λ_=>none)(hk:∀b o,s3.heap.get? b=some o->h4.get? b=some o) :
  Inv (fK X scope cl Nc s3.heap.objs.size s3 H3 fp pins) [] (σC nl fr σ) H3 { s3 with heap:=h4,toks:=tk }:=by
 have stk:∀b∈frs X.stack,b∈X.env.locals :: X.fs:=I.stkSub;have nfs:∀b,b≠X.env.locals->b∉X.fs->b∉frs X.stack:=λb h1 h2 z=>(mem_cons.mp (stk b z)).elim h1 h2;have ltc:∀x c,cl.lookup x=some c->c < s3.heap.objs.size:=λx c e=>by
  obtain⟨v,z⟩:=I.cell x c (ck.sub x c e);exact z.lt
 refine⟨⟨I.ok.mod,ck.kind,I.ok.glob,I.ok.blt,Nat.le_refl _,λx y c h1 h2=>I.ok.inj x y c (ck.sub x c h1) (ck.sub y c h2),λx hx=>ck.has x hx,λx c hz=>Bool.noConfusion hz,I.ok.hd,I.ok.frames,.inl rfl,λb hb=>?_,I.bs,Nat.le_trans I.ok.bsz I.sz,λb o e hb=>?_,λb hb=>?_,I.stack,I.stkFree⟩,
  rfl,I.bare,Un.kept hk,⟨_,hns,λi x v h1 h2 h3=>?_⟩,λx c e=>?_,I.hok.fresh (Nat.le_refl _),λx c e=>I.freeC x c (ck.sub x c e),λp hp=>?_,I.hok.kept hk,?_⟩
 .obtain⟨f0,f1,f2,f3,f4,f5⟩:=hf b hb;exact⟨Nat.ne_of_lt (hfs b hb),λx c e=>f4 x c (ck.sub x c e)⟩
 .obtain⟨f0,f1,f2,f3,f4,f5⟩:=hf b hb;rcases f3 with z | z
  .exact I.ok.noex b o e z
  .exact absurd (Nat.lt_of_lt_of_le (Heap.lt_size e) (Nat.le_trans I.ok.bsz z)) (Nat.lt_irrefl _)
 .obtain⟨f0,f1,f2,f3,f4,f5⟩:=hf b hb;exact nfs b f1 f2
 .-- a name's value
  unfold σC at h2
  by_cases hi:i < nl
  .rw[getElem?_append_left (by simpa using hi),getElem?_replicate] at h2;split at h2<;>cases h2
  .have hi':nl<=i:=by lia
   rw[getElem?_append_right (by simpa using hi'),length_replicate,getElem?_map] at h2;obtain⟨k,rfl⟩:∃k,i=nl+k:=⟨i - nl,()⟩
   obtain⟨j,e1,e2,e3,e4,e5⟩:=ck.tail k x h1;rw[Nat.add_sub_cancel_left,e1] at h2;have h2':(σ[j]?).join=some v:=by simpa using h2
   have h2'':σ[j]?=some (some v):=by
    cases q:σ[j]? with
    |none=>rw[q] at h2';cases h2'
    |some z=>rw[q] at h2';exact congrArg some h2'
   obtain⟨m,hn,hl⟩:=I.loc;obtain⟨u,r,l⟩:=hl j x v e2 h2'' (.inr (.inl e3));refine⟨u,r,?_⟩;rcases l with ⟨k1,_⟩ | ⟨k1,c,ec,z⟩
   .rw[e3] at k1;cases k1
   .obtain⟨o,ho,hd⟩:=z;exact .inr ⟨e5,c,by show cl.lookup x=some c;rw[e4];exact ec,o,hk _ _ ho,hd⟩
 .obtain⟨v,o,ho,hd⟩:=I.cell x c (ck.sub x c e);exact⟨v,o,hk _ _ ho,hd⟩
 .have hp':p∈X.pn++pins:=by simpa using hp
  obtain⟨e,n,ne,nf,d⟩:=I.pin p hp';exact⟨hk _ _ e,n,Nat.ne_of_lt (Heap.lt_size e),nfs _ ne nf,d⟩
 .unfold σC;show _=Nc.length;rw[List.length_append,length_replicate,length_map,ck.len]
theorem Ti (I:Inv X pins σ H3 s3)(hf:∀b∈fp,oQ X pins H3 b)(J:Inv (fK X scope cl Nc s3.heap.objs.size s3 H3 fp pins) pins' σ' H' s'):Inv X pins σ H' s'/\oQ X pins H' s3.heap.objs.size:=by
 refine⟨I.call' (ch:=fp) J.os J.base J.hok J.bare λb hb=>?_,I.fpOk (Nat.le_refl _) J.free⟩;obtain⟨f0,f1,f2,f3,f4,f5⟩:=hf b hb;exact⟨f3,f1,f4,f5⟩
theorem Inv.off (I:Inv X pins σ H s)(f:oQ X pins H b)(hs:Heap.SameBut b s.heap h'):Inv X pins σ H { s with heap:=h' }:=by
 obtain⟨f0,f1,f2,f3,f4,f5⟩:=f;exact I.turned (t':=s.toks) (it:=b) (λc o hb e=>(hs.2 c hb).trans e) f0 f1 f3 f4 f5
end
def Em (J:It)(nl:Nat)(fr:List Nat)(g:TG)(tt:TT)(te:TE)(σ:St)(D:Addr)(H1:Hp)(Q:VK):Prop:=
 ∃W:Nat->Nat->List V->Hp->Prop,(∃m,W 0 m [] (upd H1 D (.lst [])))/\∀i m ys H2,W i m ys H2->H2 D=some (.lst ys)/\
  ((J.stop i H2/\Q (.ref D) H2)\/(J.go i H2/\∀x H3,J.yld i H2 x H3->g x (σC nl fr σ) H3 λσ2 H4=>σ2.length=(σC nl fr σ).length/\(∀(i:Nat) v,(σC nl fr σ)[i]?=some (some v)->σ2[i]?=some (some v))/\
   tt σ2 H4 λb H5=>if b=true then te σ2 H5 λy H6=>H6 D=some (.lst ys)/\ys.length < sizeLine/\∃m',m' < m/\W (i+1) m' (ys++[y]) (upd H6 D (.lst (ys++[y])))
    else ∃m',m' < m/\W (i+1) m' ys H5))
def Tz (wi:TI)(nl:Nat)(fr:List Nat)(g:TG)(tt:TT)(te:TE):TE:=λσ H Q=>wi σ H λJ H1=>∀D,H1 D=none->Em J nl fr g tt te σ D H1 Q
section
variable {X:Cx} {scope:Scope} {cl:List (Str × Addr)} {Nc:List Str} {nl:Nat} {fr:List Nat} {elt tg iter:Expr} {ifs:List Expr} {pos:Pos} {wi:TI} {g:TG} {tt:TT} {te:TE}
theorem Es (hc:X.calm=true)(ck:Ay X scope cl Nc nl fr)(hi:PI X tg iter wi)(hg:∀C s3 H3 fp pins,PG (fK X scope cl Nc C s3 H3 fp pins) tg g)(ht:∀C s3 H3 fp pins,PIf (fK X scope cl Nc C s3 H3 fp pins) ifs tt)(he:∀C s3 H3 fp pins,PE (fK X scope cl Nc C s3 H3 fp pins) elt te)(I:Inv X pins σ H s)(h:Tz wi nl fr g tt te σ H Q){RR:Value->Addr->Result->Shared->Prop}(fin:∀D C s',(∃H',(∃m,s'.heap.Ns C m)/\Inv X pins σ H' s'/\oQ X pins H' C/\Q (.ref D) H')->RR (.ref D) C (.ok .next) s'):
  wpAny (model X.prog X.w) X.A (eval iter X.env) (λx s₁=>wpAny (model X.prog X.w) X.A (pyIter x) (λit s₂=>wpAny (model X.prog X.w) X.A (newList []) (λacc s₃=>
   wpAny (model X.prog X.w) X.A (newFunctionEnv scope X.env.globals cl [] X.env.qual none .none (some X.env)) (λcenv s₄=>
    codeAny (model X.prog X.w) X.A (.compStart (.ListComp elt [⟨tg,iter,ifs,0⟩] scope pos) 0 it acc { cenv with scope:=relabel scope X.env }) (RR acc cenv.locals) s₄) X.xe s₃) X.xe s₂) X.xe s₁) X.xe s:=by
 refine thn (hi pins s σ H _ I h) λv s1 h1=>thn h1 λitv s2 h2=>?_;obtain⟨it,fp,tn,J,H2,e,I2,T,st2,f2,hD⟩:=h2;subst e;have hn2:H2 s2.heap.objs.size=none:=I2.hok.fresh (Nat.le_refl _);obtain⟨W,⟨m0,w0⟩,turn⟩:=hD s2.heap.objs.size hn2;refine wpAny_newObj_type (wpAny_newFunctionEnv ck.cell (by intro y hy;simp at hy) (λh4 hns hsb=>?_) ck.kind);dsimp only at hns hsb ⊢;have I3:Inv X pins σ (upd H2 s2.heap.objs.size (.lst [])) { s2 with heap:=s2.heap.push { cls:=.type "list",dict:=none,data:=.seq ([]:List Value).toArray } }:=
  I2.laid (t':=s2.toks) (λb u e=>Heap.get?_push_of_some _ e) (Nat.le_refl _) ⟨Nat.zero_le _,[],0,.nil,Heap.get?_push_size _ rfl⟩
 have hfs:∀b∈fp,b < s2.heap.objs.size:=λb hb=>by
  obtain⟨o,e,_⟩:=T.obj 0 _ st2 b hb;exact Heap.lt_size e
 have f3:∀b∈fp,oQ X pins (upd H2 s2.heap.objs.size (.lst [])) b:=λb hb=>⟨by rw[aX (Nat.ne_of_lt (hfs b hb))];exact(f2 b hb).1,(f2 b hb).2⟩
 generalize hH3:upd H2 s2.heap.objs.size (.lst [])=H3 at *
 generalize hs3:({ s2 with heap:=s2.heap.push { cls:=.type "list",dict:=none,data:=.seq ([]:List Value).toArray } }:Shared)=s3 at *
 have z3:s3.heap=s2.heap.push { cls:=.type "list",dict:=none,data:=.seq ([]:List Value).toArray }:=by rw[<- hs3]
 have hsz3:s3.heap.objs.size=s2.heap.objs.size+1:=by rw[z3,Heap.size_push]
 rw[<- z3] at hns hsb ⊢;have hk4:∀b o,s3.heap.get? b=some o->h4.get? b=some o:=λb o e=>hsb.extBut b o (Nat.ne_of_lt (Heap.lt_size e)) (Heap.get?_push_of_some _ e);have hfs3:∀b∈fp,b < s3.heap.objs.size:=λb hb=>Nat.lt_of_lt_of_le (hfs b hb) (by rw[hsz3];exact Nat.le_succ _);have hns':h4.Ns s3.heap.objs.size λ_=>none:=by simpa using hns
 have K0:=λtk=>Hy (tk:=tk) ck I3 f3 hfs3 hns' hk4;have stat:∀{H':Hp},(∀b∈fp,H' b=none)->∀b∈fp,oQ (fK X scope cl Nc s3.heap.objs.size s3 H3 fp pins) [] H' b:=λ{H'} hn b hb=>by
  obtain⟨f0,g1,g2,g3,g4,g5⟩:=f3 b hb;refine⟨hn b hb,Nat.ne_of_lt (hfs3 b hb),λz=>?_,.inl hb,λx c e=>g4 x c (ck.sub x c e),λp hp=>g5 p (by simpa using hp)⟩;exact(mem_cons.mp (I3.stkSub b z)).elim g1 g2
 have st4:tn 0 h4:=T.keep 0 _ _ st2 λb hb o e=>hk4 b o (by rw[z3];exact Heap.get?_push_of_some _ e);have loop:∀tk,codeAny (model X.prog X.w) X.A (.compLoop (.ListComp elt [⟨tg,iter,ifs,0⟩] scope pos) 0 (.ref it) (.ref s2.heap.objs.size) (compEnvC scope cl s3.heap.objs.size X.env)) (RR (.ref s2.heap.objs.size) s3.heap.objs.size) { s3 with heap:=h4,toks:=tk }:=by
  intro tk;refine My (λn s'=>∃i ys H',Inv (fK X scope cl Nc s3.heap.objs.size s3 H3 fp pins) [] (σC nl fr σ) H' s'/\tn i s'.heap/\(∀b∈fp,H' b=none)/\W i n ys H') ?_ m0 ⟨0,[],H3,K0 tk,st4,λb hb=>(f3 b hb).1,w0⟩;rintro n s5 ⟨i,ys,H5,I5,st5,fr5,w5⟩;obtain⟨hl5,q5⟩:=turn i n ys H5 w5;rcases q5 with ⟨stop,qn⟩ | ⟨go,step⟩
  .refine wpAny_mono (T.done (fK X scope cl Nc s3.heap.objs.size s3 H3 fp pins) rfl rfl rfl hc i [] s5 (σC nl fr σ) H5 (λ_ _=>False) I5 (stat fr5) st5 stop) (λr s6 h6=>?_) λ_ _ z=>z;obtain⟨hr,I6⟩:=h6;subst hr;obtain⟨z1,z2⟩:=Ti I3 f3 I6;refine fin _ _ _ ⟨H5,?_,z1,z2,qn⟩;obtain⟨m,hm,_⟩:=I6.loc;exact⟨m,hm⟩
  .refine wpAny_mono (T.item (fK X scope cl Nc s3.heap.objs.size s3 H3 fp pins) rfl rfl rfl hc i [] s5 (σC nl fr σ) H5 (λ_ _=>False) I5 (stat fr5) st5 go) (λr s6 h6=>?_) λ_ _ z=>z;obtain⟨u,hr,h6⟩:=h6;subst hr;refine wpAny_mono h6 (λ_ s7 h7=>?_) λ_ _ z=>z;obtain⟨x,H7,I7,r7,y7,st7,fr7⟩:=h7;have I7':=I7.pinned (stat fr7) (T.obj _ _ st7);refine wpAny_mono (hg s3.heap.objs.size s3 H3 fp pins _ s7 _ H7 x u _ I7' r7 (step x H7 y7)) (λ_ s8 h8=>?_) λ_ _ z=>z;obtain⟨σ8,H8,I8,l8,k8,q8⟩:=h8;refine wpAny_mono (ht s3.heap.objs.size s3 H3 fp pins _ s8 σ8 H8 _ I8 q8) (λb s9 h9=>?_) λ_ _ z=>z;obtain⟨H9,I9,q9⟩:=h9;have again:∀{ys':List V} {H':Hp} {s':Shared} {m':Nat},Inv (fK X scope cl Nc s3.heap.objs.size s3 H3 fp pins) ([]++xK fp s7.heap) σ8 H' s'->m' < n->W (i+1) m' ys' H'->
     ∃m,m < n/\∃i ys H',Inv (fK X scope cl Nc s3.heap.objs.size s3 H3 fp pins) [] (σC nl fr σ) H' s'/\tn i s'.heap/\(∀b∈fp,H' b=none)/\W i m ys H':=λ{ys' H' s' m'} I' hm w'=>by
    refine⟨m',hm,i+1,ys',H',I'.unpinned.weak l8.symm k8,T.keep _ _ _ st7 λb hb o e=>(I'.pin (b,o) (mem_append_right _ (mem_append_right _ (kI hb e)))).1,λb hb=>?_,w'⟩;obtain⟨o,e,d⟩:=T.obj _ _ st7 b hb;exact(I'.pin (b,o) (mem_append_right _ (mem_append_right _ (kI hb e)))).2.1
   cases b with
   |false=>
    rw[if_neg Bool.false_ne_true] at q9 ⊢;obtain⟨m',hm,w9⟩:=q9;exact again I9 hm w9
   |true=>
    rw[if_pos rfl] at q9 ⊢;refine wpAny_mono (he s3.heap.objs.size s3 H3 fp pins _ s9 σ8 H9 _ I9 q9) (λyv s10 h10=>?_) λ_ _ z=>z;obtain⟨y,H10,I10,r10,hl10,hz10,m',hm,w10⟩:=h10;refine wpAny_mono (fD (X:=fK X scope cl Nc s3.heap.objs.size s3 H3 fp pins) _ s10 σ8 H10 (.ref s2.heap.objs.size) [y] _ [yv] (λv H'=>H'=upd H10 s2.heap.objs.size (.lst (ys++[y]))) I10 rfl (.cons r10 .nil) ⟨_,ys,y,rfl,rfl,hl10,hz10,rfl⟩) (λ_ s11 h11=>?_) λ_ _ z=>z;obtain⟨_,H11,I11,_,e11⟩:=h11;subst e11;exact again I11 hm w10
 have L:=loop (s2.toks+([]:List (Str × Value)).length);rw[show s3.gens=s2.gens by rw[<- hs3],show s3.drawn=s2.drawn by rw[<- hs3],show s3.os=s2.os by rw[<- hs3]] at L;exact codeAny_compStart_list L (T.self _ 0 _ _ _ st4 L)
theorem fV (hc:X.calm=true)(ck:Ay X scope cl Nc nl fr)(hi:PI X tg iter wi)(hg:∀C s3 H3 fp pins,PG (fK X scope cl Nc C s3 H3 fp pins) tg g)(ht:∀C s3 H3 fp pins,PIf (fK X scope cl Nc C s3 H3 fp pins) ifs tt)(he:∀C s3 H3 fp pins,PE (fK X scope cl Nc C s3 H3 fp pins) elt te)(hs:∀x,foldedSetIterable iter X.env x=pure x:=by intro _;rfl):PE X (.ListComp elt [⟨tg,iter,ifs,0⟩] scope pos) (Tz wi nl fr g tt te):=by
 intro pins s σ H Q I h;rw[eval_ListComp];refine wpAny_comprehension_free (use:=none) rfl hs ck.clos ck.kind ck.names (Es (RR:=λacc C=>compPost (model X.prog X.w) X.A X.xe none (EP X pins σ Q) acc C) hc ck hi hg ht he I h λD C s' hh=>?_);obtain⟨H',⟨m,hm⟩,hI,hF,q⟩:=hh;exact⟨m,hm,λh' hs'=>⟨.ref D,H',hI.off hF hs',rfl,q⟩⟩
theorem uV (hN:X.N.Nodup)(hiy:X.N[i]?=some y)(hy:X.env.scope.names.lookup y=some .local)(hc:X.calm=true)(ck:Ay X scope cl Nc nl fr)(hi:PI X tg iter wi)(hg:∀C s3 H3 fp pins,PG (fK X scope cl Nc C s3 H3 fp pins) tg g)(ht:∀C s3 H3 fp pins,PIf (fK X scope cl Nc C s3 H3 fp pins) ifs tt)(he:∀C s3 H3 fp pins,PE (fK X scope cl Nc C s3 H3 fp pins) elt te)(hsw:swapsWith (.ListComp elt [⟨tg,iter,ifs,0⟩] scope pos) (some (.Name y py)) spos.line X.env=pure true)(hs:∀x,foldedSetIterable iter X.env x=pure x:=by intro _;rfl):PS X (.Assign [.Name y py] (.ListComp elt [⟨tg,iter,ifs,0⟩] scope pos) spos) (Zf (Tz wi nl fr g tt te) (jJ i)):=by
 intro pins s σ H D I h;rw[exec_Assign_Name_used _ _ _ _ hsw];refine wpAny_bind (wpAny_standAt (wpAny_bind ?_));show wpAny _ X.A (do let _ <- comprehension (.ListComp elt [⟨tg,iter,ifs,0⟩] scope pos) scope X.env _ (newList []) false (eval iter X.env) (some (assign (.Name y py) X.env))) _ _ s;refine wpAny_bind (wpAny_mono (wpAny_comprehension_free (use:=some (assign (.Name y py) X.env)) (Q:=λ_ s'=>SP X pins D .next s') rfl hs ck.clos ck.kind ck.names
  (Es (RR:=λacc C=>compPost (model X.prog X.w) X.A X.xe (some (assign (.Name y py) X.env)) (λ_ s'=>SP X pins D .next s') acc C) hc ck hi hg ht he I h λDd C s' hh=>?_)) (λ_ s' hq=>wpAny_pure (wpAny_pure hq)) λ_ _ e=>e)
 obtain⟨H',⟨m,hm⟩,hI,hF,q⟩:=hh;show wpAny _ X.A (assign (.Name y py) X.env (.ref Dd)) _ _ _;refine wpAny_assign_Name (zJ hI hN hiy (.inl hy) (v:=.ref Dd) rfl (λs2 I2 hsb=>?_) (.inr hy));obtain⟨a,sb,ha⟩:=hsb;have hCa:C≠a:=by
  rcases ha with z | z
  .rw[z];exact hF.2.1
  .exact Ne.symm (hF.2.2.2.2.1 y a z)
 refine⟨m,hm.sameBut sb hCa,λh' hs'=>⟨_,H',I2.off hF hs',q⟩⟩
end
end L2
namespace Mq
abbrev Q2:=Int × Int
def gc (a b:Int):Int:=(Int.gcd a b:Nat)
theorem Kl (a b:Int):gc b (Int.fmod a b)=gc a b:=by
 unfold gc;rw[Int.fmod_def,Int.gcd_comm a b,Int.sub_eq_add_neg,<- Int.mul_neg,Int.gcd_add_mul_left_right]
theorem yN (h:b≠0):(Int.fmod a b).natAbs < b.natAbs:=by
 rcases (by lia:0 < b\/b < 0) with h1 | h1
 .have:=Int.fmod_nonneg_of_pos a h1;have:=Int.fmod_lt_of_pos a h1;lia
 .have h2:0 < -b:=by lia
  have e:Int.fmod a b=- Int.fmod (-a) (-b):=by
   rw[Int.neg_fmod_neg];lia
  have:=Int.fmod_nonneg_of_pos (-a) h2;have:=Int.fmod_lt_of_pos (-a) h2;lia
theorem Jp (a:Int):gc a 0=if a < 0 then -a else a:=by
 unfold gc;rw[Int.gcd_zero];split<;>lia
theorem qj1 (a b:Int):gc (if a < 0 then -a else a) (if b < 0 then -b else b)=gc a b:=by
 unfold gc;split<;>split<;>simp
theorem xV (h:b≠0):0 < gc a b:=by
 have:=Int.gcd_pos_of_ne_zero_right a h;unfold gc;lia
structure Low (p:Q2):Prop where
 pos:1<=p.2
 one:gc p.1 p.2=1
def dvr (t b:Int):Int:=if b < 0 then -gc t b else gc t b
def red (t b:Int):Q2:=(Int.fdiv t (dvr t b),Int.fdiv b (dvr t b))
theorem rH (h:b≠0):dvr t b≠0:=by
 have:=xV (a:=t) h;unfold dvr;split<;>lia
theorem gD (hg:g≠0)(h:a=g*k):Int.fdiv a g=k:=by
 rw[h,Int.mul_fdiv_cancel_left _ hg]
theorem Xn (t b:Int):dvr t b ∣ t/\dvr t b ∣ b:=by
 have h1:gc t b ∣ t:=Int.gcd_dvd_left t b;have h2:gc t b ∣ b:=Int.gcd_dvd_right t b;unfold dvr;split
 .exact⟨Int.neg_dvd.mpr h1,Int.neg_dvd.mpr h2⟩
 .exact⟨h1,h2⟩
theorem tG (h:b≠0):t=dvr t b*(red t b).1/\b=dvr t b*(red t b).2:=by
 obtain⟨⟨x,hx⟩,⟨y,hy⟩⟩:=Xn t b;have hg:=rH (t:=t) h;have e1:(red t b).1=x:=gD hg hx;have e2:(red t b).2=y:=gD hg hy;rw[e1,e2];exact⟨hx,hy⟩
theorem gX (h:b≠0):Low (red t b):=by
 obtain⟨h1,h2⟩:=tG (t:=t) h;have hg:=rH (t:=t) h;have hp:=xV (a:=t) h;have nd:(dvr t b).natAbs=(gc t b).natAbs:=by unfold dvr;split<;>simp
 have e:Int.gcd t b=(dvr t b).natAbs*Int.gcd (red t b).1 (red t b).2:=by
  rw[<- Int.gcd_mul_left,<- h1,<- h2]
 have e2:(gc t b).natAbs=Int.gcd t b:=by unfold gc;simp
 rw[nd,e2] at e;have hp':0 < Int.gcd t b:=by unfold gc at hp;lia
 have one:Int.gcd (red t b).1 (red t b).2=1:=by
  have:Int.gcd t b*Int.gcd (red t b).1 (red t b).2=Int.gcd t b*1:=by lia
  exact Nat.eq_of_mul_eq_mul_left hp' this
 refine⟨?_,by unfold gc;rw[one];rfl⟩;have sgn:0 < (red t b).2:=by
  by_cases hb:b < 0
  .have hd:dvr t b < 0:=by unfold dvr;rw[if_pos hb];lia
   have hq:¬(red t b).2<=0:=λq=>by
    have:=Int.mul_nonneg_of_nonpos_of_nonpos (Int.le_of_lt hd) q;lia
   lia
  .have hd:0 < dvr t b:=by unfold dvr;rw[if_neg hb];lia
   have hq:¬(red t b).2<=0:=λq=>by
    have:=Int.mul_nonpos_of_nonneg_of_nonpos (Int.le_of_lt hd) q;lia
   lia
 lia
theorem yO (h:b≠0):(red t b).1*b=t*(red t b).2:=by
 obtain⟨h1,h2⟩:=tG (t:=t) h;generalize (red t b).1=x at *
 generalize (red t b).2=y at *
 generalize dvr t b=g at *
 subst h1 h2;grind
theorem iY {a g k:Int}(hg:g≠0)(h:a=g*k):k.natAbs<=a.natAbs:=by
 rw[h,Int.natAbs_mul];exact Nat.le_mul_of_pos_left _ ()
theorem mX (h:b≠0):(red t b).1.natAbs<=t.natAbs/\(red t b).2.natAbs<=b.natAbs:=by
 obtain⟨h1,h2⟩:=tG (t:=t) h;exact⟨iY (rH h) h1,iY (rH h) h2⟩
theorem Fu (h:b≠0):(dvr t b).natAbs<=b.natAbs:=by
 have e:(dvr t b).natAbs=Int.gcd t b:=by unfold dvr gc;split<;>simp
 rw[e];exact Int.gcd_le_natAbs_right t h
theorem Pw (hp:Low p)(hq:Low q)(h:p.1*q.2=q.1*p.2):p=q:=by
 have gp:Int.gcd p.2 p.1=1:=by have:=hp.one;rw[Int.gcd_comm];unfold gc at this;lia
 have gq:Int.gcd q.2 q.1=1:=by have:=hq.one;rw[Int.gcd_comm];unfold gc at this;lia
 have d1:p.2 ∣ q.2:=by
  have:p.2 ∣ p.1*q.2:=⟨q.1,by rw[h,Int.mul_comm]⟩
  have:=Int.dvd_gcd_mul_iff_dvd_mul.mpr this;rw[gp] at this;simpa using this
 have d2:q.2 ∣ p.2:=by
  have:q.2 ∣ q.1*p.2:=⟨p.1,by rw[<- h,Int.mul_comm]⟩
  have:=Int.dvd_gcd_mul_iff_dvd_mul.mpr this;rw[gq] at this;simpa using this
 have l1:=Int.le_of_dvd (by have:=hq.pos;lia) d1;have l2:=Int.le_of_dvd (by have:=hp.pos;lia) d2;have e2:p.2=q.2:=by lia
 have e1:p.1=q.1:=by
  rw[e2] at h;exact Int.eq_of_mul_eq_mul_right (by have:=hq.pos;lia) h
 exact Prod.ext e1 e2
def kT (p q:Q2):Q2:=red (p.1*q.2+q.1*p.2) (p.2*q.2)
def minus (p q:Q2):Q2:=red (p.1*q.2 - q.1*p.2) (p.2*q.2)
def jB (p q:Q2):Q2:=red (p.1*q.1) (p.2*q.2)
def lH (p q:Q2):Q2:=red (p.1*q.2) (p.2*q.1)
theorem gZ {a b:Int}(ha:1<=a)(hb:1<=b):a*b≠0:=by
 have:=Int.mul_pos (show 0 < a by lia) (show 0 < b by lia);lia
theorem rB (hp:1<=p.2)(hq:1<=q.2):Low (kT p q):=gX (gZ hp hq)
def B (n:Nat)(i:Int):Prop:=i.natAbs < 2 ^ n
structure Bd (n:Nat) (p:Q2):Prop where
 a:B n p.1
 b:B n p.2
theorem B.mono (h:B n i)(l:n<=m):B m i:=Nat.lt_of_lt_of_le h (Nat.pow_le_pow_right ∅ l)
theorem B.mul (h:B n i)(q:B m j):B (n+m) (i*j):=by
 unfold B at *
 rw[Int.natAbs_mul,Nat.pow_add];exact Nat.mul_lt_mul'' h q
theorem B.add (h:B n i)(q:B n j):B (n+1) (i+j):=by
 unfold B at *
 have:=Int.natAbs_add_le i j;rw[Nat.pow_succ];lia
theorem B.neg (h:B n i):B n (-i):=by unfold B at *;lia
theorem B.sub (h:B n i)(q:B n j):B (n+1) (i - j):=by
 rw[Int.sub_eq_add_neg];exact h.add q.neg
theorem B.le (h:B n i)(l:j.natAbs<=i.natAbs):B n j:=Nat.lt_of_le_of_lt l h
theorem Bd.mono (h:Bd n p)(l:n<=m):Bd m p:=⟨h.a.mono l,h.b.mono l⟩
theorem Bm (h:Bd n p)(g:Bd m q)(hp:1<=p.2)(hq:1<=q.2):Bd (n+m+1) (kT p q):=by
 have k:=mX (t:=p.1*q.2+q.1*p.2) (gZ hp hq);have a2:B (n+m) (q.1*p.2):=by rw[Nat.add_comm];exact g.a.mul h.b
 exact⟨((h.a.mul g.b).add a2).le k.1,((h.b.mul g.b).mono (Nat.le_succ _)).le k.2⟩
def Pos (l:List Q2):Prop:=∀f∈l,1<=f.2
end Mq
open Mq (Bd Bm Fu Jp Kl Low Q2 dvr gD gX gZ gc jB kT lH mX rB rH red yN)
namespace L2
open PySem PySem.Spec PyProof.Rows
structure aU (K:Frag) (x qual:Str) (st:Stmt) (dV:Value) (f:Addr) (fd:FuncData):Prop where
 ex:∃(oc:Value) (od:Option Addr) (kV doc pm:Value) (an:Option Addr) (cdv ct:Value) (osl:Array (Option Value)),
  fd=W.fnOf x qual (eX st) (cV st) (aI st) dV kV doc pm an cdv ct/\K.lookup f=some ⟨oc,od,.func fd,osl⟩/\W.codeIn K cdv qual=true
 kp:W.keepIn K (.ref f)=true
section
variable {P:Program} {w:World} {K:Frag} {mg:Str->Option Value} {base:Heap} {CX:CXT}
theorem aU.okX {st:Stmt}(F:aU K x qual st dV f fd)(S:aR N ps (aI st))(len:∀vs H Q E,sp vs H Q E->vs.length=ps.length)(hbody:∀(cdv:Value) (A:Around) (outer:List Env) (s:Shared) (H:Hp) (vs:List V) (Q:VK) (E:XK),gQ k (A.deeper (envOfC qual (aI st) s.heap.objs.size f cdv))->sp vs H Q E->
   ∃t,PSs (yC CX P w K mg base N qual (aI st) f cdv A outer s H E) (cV st) t/\t { nx:=λ_ H'=>Q .non H',rt:=Q } (start N vs) H):aL P w K mg base CX (k+1) f fd ps sp:=by
 obtain⟨oc,od,kV,doc,pm,an,cdv,ct,osl,rfl,lk,hcd⟩:=F.ex;exact qq5 lk hcd S len λA outer s H vs Q E hr hsp=>hbody cdv A outer s H vs Q E hr hsp
theorem aU.ok {st:Stmt}(F:aU K x qual st dV f fd)(S:aR N ps (aI st))(len:∀vs H Q E,sp vs H Q E->vs.length=ps.length)(hbody:∀(cdv:Value) (A:Around) (outer:List Env) (s:Shared) (H:Hp) (vs:List V) (Q:VK) (E:XK),gQ k (A.deeper (envOfC qual (aI st) s.heap.objs.size f cdv))->sp vs H Q E->
   ∃t,PSs (yC CX P w K mg base N qual (aI st) f cdv A outer s H E).nox (cV st) t/\t { nx:=λ_ H'=>Q .non H',rt:=Q } (start N vs) H):aL P w K mg base CX (k+1) f fd ps sp:=
 F.okX S len λcdv A outer s H vs Q E hr hsp=>by
  obtain⟨t,h,q⟩:=hbody cdv A outer s H vs Q E hr hsp;exact⟨t,h.nox,q⟩
theorem aU.ok9 {st:Stmt}(F:aU K x qual st dV f fd)(S:aR N ps (aI st))(hbody:∀(cdv:Value) (A:Around) (outer:List Env) (s:Shared) (H:Hp) (vs:List V) (Q:VK) (E:XK),gQ k (A.deeper (envOfC qual (aI st) s.heap.objs.size f cdv))->sp vs H Q E->
   ∃t,PSs (yC CX P w K mg base N qual (aI st) f cdv A outer s H E).nox (cV st) t/\t { nx:=λ_ H'=>Q .non H',rt:=Q } (start N vs) H)(len:∀vs H Q E,sp vs H Q E->vs.length=ps.length:=by intro _ _ _ _ h;first|(cases h;subst_vars;rfl)|(repeat (first | (obtain⟨rfl,_⟩:=h;rfl) | obtain⟨_,h⟩:=h))):aL P w K mg base CX (k+1) f fd ps sp:=F.ok S len hbody
theorem aU.binds {st:Stmt}(F:aU K x qual st dV f fd)(h:∀(kV doc pm:Value) (an:Option Addr) (cdv ct:Value) (us:List Value),us.length=ps.length->bindArgs (W.fnOf x qual (eX st) (cV st) (aI st) dV kV doc pm an cdv ct) ⟨us,[]⟩=pure (ps.zip us)):aM K fd ps []:=by
 obtain⟨oc,od,kV,doc,pm,an,cdv,ct,osl,rfl,lk,hcd⟩:=F.ex;exact .all (h kV doc pm an cdv ct)
theorem uG {st:Stmt}{kV doc pm cdv ct:Value}(l:K.lookup f=some ⟨oc,od,.func (W.fnOf x qual (eX st) (cV st) (aI st) dV kV doc pm an cdv ct),osl⟩)(c:W.codeIn K cdv qual=true)(k:kI9 K f):aU K x qual st dV f (W.fnOf x qual (eX st) (cV st) (aI st) dV kV doc pm an cdv ct):=⟨⟨oc,od,kV,doc,pm,an,cdv,ct,osl,rfl,l,c⟩,k⟩
end
abbrev fT (p:Q2):HO:=.tup [.int p.1,.int p.2]
def Fq (K:Frag)(H:Hp)(a:Addr)(p:Q2):Prop:=SqT K H a [.int p.1,.int p.2]
theorem aV.seqT {K:Frag}(e:aV H H')(h:SqT K H a xs):SqT K H' a xs:=by
 rcases h with (h | ⟨o,h⟩) | h
 .exact .inl (.inl (e _ _ h))
 .exact .inl (.inr ⟨o,e _ _ h⟩)
 .exact .inr h
theorem aF (h:H p=none)(o:HO):aV H (upd H p o):=λb u q=>by rw[aX (aQ q h)];exact q
theorem aV.fq {K:Frag}(e:aV H H')(h:Fq K H a p):Fq K H' a p:=e.seqT h
theorem Fq.of {K:Frag}(h:H a=some (fT p)):Fq K H a p:=SqT.of h
theorem fB {K:Frag}(hv:σ[i]?=some (some (.ref a)))(h:Fq K H a p)(q:Q (.int p.1) H):tOp (Tx K) (Ud i) (tC (.int 0)) σ H Q:=
 ⟨_,hv,a,_,_,_,rfl,rfl,h,rfl,q⟩
theorem cX {K:Frag}(hv:σ[i]?=some (some (.ref a)))(h:Fq K H a p)(q:Q (.int p.2) H):tOp (Tx K) (Ud i) (tC (.int 1)) σ H Q:=
 ⟨_,hv,a,_,_,_,rfl,rfl,h,rfl,q⟩
theorem cU (h1:Mq.B n i)(h2:Mq.B m j)(h3:n<=1048576)(h4:m<=1048576)(q:Q (.int (i*j)) H):rI Vv (λi j=>.int (i*j)) (.int i) (.int j) H Q:=
 ⟨_,_,rfl,rfl,⟨n,m,h1,h2,h3,h4⟩,q⟩
theorem gE (h1:j≠0)(h2:Mq.B n j)(h3:n<=9000)(q:Q (.int (i.fdiv j)) H):rI Kc (λi j=>.int (i.fdiv j)) (.int i) (.int j) H Q:=
 ⟨_,_,rfl,rfl,⟨h1,n,h2,h3⟩,q⟩
structure Bl (mg:Str->Option Value):Prop where
 isi:mg "isinstance"=none
 int:mg "int"=none
 bool:mg "bool"=none
 abs:mg "abs"=none
def jI (t:Value):Prop:=t=.type "bool"\/t=.type "str"\/t=.type "NoneType"\/t=.type "tuple"\/t=.type "list"
inductive nU (K:Frag) (vs:List V) (H:Hp) (Q:VK) (E:XK):Prop where
 |mk (x):vs=[x]->((∃i,x=.int i/\Q (.bl true) H)\/(∃t,kF K H x t/\jI t/\Q (.bl false) H))->nU K vs H Q E
inductive Qz (vs:List V) (H:Hp) (Q:VK) (E:XK):Prop where
 |mk (a b:Int):vs=[.int a,.int b]->Q (.int (gc a b)) H->Qz vs H Q E
def pI (H:Hp)(Q:VK)(p:Q2):Prop:=∀a H',aV H H'->H' a=some (fT p)->Q (.ref a) H'
inductive hG (vs:List V) (H:Hp) (Q:VK) (E:XK):Prop where
 |mk (t b:Int) (n:Nat):vs=[.int t,.int b]->b≠0->Mq.B n b->n<=9000->pI H Q (red t b)->hG vs H Q E
inductive iI (K:Frag) (f:Q2->Q2->Q2) (vs:List V) (H:Hp) (Q:VK) (E:XK):Prop where
 |mk (a b:Addr) (p q:Q2) (n m:Nat):vs=[.ref a,.ref b]->Fq K H a p->Fq K H b q->1<=p.2->1<=q.2->Bd n p->Bd m q->n+m+1<=9000->pI H Q (f p q)->iI K f vs H Q E
inductive Fqs (K:Frag) (H:Hp):List V->List Q2->Prop where
 |nil:Fqs K H [] []
 |cons {a:Addr} {p:Q2} {xs:List V} {ps:List Q2} (h:Fq K H a p) (q:Fqs K H xs ps):Fqs K H (.ref a :: xs) (p :: ps)
theorem Fqs.same {K:Frag}(e:aV H H'):∀{xs:List V} {ps:List Q2},Fqs K H xs ps->Fqs K H' xs ps
 |_,_,.nil=>.nil
 |_,_,.cons h q=>.cons (e.fq h) (Fqs.same e q)
theorem Fqs.length {K:Frag}:∀{xs:List V} {ps:List Q2},Fqs K H xs ps->xs.length=ps.length
 |_,_,.nil=>rfl
 |_,_,.cons _ q=>by simp[Fqs.length q]
theorem Fqs.get {K:Frag}:∀{xs:List V} {ps:List Q2} {i:Nat} {x:V},Fqs K H xs ps->xs[i]?=some x->∃a p,x=.ref a/\ps[i]?=some p/\Fq K H a p
 |_,_,_,_,.nil,h=>by simp at h
 |_,_,0,_,.cons h _,e=>by simp at e;exact⟨_,_,e.symm,rfl,h⟩
 |_,_,i+1,_,.cons _ q,e=>by simpa using Fqs.get q (by simpa using e)
theorem Fqs.app {K:Frag}:∀{xs ys:List V} {ps qs:List Q2},Fqs K H xs ps->Fqs K H ys qs->Fqs K H (xs++ys) (ps++qs)
 |_,_,_,_,.nil,r=>r
 |_,_,_,_,.cons h q,r=>.cons h (Fqs.app q r)
theorem Fq.upd {K:Frag}(h:Fq K H a p)(hl:H l=some (.lst xs)):Fq K (L2.upd H l o) a p:=by
 rcases h with (h | ⟨u,h⟩) | h
 .exact .inl (.inl (by rw[aX (cZ h hl (λz=>by cases z))];exact h))
 .exact .inl (.inr ⟨u,by rw[aX (cZ h hl (λz=>by cases z))];exact h⟩)
 .exact .inr h
theorem Fqs.upd {K:Frag}(hl:H l=some (.lst ys)):∀{xs:List V} {ps:List Q2},Fqs K H xs ps->Fqs K (L2.upd H l o) xs ps
 |_,_,.nil=>.nil
 |_,_,.cons h q=>.cons (h.upd hl) (Fqs.upd hl q)
theorem aV.change (s:aV H H')(h:H l=none):aV H (L2.upd H' l o):=λb u q=>by
 rw[aX (aQ q h)];exact s b u q
def qd (p:Q2):PyData:=.tuple [.int p.1,.int p.2]
theorem Fq.dat {K:Frag}(h:Fq K H a p):pK K H (.ref a) (qd p):=.tup h (.cons (.int _) (.cons (.int _) .nil))
theorem Fqs.dat {K:Frag}:∀{xs:List V} {ps:List Q2},Fqs K H xs ps->rF K H xs (ps.map qd)
 |_,_,.nil=>.nil
 |_,_,.cons h q=>.cons h.dat (Fqs.dat q)
theorem Hi (p:Q2):(qd p).canLay0=true:=rfl
theorem qY:∀ps:List Q2,PyData.canLayAll0 (ps.map qd)=true
 | []=>rfl
 |p :: r=>by
  show ((qd p).canLay0 && PyData.canLayAll0 (r.map qd))=true;rw[Hi,qY r];rfl
theorem Fd (p:Q2):(qd p).depth<=1:=by simp[qd,PyData.depth,PyData.depthAll]
theorem sS:∀ps:List Q2,PyData.depthAll (ps.map qd)<=1
 | []=>by simp[PyData.depthAll]
 |p :: r=>by
  have a:=Fd p;have b:=sS r;simp only[map_cons,PyData.depthAll];lia
theorem Ih (ps:List Q2):(PyData.list (ps.map qd)).depth<=2:=by
 have:=sS ps;simp only[PyData.depth];lia
theorem qi6 (p q:Q2):PyData.eqv (qd p) (qd q)=decide (p=q):=by
 unfold qd;simp only[PyData.eqv,PyData.eqvAll]
 by_cases h:p=q
 .subst h;simp
 .rw[decide_eq_false h]
  by_cases h1:p.1=q.1
  .have h2:p.2≠q.2:=λz=>h (Prod.ext h1 z);simp[h2]
  .simp[h1]
theorem qg6 {K:Frag}(h1:Fq K H a p)(h2:Fq K H b q)(z:Q (.bl (if neg then !decide (p=q) else decide (p=q))) H):vS K neg (.ref a) (.ref b) H Q:=by
 refine⟨_,_,h1.dat,h2.dat,Hi p,Hi q,?_,?_⟩
 .have:=Fd p;lia
 .rw[qi6];exact z
theorem zZ {K:Frag}(h1:SqL K H a xs)(h2:SqL K H b ys)(f1:Fqs K H xs ps)(f2:Fqs K H ys ps)(z:Q (.bl (!neg)) H):vS K neg (.ref a) (.ref b) H Q:=by
 refine⟨_,_,.lst h1 f1.dat,.lst h2 f2.dat,?_,?_,?_,?_⟩
 .exact qY ps
 .exact qY ps
 .have:=Ih ps;lia
 .have e:PyData.eqv (.list (ps.map qd)) (.list (ps.map qd))=true:=PySem.SeqAt.eqv_refl _ (qY ps);rw[e]
  cases neg<;>exact z
abbrev Ky (nl:Nat)(fr:List Nat)(g:TG)(tt:TT)(te:TE)(σ:St)(D:Addr)(Pv:Nat->List V->Hp->Prop)(i:Nat)(ys:List V)(x:V)(H:Hp):Prop:=
 g x (σC nl fr σ) H λσ2 H4=>σ2.length=(σC nl fr σ).length/\(∀(i:Nat) v,(σC nl fr σ)[i]?=some (some v)->σ2[i]?=some (some v))/\
  tt σ2 H4 λb H5=>if b=true then te σ2 H5 λy H6=>H6 D=some (.lst ys)/\ys.length < sizeLine/\Pv (i+1) (ys++[y]) (upd H6 D (.lst (ys++[y]))) else Pv (i+1) ys H5
section
variable {nl:Nat} {fr:List Nat} {g:TG} {tt:TT} {te:TE} {σ:St} {D:Addr} {H1:Hp} {Q:VK}
theorem xO {lo:Int}(Pv:Nat->List V->Hp->Prop)(h0:Pv 0 [] (upd H1 D (.lst [])))(hl:∀i ys H,Pv i ys H->H D=some (.lst ys))(hs:∀i ys H,i < n->Pv i ys H->∀(C:Nat->List V->Hp->Prop),(∀ys H,Pv (i+1) ys H->C (i+1) ys H)->Ky nl fr g tt te σ D C i ys (.int (lo+i)) H)(hd:∀ys H,Pv n ys H->Q (.ref D) H):
  Em (Itr lo n) nl fr g tt te σ D H1 Q:=by
 refine⟨λi m ys H=>m=n - i/\i<=n/\Pv i ys H,⟨n,⋯,Nat.zero_le _,h0⟩,?_⟩;rintro i m ys H ⟨rfl,hi,p⟩;refine⟨hl i ys H p,?_⟩
 by_cases hlt:i < n
 .refine .inr ⟨hlt,λx H' y=>?_⟩;obtain⟨e,y⟩:=y;subst e y;exact hs i ys _ hlt p (λj zs Hz=>∃m',m' < n - i/\m'=n - j/\j<=n/\Pv j zs Hz) λzs Hz z=>⟨n - (i+1),(),rfl,hlt,z⟩
 .have e:i=n:=by lia
  subst e;exact .inl ⟨Nat.le_refl _,hd ys H p⟩
theorem fC {K:Frag}(Pv:Nat->List V->Hp->Prop)(h0:Pv 0 [] (upd H1 D (.lst [])))(hl:∀i ys H,Pv i ys H->H D=some (.lst ys))(hx:∀i ys H,i<=xs.length->Pv i ys H->SqL K H a xs)(hs:∀i ys x H,xs[i]?=some x->Pv i ys H->∀(C:Nat->List V->Hp->Prop),(∀ys H,Pv (i+1) ys H->C (i+1) ys H)->Ky nl fr g tt te σ D C i ys x H)(hd:∀ys H,Pv xs.length ys H->Q (.ref D) H):
  Em (Itl K a) nl fr g tt te σ D H1 Q:=by
 refine⟨λi m ys H=>m=xs.length - i/\i<=xs.length/\Pv i ys H,⟨xs.length,⋯,Nat.zero_le _,h0⟩,?_⟩;rintro i m ys H ⟨rfl,hi,p⟩;refine⟨hl i ys H p,?_⟩;have q:=hx i ys H hi p
 by_cases hlt:i < xs.length
 .refine .inr ⟨⟨xs,xs[i],q,by simp[hlt]⟩,λx H' y=>?_⟩;obtain⟨e,y⟩:=y;subst e;exact hs i ys x _ (y xs q) p (λj zs Hz=>∃m',m' < xs.length - i/\m'=xs.length - j/\j<=xs.length/\Pv j zs Hz) λzs Hz z=>⟨xs.length - (i+1),(),rfl,hlt,z⟩
 .have e:i=xs.length:=by lia
  subst e;exact .inl ⟨⟨xs,q,Nat.le_refl _⟩,hd ys H p⟩
end
theorem fR:((σC 1 fr σ).set 0 (some x)).length=(σC 1 fr σ).length/\∀(i:Nat) v,(σC 1 fr σ)[i]?=some (some v)->((σC 1 fr σ).set 0 (some x))[i]?=some (some v):=by
 refine⟨⋯,λi v h=>?_⟩
 match i with
 |0=>unfold σC at h;simp at h
 |k+1=>rw[getElem?_set_ne ()];exact h
theorem fI {names:List (Str × NameKind)}{cl:List (Str × Addr)}(h:names.all (λy=>!(y.2 == .cell || y.2 == .free) || (cl.lookup y.1).isSome)=true)(x:Str)(hx:names.lookup x=some .cell\/names.lookup x=some .free):∃c,cl.lookup x=some c:=by
 have key:∀k,(k=NameKind.cell\/k=NameKind.free)->names.lookup x=some k->∃c,cl.lookup x=some c:=λk hk e=>by
  have m:=all_eq_true.mp h _ (PySem.mem_of_lookup e);have:(k == NameKind.cell || k == NameKind.free)=true:=by rcases hk with rfl | rfl<;>rfl
  simp only[this,Bool.not_true,Bool.false_or] at m;exact Option.isSome_iff_exists.mp m
 rcases hx with e | e
 .exact key _ (.inl rfl) e
 .exact key _ (.inr rfl) e
section
variable {X:Cx} {pins:List (Addr × Obj)} {σ:St} {H:Hp} {s:Shared} {h':Heap}
theorem Inv.turnedL {fp:List Addr}(I:Inv X pins σ H s)(k:∀b o,b∉fp->s.heap.get? b=some o->h'.get? b=some o)(hf:∀b∈fp,oQ X pins H b):Inv X pins σ H { s with heap:=h',toks:=t' }:=by
 have nit:∀b u,H b=some u->b∉fp:=λb u e z=>by rw[(hf b z).1] at e;cases e
 have nL:X.env.locals∉fp:=λz=>(hf _ z).2.1 rfl;refine I.step (g':=s.gens) (d':=s.drawn) (ch:=fp) (λb hb=>?_) (λb o _ _ hc e _=>k b o hc e) (λb o _ _ hc e _=>⟨o.slots,k b o hc e⟩) (λ_ _ _ _ n=>n)
  (λb o hc e=>⟨o,k b o hc e⟩) (λ_ _ e=>e) (λ_ _ _ e=>e) (λb ps e=>⟨#[],by rw[e];simp⟩) (λm hm=>?_) (λb u e=>?_) I.bare
 .obtain⟨f0,f1,f2,f3,f4,f5⟩:=hf b hb;exact⟨f3,f1,f4,f5⟩
 .obtain⟨o,es,ep,ho,r⟩:=hm;exact⟨o,es,ep,k _ o nL ho,r⟩
 .refine(I.hok b u e).stay (λc v hc q=>k c v ?_ q) (λ_ q=>q) λ_ _ q=>q;rcases hc with z | z
  .rw[z];exact nit b u e
  .exact nit c _ z
end
def Itz (K : Frag)(a b : Addr) : It :=
  ⟨λi H => ∃ xs ys x y, SqL K H a xs /\ SqL K H b ys /\ xs[i]? = some x /\ ys[i]? = some y,
   λi H v H' => ∃ T x y, v = .ref T /\ H T = none /\ H' = upd H T (.tup [x, y]) /\ ∀ xs ys, SqL K H a xs -> SqL K H b ys -> xs[i]? = some x /\ ys[i]? = some y,
   λi H => ∃ xs ys, SqL K H a xs /\ SqL K H b ys /\ (xs.length <= i \/ ys.length <= i)⟩
def qk7 (z TI TO i1 i2 l1 l2:Addr)(i:Nat)(h:Heap):Prop:=
 ZipApart z TI TO i1 i2 l1 l2/\IsZip h z TI TO .none/\IsPair h TI (.ref i1) (.ref i2)/\(∃a b,IsPair h TO a b)/\h.IsListIter i1 l1 i/\h.IsListIter i2 l2 i
theorem Pe {K:Frag}(z TI TO i1 i2 l1 l2:Addr):
  Nm P w K (.Tuple elts kk tpos) (Itz K l1 l2) [z,TI,TO,i1,i2] z (qk7 z TI TO i1 i2 l1 l2) where
 mem:=by simp
 obj:=λi h st b hb=>by
  obtain⟨ap,hz,hi,⟨a,c,ho⟩,⟨o1,e1,c1,d1⟩,⟨o2,e2,c2,d2⟩⟩:=st;simp only[mem_cons,not_mem_nil,or_false] at hb;rcases hb with rfl | rfl | rfl | rfl | rfl
  .exact⟨_,hz,λv q=>by cases q⟩
  .exact⟨_,hi,λv q=>by cases q⟩
  .exact⟨_,ho,λv q=>by cases q⟩
  .exact⟨o1,e1,λv q=>by rw[d1] at q;cases q⟩
  .exact⟨o2,e2,λv q=>by rw[d2] at q;cases q⟩
 keep:=λi h h' st k=>by
  obtain⟨ap,hz,hi,⟨a,c,ho⟩,⟨o1,e1,c1,d1⟩,⟨o2,e2,c2,d2⟩⟩:=st;exact⟨ap,k _ ⋯ _ hz,k _ ⋯ _ hi,⟨a,c,k _ ⋯ _ ho⟩,⟨o1,k _ ⋯ _ e1,c1,d1⟩,⟨o2,k _ ⋯ _ e2,c2,d2⟩⟩
 item:=by
  intro X hP hw hK hc i pins s σ H E I hf st hg;subst hP hw hK;obtain⟨ap,hz,hi,⟨a,c,ho⟩,t1,t2⟩:=st;obtain⟨xs,ys,x,y,hx,hy,ex,ey⟩:=hg;obtain⟨its1,rv1,p1,z1⟩:=I.list hx;obtain⟨its2,rv2,p2,z2⟩:=I.list hy;obtain⟨u1,hu1,ru1⟩:=rv1.get ex;obtain⟨u2,hu2,ru2⟩:=rv2.get ey;refine wpAny_pyNext_zip_item ap hz hi ho t1 t2 p1.isList p2.isList (x:=u1) (y:=u2) (by simpa using hu1) (by simpa using hu2) λh' g1 g2 g3 g4 g5 g6 kk'=>?_;have hn:H s.heap.objs.size=none:=I.hok.fresh (Nat.le_refl _);have lt:∀b∈[z,TI,TO,i1,i2],b < s.heap.objs.size:=λb hb=>by
   simp only[mem_cons,not_mem_nil,or_false] at hb;obtain⟨o1,e1,_⟩:=t1;obtain⟨o2,e2,_⟩:=t2;rcases hb with rfl | rfl | rfl | rfl | rfl
   .exact Heap.lt_size hz
   .exact Heap.lt_size hi
   .exact Heap.lt_size ho
   .exact Heap.lt_size e1
   .exact Heap.lt_size e2
  have I1:Inv X pins σ (upd H s.heap.objs.size (.tup [x,y])) { s with heap:=s.heap.push { cls:=.type "tuple",data:=.seq #[u1,u2] } }:=
   I.laid (t':=s.toks) (λb o e=>Heap.get?_push_of_some _ e) (Nat.le_refl _) (show dP X.prog X.w _ _ _ (.tup [x,y]) from ⟨zl9 2,[u1,u2],.cons ru1 (.cons ru2 .nil),IsTup.new _ _⟩)
  have hf1:∀b∈[z,TI,TO,i1,i2],oQ X pins (upd H s.heap.objs.size (.tup [x,y])) b:=λb hb=>⟨by rw[aX (Nat.ne_of_lt (lt b hb))];exact(hf b hb).1,(hf b hb).2⟩
  have k1:∀b o,b∉[z,TI,TO,i1,i2]->(s.heap.push { cls:=.type "tuple",data:=.seq #[u1,u2] }).get? b=some o->h'.get? b=some o:=λb o nb e=>by
   simp only[mem_cons,not_mem_nil,or_false,not_or] at nb
   by_cases hb:b=s.heap.objs.size
   .subst hb;rw[Heap.get?_push_size _ rfl] at e
    cases e
    exact g5
   .have e0:s.heap.get? b=some o:=by rw[Heap.get?_push_ne _ _ _ hb] at e;exact e
    exact kk' b o nb.1 nb.2.2.1 nb.2.2.2.1 nb.2.2.2.2 e0
  have I2:Inv X pins σ (upd H s.heap.objs.size (.tup [x,y])) { s with heap:=h',toks:=s.toks }:=I1.turnedL (t':=s.toks) k1 hf1;refine⟨_,rfl,wpAny_letOwnedTupleGo_zip (s:={ s with heap:=h' }) g1 λh2 q1 q2=>?_⟩;have kz:∀b o,b≠z->h'.get? b=some o->h2.get? b=some o:=λb o nb e=>(q2.2 b nb).trans e;have I3:Inv X pins σ (upd H s.heap.objs.size (.tup [x,y])) { s with heap:=h2,toks:=s.toks }:=Inv.turnedL (s:={ s with heap:=h',toks:=s.toks }) (t':=s.toks) (fp:=[z]) I2 (λb o nb e=>kz b o (by simpa using nb) e) λb hb=>hf1 b (by simp at hb;simp[hb]);have hTI:h'.get? TI=some { cls:=.type "tuple",data:=.seq #[.ref i1,.ref i2] }:=kk' TI _ ap.TIz ap.TITO ap.TIi1 ap.TIi2 hi;obtain⟨o3,e3,c3,d3⟩:=g3;obtain⟨o4,e4,c4,d4⟩:=g4;refine⟨.ref s.heap.objs.size,_,I3,rfl,⟨_,x,y,rfl,hn,rfl,λxs' ys' h1 h2=>?_⟩,⟨ap,q1,kz _ _ ap.TIz hTI,⟨_,_,kz _ _ ap.TOz g2⟩,⟨o3,kz _ _ ap.i1z e3,c3,d3⟩,⟨o4,kz _ _ ap.i2z e4,c4,d4⟩⟩,λb hb=>(hf1 b hb).1⟩;rw[I.list_inj h1 hx,I.list_inj h2 hy];exact⟨ex,ey⟩
 done:=by
  intro X hP hw hK hc i pins s σ H E I hf st hg;subst hP hw hK;obtain⟨ap,hz,hi,⟨a,c,ho⟩,t1,t2⟩:=st;obtain⟨xs,ys,hx,hy,hor⟩:=hg;obtain⟨its1,rv1,p1,z1⟩:=I.list hx;obtain⟨its2,rv2,p2,z2⟩:=I.list hy;have l1':=rv1.length;have l2':=rv2.length;refine wpAny_pyNext_zip_end (I.ok.hd hc) ap hz hi ho t1 t2 p1.isList p2.isList (by rcases hor with h | h;left;simp;lia;right;simp;lia) λh' kk'=>⟨rfl,?_⟩
  refine I.turnedL (t':=s.toks) (λb o nb e=>?_) hf;simp only[mem_cons,not_mem_nil,or_false,not_or] at nb;exact kk' b o nb.1 nb.2.2.1 nb.2.2.2.1 nb.2.2.2.2 e
 self:=λA i s Q E st h=>by
  obtain⟨ap,hz,hi,⟨a,c,ho⟩,t1,t2⟩:=st;exact wpAny_pyIter_zip hz h
section
variable {X:Cx}
def qt5 (K:Frag)(ta:TA):TI:=λσ H R=>ta σ H λvs H1=>∃a b,vs=[.ref a,.ref b]/\(∃xs,SqL K H1 a xs)/\(∃ys,SqL K H1 b ys)/\R (Itz K a b) H1
theorem Ig (hg:Gl X "zip")(hm:X.mg "zip"=none)(hv:bootBuiltins "zip"=some (.type "zip"))(ha:PA X [e1,e2] ta)(hs:starEach [e1,e2] X.env=(false,eval e1 X.env) :: starEach [e2] X.env:=by rfl)(hpl:(backTo pos (starEach [e2] X.env)).any (·.1)=false:=by rfl):PI X (.Tuple elts kk tpos) (.Call (.Name "zip" p) [e1,e2] [] pos) (qt5 X.K ta):=by
 intro pins s σ H R I h;refine Call_ (jR I hg hm hv (PyProof.Rows.callWith_type1 (thn (ha pos pins s σ H _ I h) λus s1 ⟨vs,H1,I1,r1,q1⟩=>?_) hs hpl));obtain⟨a,b,rfl,⟨xs,hx⟩,⟨ys,hy⟩,q⟩:=q1;obtain⟨u,w',rfl,ra,rb⟩:=Eh r1
 cases (show u=Value.ref a from ra)
 cases (show w'=Value.ref b from rb)
 obtain⟨its1,rv1,p1,z1⟩:=I1.list hx;obtain⟨its2,rv2,p2,z2⟩:=I1.list hy;have la:a < s1.heap.objs.size:=by obtain⟨o,e,_⟩:=p1.isList;exact Heap.lt_size e
 have lb:b < s1.heap.objs.size:=by obtain⟨o,e,_⟩:=p2.isList;exact Heap.lt_size e
 refine call_zip_2 p1.isList p2.isList λh' g1 g2 g3 g4 g5 g6 kk'=>?_;refine wpAny_pyIter_zip g1 ?_;have ne:∀i j:Nat,i≠j->s1.heap.objs.size+i≠s1.heap.objs.size+j:=λi j n e=>n (Nat.add_left_cancel e);have nl:∀(c:Addr) (i:Nat),c < s1.heap.objs.size->c≠s1.heap.objs.size+i:=λc i l e=>absurd (Nat.lt_of_lt_of_le l (Nat.le_add_right _ i)) (by rw[<- e];exact Nat.lt_irrefl _);have n0:∀j:Nat,j≠0->s1.heap.objs.size+j≠s1.heap.objs.size:=λj n e=>n (Nat.add_left_cancel (e.trans (Nat.add_zero _).symm));refine⟨s1.heap.objs.size+4,[s1.heap.objs.size+4,s1.heap.objs.size+2,s1.heap.objs.size+3,s1.heap.objs.size,s1.heap.objs.size+1],_,Itz X.K a b,H1,rfl,I1.kept (t':=s1.toks) kk',Pe _ _ _ _ _ a b,⟨?_,g1,g2,⟨_,_,g3⟩,g4,g5⟩,λc hc=>?_,q⟩
 .exact⟨ne 2 4 ∅,ne 3 4 ∅,(n0 4 ∅).symm,ne 1 4 ∅,ne 2 3 ∅,n0 2 ∅,ne 2 1 ∅,n0 3 ∅,ne 3 1 ∅,(n0 1 ∅).symm,
   nl a 4 la,nl a 3 la,Nat.ne_of_lt la,nl a 1 la,nl b 4 lb,nl b 3 lb,Nat.ne_of_lt lb,nl b 1 lb⟩
 .have hle:s1.heap.objs.size<=c:=by
   simp only[mem_cons,not_mem_nil,or_false] at hc;rcases hc with rfl | rfl | rfl | rfl | rfl<;>first | exact Nat.le_add_right _ _ | exact Nat.le_refl _
  exact I1.fpOk hle (I1.hok.fresh hle)
theorem vU {K:Frag}(Pv:Nat->List V->Hp->Prop)(h0:Pv 0 [] (upd H1 D (.lst [])))(hl:∀i zs H,Pv i zs H->H D=some (.lst zs))(hx:∀i zs H,i<=min xs.length ys.length->Pv i zs H->SqL K H a xs/\SqL K H b ys)(hs:∀i zs x y H T,xs[i]?=some x->ys[i]?=some y->Pv i zs H->H T=none->∀(C:Nat->List V->Hp->Prop),(∀zs H,Pv (i+1) zs H->C (i+1) zs H)->Ky nl fr g tt te σ D C i zs (.ref T) (upd H T (.tup [x,y])))(hd:∀zs H,Pv (min xs.length ys.length) zs H->Q (.ref D) H):
  Em (Itz K a b) nl fr g tt te σ D H1 Q:=by
 refine⟨λi m zs H=>m=min xs.length ys.length - i/\i<=min xs.length ys.length/\Pv i zs H,⟨_,rfl,Nat.zero_le _,h0⟩,?_⟩;rintro i m zs H ⟨rfl,hi,p⟩;refine⟨hl i zs H p,?_⟩;obtain⟨qx,qy⟩:=hx i zs H hi p
 by_cases hlt:i < min xs.length ys.length
 .have hx':i < xs.length:=by lia
  have hy':i < ys.length:=by lia
  refine .inr ⟨⟨xs,ys,xs[i],ys[i],qx,qy,by simp[hx'],by simp[hy']⟩,λv H' z=>?_⟩;obtain⟨T,x,y,rfl,hT,rfl,hh⟩:=z;obtain⟨ex,ey⟩:=hh xs ys qx qy;exact hs i zs x y H T ex ey p hT (λj zs Hz=>∃m',m' < min xs.length ys.length - i/\m'=min xs.length ys.length - j/\j<=min xs.length ys.length/\Pv j zs Hz) λzs Hz z=>⟨min xs.length ys.length - (i+1),(),rfl,hlt,z⟩
 .have e:i=min xs.length ys.length:=by lia
  subst e;exact .inl ⟨⟨xs,ys,qx,qy,()⟩,hd zs H p⟩
inductive Ka (x:V) (vs:List V) (H:Hp) (Q:VK):Prop where
 |mk (l:Addr) (xs:List V) (k:Nat) (i:Int) (y:V):x=.ref l->vs=[.int i,y]->i=(k:Int)->k<=xs.length->H l=some (.lst xs)->xs.length < sizeLine->Q .non (upd H l (.lst (xs.take k++y :: xs.drop k)))->Ka x vs H Q
theorem Lw:MtM X "list.insert" Ka:=by
 intro pins s σ H x vs v us Q I rx rv h;obtain⟨l,xs,k,i,y,rfl,rfl,hik,hk,hH,hz,q⟩:=h
 cases rx
 obtain⟨u1,u2,rfl,⟨t,rfl⟩,ru⟩:=Eh rv;obtain⟨z,its,n,r,hl,e⟩:=I.lstM hH;have hs:sizeLine=16777216:=sizeLine_eq;have hfit:¬(!Builtin.List.listFitsIndex i)=true:=by
  rw[fitsIndex_both () ()];exact Bool.false_ne_true
 have hM:=AutoSeq1.list_insert_list_int_val_1 l its.toArray n i t u2 hfit (by rw[size_toArray];lia);refine call_meets F.slot_list_insert ⟨_,e,rfl⟩ F.entry_list_insert (F.args_list_insert_3 (Value.ref l) (Value.int i t) u2) hM ⟨e,?_⟩;refine⟨.non,_,I.lset (its':=its.take k++u2 :: its.drop k) hH e ?_ ((r.take k).append (.cons ru (r.drop k))) ?_,rfl,q⟩
 .have ek:(if i < 0 then (i+(its.toArray.size:Int)).toNat else min i.toNat its.toArray.size)=k:=by
   rw[if_neg (),size_toArray];lia
  show (its.toArray.extract 0 (if i < 0 then (i+(its.toArray.size:Int)).toNat else min i.toNat its.toArray.size)).push u2++its.toArray.extract (if i < 0 then (i+(its.toArray.size:Int)).toNat else min i.toNat its.toArray.size)=_;rw[ek];apply Array.ext';simp[take_of_length_le]
 .rw[List.length_append,length_cons,length_take,length_drop];lia
end
def Tb (h0:Heap)(H:Hp)(h:Heap)(a:Addr)(v:Value):Prop:=
 v=.none\/∃T oT ts,v=.ref T/\T≠a/\h0.get? T=none/\H T=none/\h.get? T=some oT/\oT.data=.fields ts/\ts[3]?=some .none
structure Fl (h0:Heap) (H:Hp) (h:Heap) (a:Addr) (C:Value) (d:Option Addr):Prop where
 new:h0.get? a=none
 free:H a=none
 at_:∃oe vs v,h.get? a=some oe/\oe.cls=C/\oe.dict=d/\oe.data=.fields vs/\vs[1]?=some v/\Tb h0 H h a v
theorem Fl.older (F:Fl h0 H h a C d)(k:∀b,h0.get? b=none->h1.get? b=none):Fl h1 H h a C d:=by
 obtain⟨n,f,oe,vs,v,e1,e2,e3,e4,e5,t⟩:=F;refine⟨k _ n,f,oe,vs,v,e1,e2,e3,e4,e5,?_⟩;rcases t with t | ⟨T,oT,ts,t1,t2,t3,t4⟩
 .exact .inl t
 .exact .inr ⟨T,oT,ts,t1,t2,k _ t3,t4⟩
theorem vQ (f:Array Value->Array Value)(o:Obj):(o.mapFields f).dict=o.dict:=by
 obtain⟨c,d,dt,sl⟩:=o
 cases dt<;>rfl
section
variable {M:Model} {A:Around} {E:Value->Shared->Prop} {s:Shared}
theorem yW {head:Value}(hfr:A.frames=some (env :: outer))(hl:s.heap.FunFrames base (env :: outer))(hf:env.frame=some L)(he:s.heap.get? e=some oe)(hd:oe.data=.fields vs)(hsz:1 < vs.size)(h:∀h' T oT ts,s.heap.objs.size<=T->(∀b o,b∉frs (env :: outer)->b≠e->s.heap.get? b=some o->h'.get? b=some o)->(∀b o,b∈frs (env :: outer)->s.heap.get? b=some o->∃sl,h'.get? b=some { o with slots:=sl })->
   h'.get? e=some (oe.mapFields (·.setIfInBounds 1 (.ref T)))->h'.get? T=some oT->oT.data=.fields ts->ts[3]?=some .none->T≠e->Q .unit { s with heap:=h' }):
  wpAny M A (do let a <- frameOf env;let pl <- entryPlaceOf L hadNext;let b <- EntryCells.newEntry head a .none (rawInt L) .none pl;setField (.ref e) 1 b) (λ_ s'=>wpAny M A (setFlight (.ref e) none) Q E s') E s:=by
 have hene:e∉frs (env :: outer):=λhm=>by
  obtain⟨_,o,ho,hnf⟩:=hl.mem hm;rw[he] at ho;injection ho with ho;subst ho;exact hnf vs hd
 refine wpAny_bind (wpAny_frameOf_fun hfr hl hf λh₁ hs₁=>?_);refine wpAny_bind (wpAny_entryPlaceOf λpl hpl=>?_);unfold EntryCells.newEntry newFields;refine wpAny_bind (wpAny_newObj_type ?_ (hpl.sizeOk5 _ _ _ _ _));have he₁:h₁.get? e=some oe:=(hs₁.2.1 e hene).trans he;have he₂:=Heap.get?_push_of_some (h:=h₁) { cls:=.type "traceback",dict:=none,data:=.fields ([head,.ref L,.none,rawInt L,.none]++(if pl.isEmpty then replicate 6 Value.none else pl)).toArray } he₁;refine wpAny_setField he₂ hd hsz ?_;have hTe:h₁.objs.size≠e:=Nat.ne_of_gt (Heap.lt_size he₁);have hd₃:=Obj.data_mapFields hd (·.setIfInBounds 1 (Value.ref h₁.objs.size));have he₃:=Heap.get?_update_self (Obj.mapFields (·.setIfInBounds 1 (Value.ref h₁.objs.size))) he₂ (Obj.isFreed_of_fields hd₃);have hT₃:=(Heap.get?_update_other (h₁.push { cls:=.type "traceback",dict:=none,data:=.fields ([head,.ref L,.none,rawInt L,.none]++(if pl.isEmpty then replicate 6 Value.none else pl)).toArray })
  (Obj.mapFields (·.setIfInBounds 1 (Value.ref h₁.objs.size))) (Ne.symm hTe)).trans (Heap.get?_push_size h₁ rfl)
 unfold setFlight;refine wpAny_bind (wpAny_field he₃ hd₃ (x:=.ref h₁.objs.size) (by simp[hsz]) ?_);rw[if_pos (show (Value.ref h₁.objs.size != Value.none)=true from by simp)];have keep:∀b o,b≠e->h₁.get? b=some o->
   (((h₁.push { cls:=.type "traceback",dict:=none,data:=.fields ([head,.ref L,.none,rawInt L,.none]++(if pl.isEmpty then replicate 6 Value.none else pl)).toArray }).update e (Obj.mapFields (·.setIfInBounds 1 (Value.ref h₁.objs.size)))).update h₁.objs.size
    (Obj.mapFields (·.setIfInBounds 3 ((none:Option Addr).elim Value.none λf=>rawInt f)))).get? b=some o:=λb o hbe hb=>by
  have hbT:h₁.objs.size≠b:=Nat.ne_of_gt (Heap.lt_size hb);rw[Heap.get?_update_other _ _ hbT,Heap.get?_update_other _ _ (Ne.symm hbe)];exact Heap.get?_push_of_some _ hb
 refine wpAny_setField hT₃ rfl (by simp only[size_toArray,List.length_append,length_cons,length_nil]<;>lia) (h _ h₁.objs.size _ _ (Nat.le_of_eq hs₁.1.symm) ?_ ?_ ?_
  (Heap.get?_update_self _ hT₃ (Obj.isFreed_of_fields (Obj.data_mapFields rfl _))) (Obj.data_mapFields rfl _) ?_ hTe)
 .exact λb o hb hbe q=>keep b o hbe ((hs₁.2.1 b hb).trans q)
 .intro b o hb q;obtain⟨sl,e1⟩:=hs₁.2.2 b o q;exact⟨sl,keep b _ (λz=>hene (z ▸ hb)) e1⟩
 .rw[Heap.get?_update_other _ _ hTe];exact he₃
 .first | (simp;done) | (rcases hpl with rfl | ⟨_,_,_,_,_,_,_,rfl⟩<;>simp)
theorem Od (hfr:A.frames=some (env :: outer))(hl:s.heap.FunFrames base (env :: outer))(hf:env.frame=some L)(F:Fl h0 H s.heap e C d)(hnew:∀b,s.heap.objs.size<=b->h0.get? b=none/\H b=none)(h:∀(h':Heap) (ch:List Addr),(∀b∈ch,h0.get? b=none/\H b=none/\∃o vs,s.heap.get? b=some o/\o.data=.fields vs)->(∀b o,b∉frs (env :: outer)->b∉ch->s.heap.get? b=some o->h'.get? b=some o)->
   (∀b o,b∈frs (env :: outer)->s.heap.get? b=some o->∃sl,h'.get? b=some { o with slots:=sl })->Fl h0 H h' e C d->Q .unit { s with heap:=h' }):
  wpAny M A (noteFrame (.ref e) env) (λ_ s'=>wpAny M A (setFlight (.ref e) none) Q E s') E s:=by
 obtain⟨n,f,oe,vs,v,e1,e2,e3,e4,e5,t⟩:=F;have hsz:1 < vs.size:=(Array.getElem?_eq_some_iff.mp e5).1;have fin:∀{h':Heap} {T:Addr} {oT:Obj} {ts:Array Value},s.heap.objs.size<=T->h'.get? e=some (oe.mapFields (·.setIfInBounds 1 (.ref T)))->h'.get? T=some oT->oT.data=.fields ts->ts[3]?=some .none->T≠e->Fl h0 H h' e C d:=by
  intro h' T oT ts z he hT hd h3 hTe;refine⟨n,f,_,_,.ref T,he,?_,?_,Obj.data_mapFields e4 _,by simp[hsz],.inr ⟨T,oT,ts,rfl,hTe,(hnew T z).1,(hnew T z).2,hT,hd,h3⟩⟩
  .rw[Obj.cls_mapFields];exact e2
  .rw[vQ];exact e3
 rcases t with rfl | ⟨T,oT,ts,rfl,t2,t3,t4,t5,t6,t7⟩
 .unfold noteFrame;simp only[hf];refine wpAny_bind (wpAny_field e1 e4 e5 ?_);rw[if_neg ∅];refine yW hfr hl hf e1 e4 hsz λh' T oT ts z k1 k2 he hT hd h3 hTe=>?_;refine h h' [e] (λb hb=>?_) (λb o h1 h2 q=>k1 b o h1 (λw=>h2 (by simp[w])) q) k2 (fin z he hT hd h3 hTe);have hb:b=e:=by simpa using hb
  subst hb;exact⟨n,f,_,_,e1,e4⟩
 .unfold noteFrame;simp only[hf];refine wpAny_bind (wpAny_field e1 e4 e5 ?_);rw[if_pos (show (Value.ref T != Value.none)=true from by simp)];refine wpAny_bind (wpAny_field t5 t6 t7 ?_);rw[if_neg (show ¬((Value.none == rawInt L)=true) from by simp[rawInt])];refine wpAny_bind (wpAny_setField t5 t6 (Array.getElem?_eq_some_iff.mp t7).1 ?_);have other:∀b,b≠T->(s.heap.update T (Obj.mapFields (·.setIfInBounds 3 Value.none))).get? b=s.heap.get? b:=λb hb=>Heap.get?_update_other _ _ (Ne.symm hb);have noRecord:∀b o,s.heap.get? b=some o->(∀vs,o.data≠.fields vs)->b≠T:=λb o hb hnf q=>by
   rw[q,t5] at hb;injection hb with hb;subst hb;exact hnf ts t6
  have nofr:∀b,b∈frs (env :: outer)->b≠T:=λb hb=>by
   obtain⟨_,o,ho,hnf⟩:=hl.mem hb;exact noRecord b o ho hnf
  refine yW (s:={ s with heap:=s.heap.update T (Obj.mapFields (·.setIfInBounds 3 Value.none)) }) (base:=base) hfr (hl.of_keeps λb o hb hnf=>⟨o,(other b (noRecord b o hb hnf)).trans hb,rfl⟩) hf ((other e (Ne.symm t2)).trans e1) e4 hsz
   λh' T' oT' ts' z k1 k2 he hT hd h3 hTe=>?_
  have z':s.heap.objs.size<=T':=by
   have:=Heap.size_after_update s.heap T (Obj.mapFields (·.setIfInBounds 3 Value.none));exact Nat.le_trans (Nat.le_of_eq this.symm) z
  refine h h' [e,T] (λb hb=>?_) (λb o h1 h2 q=>?_) (λb o hb q=>?_) (fin z' he hT hd h3 hTe)
  .rcases mem_cons.mp hb with hb | hb
   .subst hb;exact⟨n,f,_,_,e1,e4⟩
   .have hb:b=T:=by simpa using hb
    subst hb;exact⟨t3,t4,_,_,t5,t6⟩
  .exact k1 b o h1 (λw=>h2 (by simp[w])) ((other b λw=>h2 (by simp[w])).trans q)
  .exact k2 b o hb ((other b (nofr b hb)).trans q)
end
section
variable {X:Cx} {pins:List (Addr × Obj)} {σ:List (Option V)} {H H':Hp} {s:Shared} {h':Heap}
theorem dP.ex (x:dP P w H h a o):∃u,h.get? a=some u:=by
 cases o with
 |lst xs=>obtain⟨_,_,_,_,e⟩:=x;exact⟨_,e⟩
 |tup xs=>obtain⟨_,_,_,o,e,_⟩:=x;exact⟨_,e⟩
 |dK kvs=>obtain⟨_,_,_,_,o,_,_,e,_⟩:=x;exact⟨_,e⟩
 |dT kvs=>obtain⟨_,_,_,_,o,_,_,e,_⟩:=x;exact⟨_,e⟩
 |set S n=>obtain⟨o,_,_,_,e,_⟩:=x;exact⟨_,e⟩
 |ins C dx fs=>obtain⟨_,_,_,e,_⟩:=x;exact⟨_,e⟩
 |own y=>obtain⟨_,e⟩:=x;exact⟨_,e⟩
 |xd fs=>obtain⟨_,⟨_,_,_,e,_⟩,_⟩:=x;exact⟨_,e⟩
 |rng lo hi=>obtain⟨_,_,_,e⟩:=x;exact⟨_,e⟩
 |frz ob u=>obtain⟨e,_⟩:=x;exact⟨_,e⟩
 |tbl ps=>exact⟨_,(show h.get? a=some _ from x)⟩
 |met f y=>exact⟨_,(show h.get? a=some _ from x)⟩
 |ext φ=>obtain⟨_,⟨_,e⟩,_⟩:=x;exact⟨_,e⟩
theorem HOk.none_of (x:HOk P w H h)(e:h.get? a=none):H a=none:=by
 cases q:H a with
 |none=>rfl
 |some o=>
  obtain⟨u,hu⟩:=(x a o q).ex;rw[e] at hu;cases hu
theorem Inv.stepN {ch:List Addr}(I:Inv X pins σ H s)(hch:∀b∈ch,X.s₀.heap.get? b=none/\b≠X.env.locals/\(∀x c,X.env.cells.lookup x=some c->c≠b)/\∀p∈X.pn++pins,p.1≠b)(keep:∀b o,b≠X.env.locals->b∉X.fs->b∉ch->s.heap.get? b=some o->H b=none->h'.get? b=some o)(slot:∀b o,b≠X.env.locals->b∈X.fs->b∉ch->s.heap.get? b=some o->H b=none->∃sl,h'.get? b=some { o with slots:=sl })(there:∀b o,b∉ch->s.heap.get? b=some o->∃o',h'.get? b=some o')(ns:∀m,s.heap.Ns X.env.locals m->h'.Ns X.env.locals m)(hok:HOk X.prog X.w H h')(hg:AllBare g'):
  Inv X pins σ H { s with heap:=h',gens:=g',drawn:=d',toks:=t' }:=by
 have neL:∀b o,X.s₀.heap.get? b=some o->b≠X.env.locals:=λb o e=>Nat.ne_of_lt (Nat.lt_of_lt_of_le (Heap.lt_size e) I.ok.above);have neC:∀b o,X.s₀.heap.get? b=some o->b∉ch:=λb o e hb=>by rw[(hch b hb).1] at e;cases e
 have cellK:∀x c,X.env.cells.lookup x=some c->∀v,s.heap.IsCell c v->h'.IsCell c v:=λx c e v ⟨o,ho,hd⟩=>by
  have nch:c∉ch:=λz=>(hch c z).2.2.1 x c e rfl
  by_cases hc:c∈X.fs
  .obtain⟨sl,q⟩:=slot c o (I.cne x c e) hc nch ho (I.freeC x c e);exact⟨_,q,hd⟩
  .exact⟨o,keep c o (I.cne x c e) hc nch ho (I.freeC x c e),hd⟩
 refine⟨I.ok,I.os,hg,⟨λb o e n hb hx=>?_,λb o e n hb hx=>?_,λb o e n hx=>?_,λb o e hx=>?_,λb xs e=>I.base.tups b xs e,λb o xs e=>I.base.frzs b o xs e,λb ps e=>I.base.tbls b ps e⟩,?_,λx c e=>?_,I.free,I.freeC,λp hp=>?_,hok,I.len⟩
 .exact keep b o (neL b o e) hb (neC b o e) (I.base.keep b o e n hb hx) (I.base.free b o e n hx)
 .obtain⟨sl,e1⟩:=I.base.slot b o e n hb hx;obtain⟨sl',e2⟩:=slot b _ (neL b o e) hb (neC b o e) e1 (I.base.free b o e n hx);exact⟨sl',e2⟩
 .exact I.base.free b o e n hx
 .obtain⟨o',e1⟩:=I.base.there b o e hx;exact there b o' (neC b o e) e1
 .obtain⟨m,hn,hl⟩:=I.loc;refine⟨m,ns m hn,λi x v e1 e2 e3=>?_⟩;obtain⟨u,r,l⟩:=hl i x v e1 e2 e3;refine⟨u,r,?_⟩;rcases l with l | ⟨k,c,e,z⟩
  .exact .inl l
  .exact .inr ⟨k,c,e,cellK x c e _ z⟩
 .obtain⟨v,z⟩:=I.cell x c e;exact⟨v,cellK x c e v z⟩
 .obtain⟨e,n,ne,nf,d⟩:=I.pin p hp;have nch:p.1∉ch:=λz=>(hch p.1 z).2.2.2 p hp rfl;exact⟨keep p.1 p.2 ne nf nch e n,n,ne,nf,d⟩
structure Frm (X:Cx):Prop where
 ex:X.ex=[]
 st:X.stack=X.env :: X.outer
 fr:X.env.frame=some X.env.locals
def tU (X:Cx)(pins:List (Addr × Obj))(σ:List (Option V))(H:Hp)(s:Shared)(a:Addr)(C:Value)(d:Option Addr):Prop:=
 Inv X pins σ H s/\∃h0:Heap,(∀p∈X.pn++pins,h0.get? p.1≠none)/\(∀b o,X.s₀.heap.get? b=some o->∃o',h0.get? b=some o')/\(∀b o,h0.get? b=some o->∃o',s.heap.get? b=some o')/\Fl h0 H s.heap a C d
theorem rR {h1 h2:Heap}(k:∀b o,h1.get? b=some o->∃o',h2.get? b=some o')(b:Addr)(e:h2.get? b=none):h1.get? b=none:=by
 cases q:h1.get? b with
 |none=>rfl
 |some o=>obtain⟨o',z⟩:=k b o q;rw[e] at z;cases z
theorem Wj {h:Heap}(e:h.objs.size<=b):h.get? b=none:=Heap.get?_none_of_le e
theorem rL {h:Heap}(e:h.get? b=some o)(hd:o.data=.fields vs)(e':h.get? c=some o')(hd':∀vs,o'.data≠.fields vs):b≠c:=by
 intro z;subst z;rw[e] at e';cases e';exact hd' vs hd
theorem Ah {a:Addr}{C:Value}{d:Option Addr}{h0:Heap}(I:Inv X pins σ H s)(hp:∀p∈X.pn++pins,h0.get? p.1≠none)(hs:∀b o,X.s₀.heap.get? b=some o->∃o',h0.get? b=some o'){b:Addr}(hb:h0.get? b=none/\H b=none/\∃o vs,s.heap.get? b=some o/\o.data=.fields vs) :
  X.s₀.heap.get? b=none/\b≠X.env.locals/\(∀x c,X.env.cells.lookup x=some c->c≠b)/\∀p∈X.pn++pins,p.1≠b:=by
 obtain⟨h1,h2,o,vs,h3,h4⟩:=hb;refine⟨rR hs b h1,?_,λx c e=>?_,λp hq z=>hp p hq (by rw[z];exact h1)⟩
 .obtain⟨m,⟨o',es,ep,ho',hd',_⟩,_⟩:=I.loc;exact rL h3 h4 ho' λvs z=>by rw[hd'] at z;cases z
 .obtain⟨v,o',ho',hd'⟩:=I.cell x c e;exact Ne.symm (rL h3 h4 ho' λvs z=>by rw[hd'] at z;cases z)
theorem Jg (hA:A'.frames=some X.stack)(fm:Frm X)(L:tU X pins σ H s a C d)(h:∀s',tU X pins σ H s' a C d->Q .unit s'):
  wpAny (model X.prog X.w) A' (noteFrame (.ref a) X.env) (λ_ s2=>wpAny (model X.prog X.w) A' (setFlight (.ref a) none) Q E s2) E s:=by
 obtain⟨I,h0,hp,hs,ht,F⟩:=L;have hstk:=I.stack;have hfree:=I.stkFree;rw[fm.st] at hA hstk hfree;have hfrs:frs (X.env :: X.outer)=X.env.locals :: X.fs:=by unfold frs;rw[filterMap_cons,fm.fr];rfl
 refine Od (base:=X.base) hA hstk fm.fr F (λb hb=>⟨rR ht b (Wj hb),I.hok.fresh hb⟩) λh' ch c1 c2 c3 F'=>?_;have tr:∀c u,H c=some u->∀v,s.heap.get? c=some v->h'.get? c=some v:=λc u e v q=>
  c2 c v (λz=>by rw[hfree c z] at e;cases e) (λz=>by rw[(c1 c z).2.1] at e;cases e) q
 have th:∀b o,b∉ch->s.heap.get? b=some o->∃o',h'.get? b=some o':=λb o hb q=>by
  by_cases hf:b∈frs (X.env :: X.outer)
  .obtain⟨sl,e⟩:=c3 b o hf q;exact⟨_,e⟩
  .exact⟨o,c2 b o hf hb q⟩
 have J:Inv X pins σ H { s with heap:=h',gens:=s.gens,drawn:=s.drawn,toks:=s.toks }:=by
  refine I.stepN (ch:=ch) (λb hb=>Ah (a:=a) (C:=C) (d:=d) I hp hs (c1 b hb)) (λb o h1 h2 h3 e _=>c2 b o (by rw[hfrs];intro z;rcases mem_cons.mp z with z | z;exact h1 z;exact h2 z) h3 e)
   (λb o _ h2 _ e _=>c3 b o (by rw[hfrs];exact mem_cons_of_mem _ h2) e) th (λm hm=>?_) (λb u e=>?_) I.bare
  .obtain⟨o,es,ep,ho,r⟩:=hm;obtain⟨sl,e⟩:=c3 _ o (by rw[hfrs];exact mem_cons_self) ho;exact⟨_,es,ep,e,r⟩
  .refine(I.hok b u e).stay (λc v hc q=>?_) (λ_ q=>q) λ_ _ q=>q;rcases hc with rfl | hc
   .exact tr c u e v q
   .exact tr c _ hc v q
 refine h _ ⟨J,h0,hp,hs,λb o e=>?_,F'⟩;obtain⟨o',e'⟩:=ht b o e;exact th b o' (λz=>by rw[(c1 b z).1] at e;cases e) e'
theorem Xy (L:tU X pins σ H s a C d)(h:∀s',tU X pins σ H s' a C d->Q .unit s'):wpAny (model X.prog X.w) A' (setFlight (.ref a) none) Q E s:=by
 have L':=L;obtain⟨I,h0,hp,hs,ht,F⟩:=L';obtain⟨n,f,oe,vs,v,e1,e2,e3,e4,e5,t⟩:=F;unfold setFlight;refine wpAny_bind (wpAny_field e1 e4 e5 ?_);rcases t with rfl | ⟨T,oT,ts,rfl,t2,t3,t4,t5,t6,t7⟩
 .rw[if_neg ∅];exact wpAny_pure (h s L)
 .rw[if_pos (show (Value.ref T != Value.none)=true from by simp)];have hsz3:3 < ts.size:=(Array.getElem?_eq_some_iff.mp t7).1;have other:∀b,b≠T->(s.heap.update T (Obj.mapFields (·.setIfInBounds 3 ((none:Option Addr).elim Value.none λf=>rawInt f)))).get? b=s.heap.get? b:=λb hb=>Heap.get?_update_other _ _ (Ne.symm hb);have hT':=Heap.get?_update_self (Obj.mapFields (·.setIfInBounds 3 ((none:Option Addr).elim Value.none λf=>rawInt f))) t5 (Obj.isFreed_of_fields (Obj.data_mapFields t6 _));refine wpAny_setField t5 t6 hsz3 ?_;have c1:∀b∈[T],h0.get? b=none/\H b=none/\∃o vs,s.heap.get? b=some o/\o.data=.fields vs:=λb hb=>by
   have hb:b=T:=by simpa using hb
   subst hb;exact⟨t3,t4,_,_,t5,t6⟩
  have nT:∀b,b∉[T]->b≠T:=λb hb z=>hb (by simp[z]);have J:Inv X pins σ H { s with heap:=(s.heap.update T (Obj.mapFields (·.setIfInBounds 3 ((none:Option Addr).elim Value.none λf=>rawInt f)))),gens:=s.gens,drawn:=s.drawn,toks:=s.toks }:=by
   refine I.stepN (ch:=[T]) (λb hb=>Ah (a:=a) (C:=C) (d:=d) I hp hs (c1 b hb)) (λb o _ _ h3 e _=>(other b (nT b h3)).trans e) (λb o _ _ h3 e _=>⟨o.slots,(other b (nT b h3)).trans e⟩)
    (λb o h3 e=>⟨o,(other b (nT b h3)).trans e⟩) (λm hm=>?_) (λb u e=>?_) I.bare
   .obtain⟨o,es,ep,ho,hd,r⟩:=hm;exact⟨o,es,ep,(other _ (Ne.symm (rL t5 t6 ho λvs z=>by rw[hd] at z;cases z))).trans ho,hd,r⟩
   .refine(I.hok b u e).stay (λc v hc q=>(other c ?_).trans q) (λ_ q=>q) λ_ _ q=>q;rintro rfl;rcases hc with rfl | hc
    .rw[t4] at e;cases e
    .rw[t4] at hc;cases hc
  refine h _ ⟨J,h0,hp,hs,λb o e=>?_,⟨n,f,oe,vs,.ref T,(other a (Ne.symm t2)).trans e1,e2,e3,e4,e5,.inr ⟨T,_,_,rfl,t2,t3,t4,hT',Obj.data_mapFields t6 _,by simp[hsz3]⟩⟩⟩;obtain⟨o',e'⟩:=ht b o e;exact⟨o',(other b (λz=>by rw[z,t3] at e;cases e)).trans e'⟩
end
def CX1 (P:Program)(w:World):CXT:=λouter H s E e s'=>∃a C d H',e=.ref a/\s'.os=s.os/\AllBare s'.gens/\Un (frs outer) [] H H' s.heap s'.heap/\HOk P w H' s'.heap/\Fl s.heap H' s'.heap a C d/\E C d H'
def qg5 (X:Cx)(E:XK):Prop:=∀(pins:List (Addr × Obj)) (σ:St) (H:Hp) (s:Shared) (a:Addr) (C:Value) (d:Option Addr),tU X pins σ H s a C d->E C d H->X.xe (.ref a) s
section
variable {X:Cx} {pins:List (Addr × Obj)} {σ:List (Option V)} {H:Hp} {s s':Shared} {E:XK} {e:Value}
theorem qQ (fm:Frm X)(I:Inv X pins σ H s)(hcx:CX1 X.prog X.w X.stack H s E e s'):∃a C d H',e=.ref a/\tU X pins σ H' s' a C d/\E C d H':=by
 obtain⟨a,C,d,H',rfl,os,bare,un,hok,F,q⟩:=hcx;refine⟨a,C,d,H',rfl,⟨I.call' (ch:=[]) os un hok bare (λb z=>absurd z ⋯),s.heap,λp hp z=>?_,λb o e=>I.base.there b o e (by rw[fm.ex];simp),λb o e=>un.there b o e ⋯,F⟩,q⟩;rw[(I.pin p hp).1] at z;cases z
theorem rO (fm:Frm X)(xo:qg5 X E):jV (CX1 X.prog X.w) X E:=λpins σ H s e s' I hcx=>by
 obtain⟨a,C,d,H',rfl,L,q⟩:=qQ fm I hcx;exact xo pins σ H' s' a C d L q
end
theorem jA {K:Frag}:
  Frm (yC CX P w K mg base N qual scope f cd A outer s H E):=⟨rfl,rfl,rfl⟩
theorem oH {K:Frag}:
  qg5 (yC (CX1 P w) P w K mg base N qual scope f cd A outer s H E) E:=by
 intro pins σ H' s' a C d L q;show wpAny (model P w) (A.deeper (envOfC qual scope s.heap.objs.size f cd)) (leaving (envOfC qual scope s.heap.objs.size f cd) (.ref a)) (λ_ s''=>CX1 P w outer H s E (.ref a) s'') (λe' s''=>CX1 P w outer H s E e' s'') s';unfold leaving;refine wpAny_bind (Jg (X:=yC (CX1 P w) P w K mg base N qual scope f cd A outer s H E) L.1.ok.frames jA L λs'' L''=>?_);obtain⟨J,h0,hp,hs0,hth,F⟩:=L'';exact⟨a,C,d,H',rfl,J.os,J.bare,J.base,J.hok,F.older λb z=>rR hs0 b z,q⟩
abbrev qb3:List Value:=[.type "ValueError",.type "Exception",.type "BaseException",.type "object"]
def qa6 (K:Frag)(C:Addr):Prop:=W.excIn K C qb3 "ValueError.__new__"=true
theorem qe9 {K:Frag}(X:K.In h)(q:W.excIn K C bmB newId=true):
  ∃bm N nm qn bs hdct sn sub ab col dd k0 k1 k2 k3 k5 mN,h.get? C=some (excClassObj nm qn C N bs bm hdct sn sub ab col dd k0 k1 k2 k3 k5 newId)/\h.Ns N mN/\mN "__init__"=none/\OwnTail h bmB bm:=by
 unfold W.excIn at q;split at q
 .rename_i dd cd sl ho
  split at q
  .rename_i C' bm k0 k1 k2 k3 n k5 hm hs
   simp only[Bool.and_eq_true,beq_iff_eq,Bool.not_eq_true'] at q;obtain⟨⟨⟨⟨⟨rfl,rfl⟩,hdel⟩,ht⟩,hok⟩,hni⟩:=q;obtain⟨nm,bs,mro,ns,qn,hd,sn,sub,ab,col,del⟩:=cd;dsimp only at hm hdel hok hni;subst hm hdel;have hsl:sl=#[k0,k1,k2,k3,some (.builtin n),k5]:=by
    obtain⟨l⟩:=sl;simp only at hs;rw[hs]
   subst hsl;exact⟨bm,ns,nm,qn,bs,hd,sn,sub,ab,col,dd,k0,k1,k2,k3,k5,_,X _ _ ho,.of_isNs (W.isNs_of_in X hok),W.nsMap_none_of_in X hok hni,W.tail_of_in X ht⟩
  .cases q
 .cases q
section
variable {X:Cx} {pins:List (Addr × Obj)} {σ:List (Option V)} {H:Hp} {s:Shared}
def Zi (C:Addr)(E:XK)(ta:TA):TS:=λ_ σ H=>ta σ H λvs H1=>vs.length<=sizeLine/\E (.ref C) none H1
theorem xC (fm:Frm X)(xo:qg5 X E)(hc:X.calm=true)(hg:Gl X x)(hm:X.mg x=some (.ref C))(q:qa6 X.K C)(ha:PA X (e₀ :: es) ta)(hdb:(x == ("__debug__":Str))=false:=by decide)(he:starEach (e₀ :: es) X.env=(false,eval e₀ X.env) :: starEach es X.env:=by rfl)(hpl:(backTo cpos (starEach es X.env)).any (·.1)=false:=by rfl):
  PS X (.Raise (some (.Call (.Name x np) (e₀ :: es) [] cpos)) none pos) (Zi C E ta):=by
 intro pins s σ H D I h;obtain⟨tl,N,nm,qn,bs,hdct,sn,sub,ab,col,dd,k0,k1,k2,k3,k5,mN,hC,hN,hni,T⟩:=qe9 I.mod.kin q;have FB:=PySem.F.excBase_ValueError;refine wpAny_Raise_call_subU (C:=C) (nm:=nm) (q:=qn) (N:=N) (bs:=bs) (bm:=tl) (hdct:=hdct) (sn:=sn) (sub:=sub) (ab:=ab) (col:=col) (dd:=dd) (k0:=k0) (k1:=k1) (k2:=k2) (k3:=k3) (k5:=k5)
  FB ∅ FB (mN:=mN) (T.hasType FB.hasBase) (I.ok.hd hc) (by rw[he];show (false || (backTo cpos (starEach es X.env)).any (·.1))=false;rw[hpl];rfl) hni (qU I hg hm ⟨rfl,?_⟩ hdb)
 have ha':=ha cpos pins s σ H _ I h;rw[he] at ha' ⊢;refine Calls.evalArgs_plain (wpAny_mono ha' (λvs s2 h2=>?_) λ_ _ y=>y);obtain⟨xs,H1,I1,r,hz,q1⟩:=h2;refine⟨rfl,by rw[<- r.length];exact hz,I1.bk _ _ hC,hN.keeps I1.bk,T.keeps I1.bk,λh' e hx=>?_⟩;obtain⟨t,he1,htn,ht⟩:=hx.there;refine xo pins σ H1 _ e (.ref C) none ⟨I1.kept (t':=s2.toks) hx.keeps,s2.heap,λp hp z=>?_,λb o e=>I1.base.there b o e (by rw[fm.ex];simp),λb o z=>⟨o,hx.keeps b o z⟩,⟨hx.new,I1.hok.none_of hx.new,_,_,.none,he1,rfl,rfl,rfl,rfl,.inl rfl⟩⟩ q1;rw[(I1.pin p hp).1] at z;cases z
end
abbrev TEX:=St->Hp->VK->XK->Prop
abbrev TSX:=jW->(St->XK)->St->Hp->Prop
def XP (X:Cx)(pins:List (Addr × Obj))(E:St->XK)(e:Value)(s':Shared):Prop:=∃a C d σ' H',e=.ref a/\tU X pins σ' H' s' a C d/\E σ' C d H'
def PX (X:Cx)(e:Expr)(t:TEX):Prop:=
 ∀(pins:List (Addr × Obj)) (s:Shared) (σ:St) (H:Hp) (Q:VK) (E:XK),Inv X pins σ H s->t σ H Q E->wpAny (model X.prog X.w) X.A (eval e X.env) (EP X pins σ Q) (XP X pins λσ' C d H'=>σ'=σ/\E C d H') s
def PSX (X:Cx)(st:Stmt)(t:TSX):Prop:=
 ∀(pins:List (Addr × Obj)) (s:Shared) (σ:St) (H:Hp) (D:jW) (E:St->XK),Inv X pins σ H s->t D E σ H->wpAny (model X.prog X.w) X.A (exec st X.env) (SP X pins D) (XP X pins E) s
def qo1 (X:Cx)(st:List Stmt)(t:TSX):Prop:=
 ∀(pins:List (Addr × Obj)) (s:Shared) (σ:St) (H:Hp) (D:jW) (E:St->XK),Inv X pins σ H s->t D E σ H->wpAny (model X.prog X.w) X.A (execs st X.env) (SP X pins D) (XP X pins E) s
theorem XP.at (h:XP X pins (λσ' C d H'=>σ'=σ/\E σ C d H') e s'):XP X pins E e s':=by
 obtain⟨a,C,d,σ',H',rfl,L,rfl,q⟩:=h;exact⟨a,C,d,σ',H',rfl,L,q⟩
section
variable {X:Cx} {k:Nat} {f C:Addr} {fd:FuncData} {ps:List Str} {sp:Sp} {dvs:List V} {ds:List Value} {x m:Str} {p pos apos:Pos} {e o:Expr} {es:List Expr} {ta:TE} {t:TA}
theorem qr4 (F:aL X.prog X.w X.K X.mg X.base (CX1 X.prog X.w) k f fd ps sp)(fm:Frm X)(hr:gQ k X.A)(hb:aM X.K fd ps ds)(hd:cE dvs ds)(I:Inv X pins σ H s)(r:cE vs us)(h:sp (vs++dvs) H Q E):wpAny (model X.prog X.w) X.A (call (.ref f) us) (EP X pins σ Q) (XP X pins λσ' C d H'=>σ'=σ/\E C d H') s:=by
 have r2:cE (vs++dvs) (us++ds):=r.append hd;have hl:(us++ds).length=ps.length:=by rw[<- r2.length];exact F.len _ _ _ _ h
 refine wpAny_call (codeAny_mono (F.run X.A X.stack s H ⟨us,[]⟩ (us++ds) (vs++dvs) Q E hr I.env0 (hb s us I.kIn hl) r2 h) λr s' hq=>?_)
 cases r with
 |error e=>
  obtain⟨a,C,d,H',rfl,L,q⟩:=qQ fm I hq;exact⟨a,C,d,σ,H',rfl,L,rfl,q⟩
 |ok fl=>
  cases fl with
  |ret u=>exact I.after hq
  |next=>exact False.elim hq
  |brk=>exact False.elim hq
  |cont=>exact False.elim hq
def qm9 (C:Addr)(m:Str)(sp:Sp)(dvs:List V)(ta:TE)(t:TA):TEX:=λσ H Q E=>ta σ H λx H1=>∃a dx fs,x=.ref a/\H1 a=some (.ins C dx fs)/\fs.lookup m=none/\t σ H1 λvs H2=>sp (x :: (vs++dvs)) H2 Q E
theorem Xh (he:PE X.nox o ta)(c:Cls X.K C)(hm:dE X.K C m f)(F:aL X.prog X.w X.K X.mg X.base (CX1 X.prog X.w) k f fd ps sp)(fm:Frm X)(hr:gQ k X.A)(hb:aM X.K fd ps ds)(hd:cE dvs ds)(ha:PA X.nox (e :: es) t)(hst:starEach (e :: es) X.env=(false,eval e X.env) :: starEach es X.env:=by rfl)(hpl:(backTo pos (starEach es X.env)).any (·.1)=false:=by rfl)(ht:eval (.Call (.Attribute o m apos) (e :: es) [] pos) X.env=(do
   let ov <- eval o X.env
   standAt apos.atName
   let (f,first) <- holding [ov] (getMethod ov m pl)
   callWith pos f first (backTo pos (starEach (e :: es) X.env)) (backToKw pos (keywordEach [] X.env))):=by rfl):
  PX X (.Call (.Attribute o m apos) (e :: es) [] pos) (qm9 C m sp dvs ta t):=by
 intro pins s σ H Q E I h;refine W.methodCall_KW (pl:=pl) (wpAny_mono (he pins s σ H _ (I.wish _) h) (λu s1 h1=>?_) λ_ _ z=>False.elim z) ht;obtain⟨x,H1,I1,rx,a,dx,fs,ex,ea,l,q⟩:=h1;subst ex;obtain rfl:u=Value.ref a:=rx;refine iT (X:=X.nox) I1 ea c hm l ?_;refine W.callWith_K (first:=[.ref a]) (h₀:=X.base) I.ok.mod.kin hm.kp (wpAny_mono (ha pos pins s1 σ H1 _ I1 q) (λus s2 h2=>?_) λ_ _ z=>False.elim z) hst hpl;obtain⟨vs,H2,I2,r,q2⟩:=h2;exact⟨I2.kIn,qr4 (us:=.ref a :: us) (vs:=.ref a :: vs) F fm hr hb hd I2.unwish (.cons rfl r) q2⟩
def qs4 (i:Nat)(te:TEX):TSX:=λD E σ H=>te σ H (λv H1=>D.nx (σ.set i (some v)) H1) (E σ)
theorem Vk (hN:X.N.Nodup)(hi:X.N[i]?=some x)(hx:Loc X.env.scope x)(he:PX X e te)(hs:swapsWith e (some (.Name x pos')) pos.line X.env=pure false:=by rfl)(hf:X.fn x=true\/X.env.scope.names.lookup x=some .local:=by first | exact .inl rfl | exact .inr rfl | assumption):
  PSX X (.Assign [.Name x pos'] e pos) (qs4 i te):=by
 intro pins s σ H D E I h;refine wpAny_Assign_Name (wpAny_mono (he pins s σ H _ _ I h) (λv s1 h1=>?_) λ_ _ z=>XP.at z) hs;obtain⟨y,H1,I1,r1,q1⟩:=h1;exact iU I1 hN hi hx r1 (λs2 I2=>⟨_,H1,I2,q1⟩) hf
theorem Ot {st:Stmt}{t:TSX}(h1:PSX X st t):qo1 X [st] t:=by
 intro pins s σ H D E I h;refine wpAny_execs_cons (wpAny_mono (h1 pins s σ H D E I h) (λf s1 q=>?_) λ_ _ z=>z)
 cases f with
 |next=>exact wpAny_execs_nil q
 |ret v=>exact q
 |brk=>exact q
 |cont=>exact q
end
abbrev Cx.sup (X:Cx)(a:Addr):Cx:={ X with A:=X.A.mark (some (.ref a)),calm:=false,xe:=λ_ _=>False }
section
variable {X:Cx} {pins:List (Addr × Obj)} {σ:List (Option V)} {H:Hp} {s:Shared} {a:Addr}
theorem Cx.Ok.sup (ok:X.Ok)(a:Addr):(X.sup a).Ok:=
 ⟨ok.mod,ok.kind,ok.glob,ok.blt,ok.above,ok.inj,ok.has,ok.cab,λz=>Bool.noConfusion z,ok.frames,ok.stk,ok.exf,ok.bs,ok.bsz,ok.noex,ok.exfs,ok.funs,ok.frf⟩
theorem Inv.sup (I:Inv X pins σ H s)(a:Addr):Inv (X.sup a) pins σ H s:=⟨I.ok.sup a,I.os,I.bare,I.base,I.loc,I.cell,I.free,I.freeC,I.pin,I.hok,I.len⟩
theorem Inv.unsup (ok:X.Ok)(I:Inv (X.sup a) pins σ H s):Inv X pins σ H s:=⟨ok,I.os,I.bare,I.base,I.loc,I.cell,I.free,I.freeC,I.pin,I.hok,I.len⟩
def pV (a:Addr)(C:Value)(d:Option Addr):HO:=.ext λh=>∃o vs,h.get? a=some o/\o.cls=C/\o.dict=d/\o.data=.fields vs
theorem tU.track (L:tU X pins σ H s a C d)(fm:Frm X):Inv X pins σ (upd H a (pV a C d)) s:=by
 obtain⟨I,h0,hp,hs,ht,F⟩:=L;obtain⟨n,f,oe,vs,v,e1,e2,e3,e4,e5,t⟩:=F;obtain⟨c1,c2,c3,c4⟩:=Ah (a:=a) (C:=C) (d:=d) I hp hs (b:=a) ⟨n,f,_,_,e1,e4⟩;have tr:∀b u,H b=some u->upd H a (pV a C d) b=some u:=λb u e=>by rw[aX (aQ e f)];exact e
 refine⟨I.ok,I.os,I.bare,⟨I.base.keep,I.base.slot,λb o e n' hx=>?_,I.base.there,λb xs e=>tr _ _ (I.base.tups b xs e),λb o u e=>tr _ _ (I.base.frzs b o u e),λb ps e=>?_⟩,I.loc,I.cell,?_,λx c e=>?_,λp hp'=>?_,λb o e=>?_,I.len⟩
 .have:b≠a:=λz=>by rw[z,c1] at e;cases e
  rw[aX this];exact I.base.free b o e n' hx
 .obtain⟨more,z⟩:=I.base.tbls b ps e;exact⟨more,tr _ _ z⟩
 .rw[aX (Ne.symm c2)];exact I.free
 .rw[aX (c3 x c e)];exact I.freeC x c e
 .obtain⟨z1,z2,z3⟩:=I.pin p hp';exact⟨z1,by rw[aX (c4 p hp')];exact z2,z3⟩
 .by_cases hb:b=a
  .subst hb;rw[aB] at e;cases e;refine⟨⟨oe,vs,e1,e2,e3,e4⟩,⟨oe,e1⟩,λh1 h2 p k=>?_⟩;obtain⟨o,vs',z1,z2⟩:=p;exact⟨o,vs',k o z1,z2⟩
  .rw[aX hb] at e;exact(I.hok b o e).stay (λ_ _ _ q=>q) (λc q=>tr _ _ q) λc xs q=>tr _ _ q
theorem oG (I:Inv X pins σ H s)(hN:X.N.Nodup)(hj:X.N[j]?=some n)(hl:X.env.scope.names.lookup n=some .local)(h:∀s',Inv X pins (σ.set j none) H s'->Q .unit s'):wpAny (model X.prog X.w) A' (do bindName X.env n .none;unbindBehindTheSuite X.env n pos) Q E s:=by
 obtain⟨m,hn,hlk⟩:=id I.loc;have hcls:(X.env.scope.kind == .class || (X.env.scope.kind == .module && X.env.locals != X.env.globals))=false:=by rw[I.ok.kind];rfl
 have hiσ:j < σ.length:=by rw[I.len];exact(List.getElem?_eq_some_iff.mp hj).1
 have cne:=I.cne;refine wpAny_nameGoes_keeps hl hn hcls λh' v hn' hs=>?_;obtain⟨oL,_,_,hoL,_⟩:=id hn;refine h _ ⟨I.ok,I.os,I.bare,⟨λb o e n hb hx=>?_,λb o e n hb hx=>?_,I.base.free,λb o e hx=>?_,I.base.tups,I.base.frzs,I.base.tbls⟩,⟨_,hn',λi y v' e1 e2 e3=>?_⟩,λy c e=>?_,I.free,I.freeC,λp hp=>?_,λb ob e=>?_,by simpa using I.len⟩
 .exact(hs.2 b (Nat.ne_of_lt (Nat.lt_of_lt_of_le (Heap.lt_size e) I.ok.above))).trans (I.base.keep b o e n hb hx)
 .obtain⟨sl,e1⟩:=I.base.slot b o e n hb hx;exact⟨sl,(hs.2 b (Nat.ne_of_lt (Nat.lt_of_lt_of_le (Heap.lt_size e) I.ok.above))).trans e1⟩
 .obtain⟨o',e1⟩:=I.base.there b o e hx;exact⟨o',(hs.2 b (Nat.ne_of_lt (Nat.lt_of_lt_of_le (Heap.lt_size e) I.ok.above))).trans e1⟩
 .by_cases hij:i=j
  .subst hij;rw[getElem?_set_self hiσ] at e2
   cases e2
  .rw[getElem?_set_ne (Ne.symm hij)] at e2;obtain⟨u',r',q⟩:=hlk i y v' e1 e2 e3;refine⟨u',r',?_⟩;rcases q with ⟨k,e⟩ | ⟨k,c,e,z⟩
   .refine .inl ⟨k,?_⟩;have:y≠n:=λe=>hij (vO hN e1 (e ▸ hj));simp[this,e]
   .exact .inr ⟨k,c,e,z.sameBut hs (cne y c e)⟩
 .obtain⟨w',z⟩:=I.cell y c e;exact⟨w',z.sameBut hs (cne y c e)⟩
 .obtain⟨e,n,ne,nf,d⟩:=I.pin p hp;exact⟨(hs.2 p.1 ne).trans e,n,ne,nf,d⟩
 .refine(I.hok b ob e).stay (λc w' hc q=>(hs.2 c ?_).trans q) (λ_ q=>q) λ_ _ q=>q;rintro rfl;rcases hc with rfl | hc
  .rw[I.free] at e;cases e
  .rw[I.free] at hc;cases hc
end
abbrev TH:=Addr->Value->Option Addr->jW->St->Hp->Prop
def PH (X:Cx)(hs:List ExceptHandler)(t:TH):Prop:=
 ∀(pins:List (Addr × Obj)) (s:Shared) (σ:St) (H:Hp) (D:jW) (a:Addr) (C:Value) (d:Option Addr),tU X pins σ H s a C d->t a C d D σ H->wpAny (model X.prog X.w) X.A (handleBy (.ref a) X.env hs) (SP X pins D) X.xe s
section
variable {X:Cx} {pos np:Pos} {T:Str} {tc:Value} {b₀:Stmt} {suite:List Stmt} {rest:List ExceptHandler} {ts:TS} {tr:TH}
def qg3:TH:=λ_ _ _ _ _ _=>False
theorem Oi:PH X hs qg3:=λ_ _ _ _ _ _ _ _ _ h=>h.elim
def Yp (X:Cx)(T:Str)(c:Value):Prop:=X.mg T=some c\/(X.mg T=none/\bootBuiltins T=some c/\T≠"__name__")
theorem Zn (I:Inv X pins σ H s)(hg:Gl X T)(hc:Yp X T tc)(h:Q tc s)(hd:(T == ("__debug__":Str))=false:=by decide):wpAny (model X.prog X.w) X.A (eval (.Name T np) X.env) Q E s:=by
 rcases hc with e | ⟨e,hv,hn⟩
 .exact qU I hg e h hd
 .exact jR I hg e hv h hn hd
theorem tU.ty (L:tU X pins σ H s a C d):W.Looks M s.heap (typeOf (.ref a)) C:=by
 obtain⟨I,h0,hp,hs,ht,n,f,oe,vs,v,e1,e2,_⟩:=L;subst e2;exact(W.Looks.ld e1).andThen .now
def Xa (K:Frag)(tc:Value)(j:Nat)(ts:TS)(tr:TH):TH:=λa C d D σ H=>∃b,W.exmOne K C tc=some b/\
 if b=true then ts { nx:=λσ' H'=>D.nx (σ'.set j none) H',rt:=D.rt,bk:=λσ' H'=>D.bk (σ'.set j none) H',ct:=λσ' H'=>D.ct (σ'.set j none) H' } (σ.set j (some (.ref a))) (upd H a (pV a C d)) else tr a C d D σ H
theorem qq7 (fm:Frm X)(hN:X.N.Nodup)(hj:X.N[j]?=some n)(hl:X.env.scope.names.lookup n=some .local)(hg:Gl X T)(hc:Yp X T tc)(hs:∀a,PSs (X.sup a) (b₀ :: suite) ts)(hr:PH X rest tr)(hd:(T == ("__debug__":Str))=false:=by decide):
  PH X (.ExceptHandler (some (.Name T np)) (some n) (b₀ :: suite) pos :: rest) (Xa X.K tc j ts tr):=by
 intro pins s σ H D a C d L h;obtain⟨b,hb,h⟩:=h;have I:=L.1;refine wpAny_handleBy_cons (codeAny_handlers_test (Zn (X:=X.sup a) (I.sup a) hg hc ((W.exm_one I.kIn L.ty hb).here ?_) hd)) (by intro q;cases q)
 cases b with
 |false=>
  rw[if_neg Bool.false_ne_true] at h;exact hr pins s σ H D a C d L h
 |true=>
  rw[if_pos rfl] at h;refine codeAny_handlers_suite_as (Xy (X:=X) L λs' L'=>?_);refine iU (X:=X.sup a) ((L'.track fm).sup a) hN hj (.inl hl) (v:=.ref a) rfl (λs2 I2=>?_) (.inr hl);refine wpAny_mono (hs a pins s2 _ _ _ I2 h) (λf s3 q=>?_) λ_ _ z=>False.elim z
  cases f with
  |next=>
   obtain⟨σ',H',J,q⟩:=q;exact oG (J.unsup I.ok) hN hj hl λs4 J4=>⟨_,H',J4,q⟩
  |brk=>
   obtain⟨σ',H',J,q⟩:=q;exact oG (J.unsup I.ok) hN hj hl λs4 J4=>⟨_,H',J4,q⟩
  |cont=>
   obtain⟨σ',H',J,q⟩:=q;exact oG (J.unsup I.ok) hN hj hl λs4 J4=>⟨_,H',J4,q⟩
  |ret u=>
   obtain⟨v,σ',H',J,r,q⟩:=q;exact oG (J.unsup I.ok) hN hj hl λs4 J4=>⟨v,_,H',J4,r,q⟩
def qs1 (tb:TSX)(to:TS)(th:TH):TS:=λD σ H=>tb { D with nx:=to D } (λσ' C d H'=>∀a,H' a=none->th a C d D σ' H') σ H
theorem qi1 (fm:Frm X)(hb:qo1 X body tb)(ho:PSs X orelse to)(hh:PH X (h₀ :: hs) th):PS X (.Try body (h₀ :: hs) orelse [] pos) (qs1 tb to th):=by
 intro pins s σ H D I h;refine wpAny_Try_except (wpAny_mono (hb pins s σ H _ _ I h) (λf s1 q=>?_) λe s1 q=>?_)
 .cases f with
  |next=>
   obtain⟨σ',H',I',q⟩:=q;exact ho pins s1 σ' H' D I' q
  |ret v=>exact q
  |brk=>exact q
  |cont=>exact q
 .obtain⟨a,C,d,σ',H',rfl,L,q⟩:=q;refine Jg I.ok.frames fm L λs2 L2=>?_;exact hh pins s2 σ' H' D a C d L2 (q a L2.2.choose_spec.2.2.2.free)
end
structure zV (K:Frag) (C:Addr):Prop where
 ga:W.findIn K (.ref C) "__getattribute__"=some (some (.builtin "BaseException.__getattribute__"))
 gn:W.findIn K (.ref C) "__getattr__"=some none
 bx:W.mroIn K C (.type "BaseException")=some true
 ob:W.mroIn K C (.type "object")=some true
 ca:W.findIn K (.ref C) "__class__"=some (some (.builtin "object.__class__"))
 hn:W.specialIn K (.builtin "object.__class__") "__get__"=some (some (.builtin "getset_descriptor.__get__"))
 tk:W.takesIn K (.builtin "object.__class__")=some true
 cl:(W.clsIn K C).isSome=true
section
variable {prog:Program} {w:World} {A:Around} {E:Value->Shared->Prop} {s:Shared} {K:Frag} {x D:Addr} {ox:Obj} {odo:Option Obj} {name:Str}
theorem Lo (k:zV K D)(X:K.In s.heap)(I:W.InstAt s.heap x ox D odo)(h:Q .unit s):
  wpAny (model prog w) A (checkBuiltinCall "BaseException.__getattribute__" ⟨[.ref x,nameV],[]⟩) Q E s:=by
 have hk:builtinKind "BaseException.__getattribute__"=some .slot:=by decide +kernel
 have hsplit:splitId "BaseException.__getattribute__"=some ("BaseException","__getattribute__"):=by decide +kernel
 obtain⟨hh,g,d,t,os⟩:=s;have L0:=I.type (M:=model prog w);have L1:=W.looks_mroIn (M:=model prog w) X k.bx;have LI:W.Looks (model prog w) hh (isInstance (.ref x) (.type "BaseException")) true:=L0.andThen L1;have ha:=PySem.F.args_bexc_ga (.ref x) nameV;simp only[checkBuiltinCall,hk,hsplit];refine wpAny_bind (LI.at ?_)
 repeat (first | lk | wp_step)
 exact h
theorem qb2 {fill expr:Bool}(k:zV K D)(X:K.In s.heap)(I:W.InstAt s.heap x ox D odo)(hv:W.handedIn v=true)(hf:W.findObj K D odo name=some (.value v)\/∃g a,W.findObj K D odo name=some (.bind g a)/\∀(A':Around) (R:Result->Shared->Prop),R (.ok (.ret v)) s->codeAny (model prog w) A' (.call g ⟨[a,.ref x,.ref D],[]⟩) R s)(h:P v s):
  wpAny (model prog w) A (getAttrBy (.ref x) (.str name tk) fill expr) P E s:=by
 obtain⟨hh,g,d,t,os⟩:=s;have L0:=I.type (M:=model prog w);have L1:=W.looks_findIn (M:=model prog w) X k.ga;have L2:=W.looks_findIn (M:=model prog w) X k.gn;unfold getAttrBy;refine wpAny_holding (wpAny_bind (L0.at (wpAny_bind (L1.at ?_))));show wpAny _ _ (getAttrByItsOwn (.ref x) (.str name tk) (.ref D) (.builtin "BaseException.__getattribute__") fill expr) _ _ _;unfold getAttrByItsOwn hookBefore;have f3:=PySem.F.attr_ValueError.ga.bind (.ref x);refine wpAny_bind (L2.at ?_);refine wpAny_bind (wpAny_attempt (wpAny_holding ?_));unfold callGetattribute boundAndCalled;rw[if_neg (by cases expr<;>decide)];refine wpAny_bind (wpAny_of_eq f3 ?_);refine wpAny_call (codeAny_call_builtin PySem.F.attr_ValueError.ga.plain PySem.F.entry_bexc_ga (Lo k X I ?_));unfold Builtin.«object.__getattribute__»;refine wpAny_bind (wpAny_pure ?_);refine wpAny_bind (wpAny_pure ?_);refine wpAny_bind (L0.at ?_);rcases hf with hf | ⟨gg,a,hf,hc⟩
 .refine wpAny_bind ((W.looks_find (M:=model prog w) X I hf).at ?_);refine wpAny_pure ?_;show wpAny _ _ (handedOut v) _ _ _;rw[W.handedOut_of hv];exact wpAny_pure h
 .refine wpAny_bind ((W.looks_find (M:=model prog w) X I hf).at ?_);show wpAny _ _ (Builtin.ObjectAttr.bindTo gg a (.ref x) (.ref D)) _ _ _;show wpAny _ _ (holding [a] (call gg [a,.ref x,.ref D]) >>= ret) _ _ _;refine wpAny_bind (wpAny_holding (wpAny_call (hc _ _ ?_)));refine wpAny_pure ?_;show wpAny _ _ (handedOut v) _ _ _;rw[W.handedOut_of hv];exact wpAny_pure h
theorem Ma (k:zV K D)(X:K.In s.heap)(I:W.InstAt s.heap x ox D odo)(h:Q (some (.ref D)) { s with toks:=s.toks+1 }):
  wpAny (model prog w) A (getAttr? (.ref x) "__class__") Q E s:=by
 have hf:W.findObj K D odo "__class__"=some (.bind (.builtin "getset_descriptor.__get__") (.builtin "object.__class__")):=by
  obtain⟨cd,hc⟩:=Option.isSome_iff_exists.mp k.cl;unfold W.findObj;rw[hc,Option.bind_some,k.ca,Option.bind_some];simp[k.hn,k.tk]
 unfold getAttr? getAttrBy?;refine wpAny_bind (wpAny_mkText (wpAny_bind (wpAny_attempt (qb2 (s:={ s with toks:=s.toks+1 }) k X I rfl (.inr ⟨_,_,hf,λA' R q=>W.class_get (s:={ s with toks:=s.toks+1 }) X I k.ob q⟩) ?_))));exact wpAny_pure h
theorem Ef (k:zV K D):W.KitX K (.ref x) (.ref D) (λh=>W.InstAt h x ox D odo) where
 ty:=λ_ _ _ I=>I.type
 it:=λ_ _ X _=>by
  obtain⟨cdD,hcD⟩:=Option.isSome_iff_exists.mp k.cl;unfold W.clsIn at hcD;split at hcD
  .rename_i c' d' cd' sl' ho
   intro A' Q' E' s' kk q;unfold isType loadHead;exact wpAny_bind (wpAny_loadPart (kk _ _ (X _ _ ho)) (wpAny_pure q))
  .cases hcD
 ne:=λh tp dd its n sl X htp=>by
  obtain⟨cdD,hcD⟩:=Option.isSome_iff_exists.mp k.cl;refine Bool.eq_false_iff.mpr λq=>?_;have e:D=tp:=Value.ref.inj (beq_iff_eq.mp q);subst e;unfold W.clsIn at hcD;split at hcD
  .rename_i c' d' cd' sl' ho
   have z:=(X _ _ ho).symm.trans htp
   cases z
  .cases hcD
 ca:=λX I h=>Ma k X I h
end
section
variable {X:Cx}
theorem Oo (I:Inv X pins σ H s)(e:H a=some (pV a (.ref C) none)):∃ox,W.InstAt s.heap a ox C none:=by
 obtain⟨⟨o,vs,h1,h2,h3,h4⟩,_⟩:=(show dP X.prog X.w H s.heap a (pV a (.ref C) none) from I.hok a _ e)
 refine⟨o,h1,h2,?_,?_⟩
 .unfold W.notCls;rw[h4]
 .rw[h3];trivial
theorem Lu:oX X (.builtin "isinstance") (λxs H Q=>∃a C c cv b,xs=[.ref a,c]/\H a=some (pV a (.ref C) none)/\zV X.K C/\cG c cv/\(∀u,cG c u->u=cv)/\W.kitOne X.K (.ref C) cv=some b/\Q (.bl b) H):=by
 intro pins s σ H xs us Q I r h;obtain⟨a,C,c,cv,b,rfl,ha,k,rc,ru,e,q⟩:=h;obtain⟨u,w',rfl,rx,rn⟩:=Eh r
 cases (show u=Value.ref a from rx)
 cases ru w' rn
 obtain⟨ox,hi⟩:=Oo I ha;exact W.kia_one (Ef (ox:=ox) (odo:=none) k) I.kIn hi e (λz=>nomatch z) λtk=>⟨.bl b,H,I.tok tk,rfl,q⟩
theorem iB (hg:Gl X x)(hm:X.mg x=some (.ref C))(hd:(x == ("__debug__":Str))=false:=by decide):PE X (.Name x pos) (tC (.ref C)):=cQ hg hm rfl hd
end
end L2
namespace Mq
theorem gO (hp:1<=p.2)(hq:1<=q.2):Low (minus p q):=gX (gZ hp hq)
theorem oA (hp:1<=p.2)(hq:1<=q.2):Low (jB p q):=gX (gZ hp hq)
theorem uY {p q:Q2}(hp:1<=p.2)(hq:q.1≠0):p.2*q.1≠0:=Int.mul_ne_zero () hq
theorem qI (hp:1<=p.2)(hq:q.1≠0):Low (lH p q):=gX (uY hp hq)
theorem kG (h:Bd n p)(g:Bd m q)(hp:1<=p.2)(hq:1<=q.2):Bd (n+m+1) (minus p q):=by
 have k:=mX (t:=p.1*q.2 - q.1*p.2) (gZ hp hq);have a2:B (n+m) (q.1*p.2):=by rw[Nat.add_comm];exact g.a.mul h.b
 exact⟨((h.a.mul g.b).sub a2).le k.1,((h.b.mul g.b).mono (Nat.le_succ _)).le k.2⟩
theorem vT (h:Bd n p)(g:Bd m q)(hp:1<=p.2)(hq:1<=q.2):Bd (n+m) (jB p q):=by
 have k:=mX (t:=p.1*q.1) (gZ hp hq);exact⟨(h.a.mul g.a).le k.1,(h.b.mul g.b).le k.2⟩
theorem uO (h:Bd n p)(g:Bd m q)(hp:1<=p.2)(hq:q.1≠0):Bd (n+m) (lH p q):=by
 have k:=mX (t:=p.1*q.2) (uY hp hq);exact⟨(h.a.mul g.b).le k.1,(h.b.mul g.a).le k.2⟩
end Mq
open Mq (gO kG oA qI uO vT)
namespace L2
open PySem PySem.Spec PyProof.Rows
inductive By (K:Frag) (vs:List V) (H:Hp) (Q:VK) (E:XK):Prop where
 |mk (a b:Addr) (p q:Q2) (n m:Nat):vs=[.ref a,.ref b]->Fq K H a p->Fq K H b q->Bd n p->Bd m q->n+m+1<=9000->Q (.bl (decide (p.1*q.2 < q.1*p.2))) H->By K vs H Q E
inductive TyQ (K:Frag) (H:Hp):V->Value->Prop where
 |of {x:V} {t:Value} (h:kF K H x t):TyQ K H x t
 |tup {a:Addr} {xs:List V} (h:SqT K H a xs):TyQ K H (.ref a) (.type "tuple")
 |lst {a:Addr} {xs:List V} (h:SqL K H a xs):TyQ K H (.ref a) (.type "list")
section
variable {X:Cx} {pins:List (Addr × Obj)} {σ:St} {H:Hp} {s:Shared} {A:Around} {E:Value->Shared->Prop} {Q:Value->Shared->Prop} {c:Value} {b:Bool}
theorem Gu (I:Inv X pins σ H s)(rx:cG x u)(ty:TyQ X.K H x t)(e:W.kitOne X.K t c=some b)(h:∀tk,Q (.bool b) { s with toks:=tk }):
  wpAny (model X.prog X.w) A (call (.builtin "isinstance") [u,c]) Q E s:=by
 cases ty with
 |of ty=>exact Lz I rx ty e h
 | @tup a xs ht=>
  cases (show u=Value.ref a from rx)
  obtain⟨its,_,p,_⟩:=I.tuple ht;obtain⟨o,h1,h2,_⟩:=p;exact W.kia_one W.kitx_tuple I.kIn ⟨o,h1,h2⟩ e (λz=>nomatch z) h
 | @lst a xs ht=>
  cases (show u=Value.ref a from rx)
  obtain⟨its,_,p,_⟩:=I.list ht;obtain⟨o,h1,h2,_⟩:=p.isList;exact W.kia_one W.kitx_list I.kIn ⟨_,h1,h2⟩ e (λz=>nomatch z) h
end
section
variable {X:Cx}
theorem Mj:oX X (.builtin "isinstance") (λxs H Q=>∃x n t b,xs=[x,.ty n]/\TyQ X.K H x t/\W.kitOne X.K t (.type n)=some b/\Q (.bl b) H):=by
 intro pins s σ H vs us Q I rv h;obtain⟨x,n,t,b,rfl,ty,e,q⟩:=h;obtain⟨u,u2,rfl,r1,r2⟩:=Eh rv
 cases (show u2=Value.type n from r2)
 exact Gu I r1 ty e λtk=>⟨.bl b,H,I.tok tk,rfl,q⟩
theorem iP {i:Nat}(hN:X.N[i]?=some x)(hv:Vis X.env.scope x)(b:X.mg "isinstance"=none)(b2:X.mg T=none)(g1:Gl X "isinstance")(g2:Gl X T)(hT:bootBuiltins T=some (.type T'))(hd:(x == ("__debug__":Str))=false:=by decide)(hcd:(x == ("__classdict__":Str))=false:=by decide)(hTn:T≠"__name__":=by decide)(hTd:(T == ("__debug__":Str))=false:=by decide)(he:starEach [.Name x p2,.Name T p3] X.env=(false,eval (.Name x p2) X.env) :: starEach [.Name T p3] X.env:=by rfl)(he2:starEach [.Name T p3] X.env=(false,eval (.Name T p3) X.env) :: starEach [] X.env:=by rfl)(hpl:(backTo pos (starEach [.Name T p3] X.env)).any (·.1)=false:=by rfl):
  PE X (.Call (.Name "isinstance" p1) [.Name x p2,.Name T p3] [] pos) (λσ H Q=>∃v t b,σ[i]?=some (some v)/\TyQ X.K H v t/\W.kitOne X.K t (.type T')=some b/\Q (.bl b) H):=by
 have h:=bL (X:=X) (pos:=pos) (p:=p1) Mj g1 b PyProof.Rows.boot_isinstance (aA (Ov (i:=i) (pos:=p2) hN hv hd hcd) (aA (Kt (v:=.ty T') (pos:=p3) g2 b2 hT rfl hTn hTd) aC he2) he) ∅ ∅ he hpl;intro pins s σ H Q I q;obtain⟨v,t,bb,h1,h2,h3,h4⟩:=q;exact h pins s σ H Q I ⟨v,h1,v,T',t,bb,rfl,h2,h3,h4⟩
end
theorem SqT.upd {K:Frag}(h:SqT K H a xs)(hl:H l=some (.lst ys)):SqT K (L2.upd H l o) a xs:=by
 rcases h with (h | ⟨u,h⟩) | h
 .exact .inl (.inl (by rw[aX (cZ h hl (λz=>by cases z))];exact h))
 .exact .inl (.inr ⟨u,by rw[aX (cZ h hl (λz=>by cases z))];exact h⟩)
 .exact .inr h
theorem Ee {K:Frag}:∀ns:List Int,rF K H (ns.map V.int) (ns.map PyData.int)
 | []=>.nil
 |n :: r=>.cons (.int n) (Ee r)
theorem Dt:∀ns:List Int,PyData.canLayAll0 (ns.map PyData.int)=true
 | []=>rfl
 |n :: r=>by
  show ((PyData.int n).canLay0 && PyData.canLayAll0 (r.map PyData.int))=true;rw[Dt r];rfl
theorem Dv (ns:List Int)(lo hi:Option Int):∃ms:List Int,jC (ns.map V.int) lo hi=ms.map V.int/\ms.length<=ns.length:=by
 refine⟨(ns.drop (HT.sIx (ns.map V.int).length 0 lo)).take (HT.sIx (ns.map V.int).length (ns.map V.int).length hi - HT.sIx (ns.map V.int).length 0 lo),?_,?_⟩
 .unfold jC;rw[map_take,map_drop]
 .rw[length_take,length_drop];lia
theorem Qv {K:Frag}{ns:List Int}(h1:SqL K H a (ns.map V.int))(h2:SqL K H b [])(z:Q (.bl (if neg then !ns.isEmpty else ns.isEmpty)) H):vS K neg (.ref a) (.ref b) H Q:=by
 refine⟨_,_,.lst h1 (Ee ns),.lst h2 .nil,Dt ns,rfl,?_,?_⟩
 .have:(PyData.list []).depth<=1:=by decide
  lia
 .cases ns<;>exact z
theorem lC:(((σC 2 fr σ).set 0 (some x)).set 1 (some y)).length=(σC 2 fr σ).length/\∀(i:Nat) v,(σC 2 fr σ)[i]?=some (some v)->(((σC 2 fr σ).set 0 (some x)).set 1 (some y))[i]?=some (some v):=by
 refine⟨⋯,λi v h=>?_⟩
 match i with
 |0=>unfold σC at h;simp at h
 |1=>unfold σC at h;simp at h
 |k+2=>rw[getElem?_set_ne (),getElem?_set_ne ()];exact h
theorem Fqs.set {K:Frag}(h:Fq K H a p):∀{xs:List V} {ps:List Q2} (i:Nat),Fqs K H xs ps->Fqs K H (xs.set i (.ref a)) (ps.set i p)
 |_,_,_,.nil=>.nil
 |_,_,0,.cons _ q=>.cons h q
 |_,_,i+1,.cons g q=>.cons g (Fqs.set h i q)
theorem Fqs.at {K:Frag}:∀{xs:List V} {ps:List Q2} {i:Nat} {p:Q2},Fqs K H xs ps->ps[i]?=some p->∃a,xs[i]?=some (.ref a)/\Fq K H a p
 |_,_,_,_,.nil,h=>by simp at h
 |_,_,0,_,.cons h _,e=>by simp at e;subst e;exact⟨_,rfl,h⟩
 |_,_,i+1,_,.cons _ q,e=>by simpa using Fqs.at q (by simpa using e)
theorem tW (lo:-(2 ^ n:Int) < i)(hi:i < 2 ^ n):Mq.B n i:=by
 unfold Mq.B;have e:((2 ^ n:Nat):Int)=2 ^ n:=by simp
 lia
theorem Ba (X:Cx):∀l:List (Int × _ × Pos),PA X (l.map λq=>Expr.Constant (.int q.1) q.2.1 q.2.2) (λ_ H Q=>Q (l.map λq=>V.int q.1) H)
 | []=>aC
 |q :: l=>aA (te:=tC (.int q.1)) aE (Ba X l) rfl
theorem kW (h:k < n):ixN n (k:Int)=some k:=by
 unfold ixN;rw[if_pos (),if_pos ()];simp
section
variable {X:Cx} {tg:Expr}
inductive qo2 (K:Frag) (xs:List V) (H:Hp) (Q:VK):Prop where
 |mk (p:Addr) (bs:List Bool):xs=[.ref p]->SqL K H p (bs.map V.bl)->Q (.bl (bs.all id)) H->qo2 K xs H Q
theorem Sy (hc:X.calm=true):oX X (.builtin "all") (qo2 X.K):=by
 intro pins s σ H xs us Q I r h;obtain⟨p,bs,rfl,hq,q⟩:=h;obtain⟨u,rfl,rx⟩:=Du r
 cases rx
 obtain⟨its,rv,pl,hz⟩:=I.list hq;have hlen:its.toArray.size=bs.length:=by rw[size_toArray,<- rv.length,length_map]
 have hne:p≠s.heap.objs.size:=by
  obtain⟨o,e,_⟩:=pl.isList;exact Nat.ne_of_lt (Heap.lt_size e)
 refine call_all_walk (wpAny_pyIter_list pl.isList ?_);refine⟨s.heap.objs.size,_,_,_,_,_,λi=>bs.getD i false,rfl,Walks.list (by exact I.ok.hd hc) s.heap.objs.size p hne its.toArray,⟨⟨_,Heap.get?_push_size _ rfl,rfl,rfl⟩,?_⟩,?_,?_⟩
 .obtain⟨o,e,c⟩:=pl.isList;exact⟨o,Heap.get?_push_of_some _ e,c⟩
 .intro i v s' Q' E' hv q';have hv':its[i]?=some v:=by simpa using hv
  have hi:i < its.length:=(List.getElem?_eq_some_iff.mp hv').1;have hb:(bs.map V.bl)[i]?=some (.bl (bs.getD i false)):=by
   rw[getElem?_map,getElem?_eq_getElem (by rw[<- hlen];simpa using hi)];simp[List.getD,getElem?_eq_getElem (show i < bs.length by rw[<- hlen];simpa using hi)]
  obtain⟨u,hu,ru⟩:=rv.get hb;have e:u=v:=by rw[hv'] at hu;cases hu;rfl
  subst e
  cases ru
  exact wpAny_truthy_bool q'
 .intro h' tk kk;have e:(List.range its.toArray.size).all (λi=>bs.getD i false)=bs.all id:=by
   rw[hlen,Bool.eq_iff_iff,all_eq_true,all_eq_true];constructor
   .intro z b hb;obtain⟨i,hi,rfl⟩:=getElem_of_mem hb;have:=z i (mem_range.mpr hi);simpa[List.getD,getElem?_eq_getElem hi] using this
   .intro z i hi;have hi':=mem_range.mp hi;have:=z bs[i] (getElem_mem hi');simpa[List.getD,getElem?_eq_getElem hi'] using this
  rw[e];refine⟨.bl _,H,I.kept (t':=tk) λb o hb=>?_,rfl,q⟩;have hb2:b≠s.heap.objs.size:=Nat.ne_of_lt (Heap.lt_size hb);exact kk b o (by simpa using hb2) (Heap.get?_push_of_some _ hb)
end
inductive Ku {ι:Type} (C:ι->Addr) (m:Str) (sp:ι->Sp) (dvs:List V) (E:XK) (t:TA) (σ:St) (Q:VK) (x:V) (H1:Hp):Prop where
 |mk (i a dx fs):x=.ref a->H1 a=some (.ins (C i) dx fs)->fs.lookup m=none->(t σ H1 λvs H2=>sp i (x :: (vs++dvs)) H2 Q E)->Ku C m sp dvs E t σ Q x H1
def Sn {ι:Type}(C:ι->Addr)(m:Str)(sp:ι->Sp)(dvs:List V)(E:XK)(ta:TE)(t:TA):TE:=λσ H Q=>ta σ H λx H1=>Ku C m sp dvs E t σ Q x H1
section
variable {X:Cx} {ι:Type} {C f:ι->Addr} {fd:ι->FuncData} {sp:ι->Sp} {m:Str} {CX:CXT} {k:Nat} {ps:List Str} {ds:List Value} {dvs:List V} {E:XK} {o e:Expr} {es:List Expr} {ta:TE} {t:TA} {apos pos:Pos}
theorem Dm (he:PE X o ta)(c:∀i,Cls X.K (C i))(hm:∀i,dE X.K (C i) m (f i))(F:∀i,aL X.prog X.w X.K X.mg X.base CX k (f i) (fd i) ps (sp i))(hr:gQ k X.A)(hb:∀i,aM X.K (fd i) ps ds)(hd:cE dvs ds)(hx:jV CX X E)(ha:PA X (e :: es) t)(hst:starEach (e :: es) X.env=(false,eval e X.env) :: starEach es X.env:=by rfl)(hpl:(backTo pos (starEach es X.env)).any (·.1)=false:=by rfl)(ht:eval (.Call (.Attribute o m apos) (e :: es) [] pos) X.env=(do
   let ov <- eval o X.env
   standAt apos.atName
   let (f,first) <- holding [ov] (getMethod ov m pl)
   callWith pos f first (backTo pos (starEach (e :: es) X.env)) (backToKw pos (keywordEach [] X.env))):=by rfl):
  PE X (.Call (.Attribute o m apos) (e :: es) [] pos) (Sn C m sp dvs E ta t):=by
 intro pins s σ H Q I h;refine W.methodCall_KW (pl:=pl) (thn (he pins s σ H _ I h) λu s1 ⟨x,H1,I1,rx,i,a,dx,fs,ex,ea,l,q⟩=>?_) ht;subst ex;obtain rfl:u=Value.ref a:=rx;refine iT I1 ea (c i) (hm i) l ?_;refine W.callWith_K (first:=[.ref a]) (h₀:=X.base) I.ok.mod.kin (hm i).kp (thn (ha pos pins s1 σ H1 _ I1 q) λus s2 ⟨vs,H2,I2,r,q2⟩=>⟨I2.kIn,?_⟩) hst hpl;exact wS (us:=.ref a :: us) (vs:=.ref a :: vs) (F i) hr (hb i) hd hx I2 (.cons rfl r) q2
theorem eJ (he:PE X o ta)(c:∀i,Cls X.K (C i))(hm:∀i,dE X.K (C i) m (f i))(F:∀i,aL X.prog X.w X.K X.mg X.base CX k (f i) (fd i) ps (sp i))(hr:gQ k X.A)(hb:∀i,aM X.K (fd i) ps ds)(hd:cE dvs ds)(hx:jV CX X E)(ht:eval (.Call (.Attribute o m apos) [] [] pos) X.env=(do
   let ov <- eval o X.env
   standAt apos.atName
   let (f,first) <- holding [ov] (getMethod ov m pl)
   callWith pos f first (backTo pos (starEach [] X.env)) (backToKw pos (keywordEach [] X.env))):=by rfl):
  PE X (.Call (.Attribute o m apos) [] [] pos) (Sn C m sp dvs E ta qh6):=by
 intro pins s σ H Q I h;refine W.methodCall_KW (pl:=pl) (thn (he pins s σ H _ I h) λu s1 ⟨x,H1,I1,rx,i,a,dx,fs,ex,ea,l,q⟩=>?_) ht;subst ex;obtain rfl:u=Value.ref a:=rx;refine iT I1 ea (c i) (hm i) l ?_;exact W.callWith_K0 (first:=[.ref a]) I1.kIn (hm i).kp (wS (us:=[.ref a]) (vs:=[.ref a]) (F i) hr (hb i) hd hx I1 (.cons rfl .nil) q)
end
inductive Kd where
 |pc | pu | ho
 deriving DecidableEq
def Kd.wd:Kd->Str
 | .pc=>"piece"
 | .pu=>"push"
 | .ho=>"hold"
def Kd.cn:Kd->Str
 | .pc=>"Piece"
 | .pu=>"Push"
 | .ho=>"Hold"
theorem Kd.wd_inj {k j:Kd}(h:k.wd=j.wd):k=j:=by
 cases k<;>cases j<;>first | rfl | exact absurd h ∅
theorem fsg:¬(("start":Str) = "goal"):=by decide +kernel
theorem fsz:¬(("start":Str) = "size"):=by decide +kernel
theorem fgz:¬(("goal":Str) = "size"):=by decide +kernel
def kB (s g z:V):List (Str × V):=cP "size" z (cP "goal" g (cP "start" s []))
theorem dI (s g z:V):(kB s g z).lookup ("start":Str)=some s:=by
 unfold kB;rw[bH,if_neg fsz,bH,if_neg fsg,bH,if_pos rfl]
theorem dW (s g z:V):(kB s g z).lookup ("goal":Str)=some g:=by
 unfold kB;rw[bH,if_neg fgz,bH,if_pos rfl]
theorem eU (s g z:V):(kB s g z).lookup ("size":Str)=some z:=by
 unfold kB;rw[bH,if_pos rfl]
theorem cT (s g z:V){m:Str}(h1:¬m = "start")(h2:¬m = "goal")(h3:¬m = "size"):(kB s g z).lookup m=none:=by
 unfold kB;rw[bH,if_neg h3,bH,if_neg h2,bH,if_neg h1];rfl
def Rw (CK:Kd->Addr)(H:Hp)(x:Addr)(k:Kd)(s g z:V):Prop:=∃dx,H x=some (.ins (CK k) dx (kB s g z))
theorem Rw.same (e:aV H H')(h:Rw CK H x k s g z):Rw CK H' x k s g z:=let ⟨dx,q⟩:=h;⟨dx,e _ _ q⟩
theorem Rw.upd (h:Rw CK H x k s g z)(hl:H l=some (.lst ys)):Rw CK (L2.upd H l o) x k s g z:=let ⟨dx,q⟩:=h;⟨dx,by rw[aX (cZ q hl (λz=>by cases z))];exact q⟩
structure RT (K:Frag) (mg:Str->Option Value) (CR:Addr) (CK:Kd->Addr):Prop where
 cl:∀k,Cls K (CK k)
 nS:∀k,gJ K (CK k) "start"
 nG:∀k,gJ K (CK k) "goal"
 nZ:∀k,gJ K (CK k) "size"
 t1:∀k,W.findIn K (.ref (CK k)) "__class__"=some (some (.builtin "object.__class__"))
 t2:W.specialIn K (.builtin "object.__class__") "__get__"=some (some (.builtin "getset_descriptor.__get__"))
 t3:W.takesIn K (.builtin "object.__class__")=some true
 t4:∀k,W.mroIn K (CK k) (.type "object")=some true
 isR:∀k,W.kitOne K (.ref (CK k)) (.ref CR)=some true
 isK:∀k j,W.kitOne K (.ref (CK k)) (.ref (CK j))=some (decide (k=j))
 mR:mg "Row"=some (.ref CR)
 mK:∀k,mg (Kd.cn k)=some (.ref (CK k))
section
variable {K:Frag} {mg:Str->Option Value} {CR:Addr} {CK:Kd->Addr} {H:Hp} {x:Addr} {k:Kd} {s g z:V}
theorem Rw.new (h1:H x=none)(h2:H dx=none)(ne:dx≠x):aV H (L2.upd (L2.upd H dx (.own x)) x (.ins C dx fs)):=λb o e=>by
 rw[aX (aQ e h1),aX (aQ e h2)];exact e
end
inductive vC (CK:Kd->Addr) (vs:List V) (H:Hp) (Q:VK) (E:XK):Prop where
 |mk (x dx:Addr) (k:Kd) (s g z:V):vs=[.ref x,s,g,z]->H x=some (.ins (CK k) dx [])->Q .non (upd H x (.ins (CK k) dx (kB s g z)))->vC CK vs H Q E
inductive iM (k:Kd) (vs:List V) (H:Hp) (Q:VK) (E:XK):Prop where
 |mk (x):vs=[x]->Q (.str k.wd) H->iM k vs H Q E
inductive oC (k:Kd) (vs:List V) (H:Hp) (Q:VK) (E:XK):Prop where
 |mk (x):vs=[x]->Q (.bl (decide (k≠.pu))) H->oC k vs H Q E
inductive uJ (CK:Kd->Addr) (vs:List V) (H:Hp) (Q:VK) (E:XK):Prop where
 |mk (x:Addr) (k:Kd) (s g z:V):vs=[.ref x]->Rw CK H x k s g z->(∀t,H t=none->Q (.ref t) (upd H t (.tup [.str k.wd,s,g,z])))->uJ CK vs H Q E
def qt3 (CK:Kd->Addr)(H:Hp)(Q:VK)(k:Kd)(s g z:V):Prop:=∀x H',aV H H'->H x=none->Rw CK H' x k s g z->Q (.ref x) H'
theorem Gr {K:Frag}(h1:pK K H x d)(h2:pK K H y d)(hl:d.canLay0=true)(hd:d.depth<=16)(z:Q (.bl (!neg)) H):vS K neg x y H Q:=by
 refine⟨d,d,h1,h2,hl,hl,(),?_⟩;have e:PyData.eqv d d=true:=PySem.SeqAt.eqv_refl _ hl;rw[e]
 cases neg<;>exact z
def rd4 (w:Str)(i j:Int)(p:Q2):PyData:=.tuple [.str w,.int i,.int j,qd p]
theorem Ya (h:(PyData.str w).canLay0=true)(i j:Int)(p:Q2):(rd4 w i j p).canLay0=true:=by
 show ((PyData.str w).canLay0 && ((PyData.int i).canLay0 && ((PyData.int j).canLay0 && ((qd p).canLay0 && true))))=true;rw[h];rfl
theorem Kd.lay (k:Kd):(PyData.str k.wd).canLay0=true:=by cases k<;>decide +kernel
theorem ifT {A B:Prop}(h:c=true)(x:A):if c=true then A else B:=by rw[if_pos h];exact x
theorem ifF {A B:Prop}(h:c=false)(x:B):if c=true then A else B:=by rw[if_neg (by rw[h];decide)];exact x
theorem Yc {K:Frag}(h:SqT K H t [.str w,.int i,.int j,.ref a])(f:Fq K H a p):pK K H (.ref t) (rd4 w i j p):=.tup h (.cons (.str _) (.cons (.int _) (.cons (.int _) (.cons f.dat .nil))))
theorem dF (k j:Kd):decide (V.str k.wd=V.str j.wd)=decide (k=j):=by
 by_cases h:k=j
 .subst h;simp
 .rw[decide_eq_false h];exact decide_eq_false λz=>h (Kd.wd_inj (V.str.inj z))
theorem jD {p:Kd->Prop}(a:p .pc)(b:p .pu)(c:p .ho):∀k,p k:=λk=>by cases k<;>assumption
theorem qC (K:Frag)(t:PySem.Value):PySem.W.kitOne K t t=some true:=by unfold PySem.W.kitOne;rw[if_pos (beq_self_eq_true _)]
def kd3 {α:Type}(a b c:α):Kd->α
 | .pc=>a
 | .pu=>b
 | .ho=>c
end L2
namespace Mq
def eI (ps:List Q2):Prop:=∀p∈ps,Low p
end Mq
open Mq (eI)
namespace L2
open PySem PySem.Spec PyProof.Rows
section
variable {κ:Type} [DecidableEq κ]
def qF (kvs:List (κ × V))(k:κ):Option V:=(kvs.find? λkv=>decide (kv.1=k)).map (·.2)
def lU (kvs:List (κ × V))(k:κ)(v:V):List (κ × V):=
 if (kvs.any λkv=>decide (kv.1=k))=true then kvs.map (λkv=>if kv.1=k then (kv.1,v) else kv) else kvs++[(k,v)]
theorem rE {p:κ × V}(e:p.1=k):qF (p :: r) k=some p.2:=by simp[qF,find?_cons,e]
theorem mL {p:κ × V}(e:¬p.1=k):qF (p :: r) k=qF r k:=by simp[qF,find?_cons,e]
theorem De (k:κ):∀kvs:List (κ × V),(kvs.any λkv=>decide (kv.1=k))=(qF kvs k).isSome
 | []=>rfl
 |p :: r=>by
  rw[any_cons]
  by_cases e:p.1=k
  .simp only[rE e,decide_eq_true e,Bool.true_or,Option.isSome_some]
  .rw[mL e,decide_eq_false e,Bool.false_or];exact De k r
theorem mF (kvs:List (κ × V))(k:κ)(v:V):(lU kvs k v).length<=kvs.length+1:=by
 unfold lU;split
 .rw[length_map];lia
 .rw[List.length_append,length_cons,length_nil];lia
theorem lG.isSome_eq (r:lG o u):o.isSome=u.isSome:=by
 cases o with
 |none=>cases u with
  |none=>rfl
  |some _=>exact(show False from r).elim
 |some _=>cases u with
  |none=>exact(show False from r).elim
  |some _=>rfl
theorem lG.getD (r:lG o u)(rd:cG d d'):cG (o.getD d) (u.getD d'):=by
 cases o with
 |none=>cases u with
  |none=>exact rd
  |some _=>exact(show False from r).elim
 |some _=>cases u with
  |none=>exact(show False from r).elim
  |some _=>exact r
theorem KV.val (r:KV kvs vs)(k:κ):lG (qF kvs k) (valueAt vs k):=by
 unfold KV at r
 induction r with
 |nil=>exact True.intro
 | @cons p q ps qs h t ih=>
  obtain⟨h1,h2⟩:=h
  by_cases e:p.1=k
  .have e':q.1=k:=h1.symm.trans e;have b:valueAt (q :: qs) k=some q.2:=by simp[valueAt,find?_cons,e']
   rw[rE e,b];exact h2
  .have e':¬q.1=k:=λz=>e (h1.trans z);have b:valueAt (q :: qs) k=valueAt qs k:=by simp[valueAt,find?_cons,e']
   rw[mL e,b];exact ih
theorem KV.any (r:KV kvs vs)(k:κ):(kvs.any λkv=>decide (kv.1=k))=vs.any λkv=>decide (kv.1=k):=by
 unfold KV at r
 induction r with
 |nil=>rfl
 |cons h t ih=>rw[any_cons,any_cons,ih,h.1]
theorem KV.repl (r:KV kvs vs)(k:κ)(ry:cG y u):
  KV (kvs.map λkv=>if kv.1=k then (kv.1,y) else kv) (vs.map λkv=>if kv.1=k then (kv.1,u) else kv):=by
 unfold KV at r ⊢
 induction r with
 |nil=>exact .nil
 | @cons p q ps qs h t ih=>
  rw[map_cons,map_cons];refine .cons ?_ ih;obtain⟨h1,h2⟩:=h
  by_cases e:p.1=k
  .rw[if_pos e,if_pos (h1.symm.trans e)];exact⟨h1,ry⟩
  .rw[if_neg e,if_neg (λz=>e (h1.trans z))];exact⟨h1,h2⟩
theorem KV.put (r:KV kvs vs)(k:κ)(ry:cG y u):KV (lU kvs k y) (stored vs k u):=by
 unfold lU stored;rw[r.any k]
 by_cases e:(vs.any λkv=>decide (kv.1=k))=true
 .rw[if_pos e,if_pos e];exact r.repl k ry
 .rw[if_neg e,if_neg e];exact Paired.snoc r ⟨rfl,ry⟩
theorem KV.length {kvs:List (κ × V)}(r:KV kvs vs):kvs.length=vs.length:=Paired.length r
end
theorem yZ (r:cG (kV k) u):(eP P w).is k u=true:=by
 cases k with
 |inl i=>obtain⟨t,e⟩:=(show ∃t,u=Value.int i t from r);subst e;exact Dp P w i t
 |inr x=>obtain⟨t,e⟩:=(show ∃t,u=Value.str x t from r);subst e;exact Ei P w x t
theorem yM:∀{ks:List Key} {us:List Value},cE (ks.map kV) us->ItemsAre (eP P w) ks us
 | [],_,r=>by rw[map_nil] at r;cases r;exact .nil
 |k :: ks,_,r=>by
  rw[map_cons] at r
  cases r with
  |cons h t=>exact .cons (yZ h) (yM t)
abbrev KT (H:Hp):List (List Key × V)->List (List Key × Addr × Value)->Prop:=Paired λp q=>p.1=q.1/\H q.2.1=some (.tup (p.1.map kV))/\cG p.2 q.2.2
theorem KT.val (r:KT H kvs xs)(k:List Key):lG (qF kvs k) ((atKey xs k).map (·.2)):=by
 induction r with
 |nil=>exact True.intro
 | @cons p q ps qs h t ih=>
  obtain⟨h1,_,h2⟩:=h
  by_cases e:p.1=k
  .have e':q.1=k:=h1.symm.trans e;have b:atKey (q :: qs) k=some q.2:=by simp[atKey,find?_cons,e']
   rw[rE e,b];exact h2
  .have e':¬q.1=k:=λz=>e (h1.trans z);have b:atKey (q :: qs) k=atKey qs k:=by simp[atKey,find?_cons,e']
   rw[mL e,b];exact ih
theorem KT.repl (r:KT H kvs xs)(k:List Key)(ry:cG y u):
  KT H (kvs.map λkv=>if kv.1=k then (kv.1,y) else kv) (xs.map (putAt k u)):=by
 induction r with
 |nil=>exact .nil
 | @cons p q ps qs h t ih=>
  rw[map_cons,map_cons];refine .cons ?_ ih;obtain⟨h1,h2,h3⟩:=h;unfold putAt
  by_cases e:p.1=k
  .rw[if_pos e,if_pos (h1.symm.trans e)];exact⟨h1,h2,ry⟩
  .rw[if_neg e,if_neg (λz=>e (h1.trans z))];exact⟨h1,h2,h3⟩
theorem KT.put (r:KT H kvs xs)(k:List Key)(hb:H b=some (.tup (k.map kV)))(ry:cG y u):
  KT H (lU kvs k y) (storedH xs k b u):=by
 have e:(kvs.any λkv=>decide (kv.1=k))=(atKey xs k).isSome:=by
  rw[De,(r.val k).isSome_eq,Option.isSome_map]
 unfold lU storedH;rw[e]
 by_cases q:(atKey xs k).isSome=true
 .rw[if_pos q,if_pos q];exact r.repl k ry
 .rw[if_neg q,if_neg q];exact Paired.snoc r ⟨rfl,hb,ry⟩
theorem KT.keeps (r:KT H kvs xs)(ht:∀b ys,H b=some (.tup ys)->H' b=some (.tup ys)):KT H' kvs xs:=
 Paired.mapP r λ_ _ z=>⟨z.1,ht _ _ z.2.1,z.2.2⟩
section
variable {P:Program} {w:World} {H:Hp} {h:Heap} {a:Addr}
theorem Yq (ok:HOk P w H h)(e:Rd H a u):dP P w H h a u:=e.ok ok
theorem yY (ok:HOk P w H h)(e:Rd H a (.dK kvs)):kvs.length<=sizeLine/\(a == sysModules)=false/\∃vs,KV kvs vs/\h.DictOf (eP P w) a vs:=
 show dP P w H h a (.dK kvs) from Yq ok e
theorem Yo (ok:HOk P w H h)(e:H a=some (.dK kvs)):kvs.length<=sizeLine/\(a == sysModules)=false/\∃vs,KV kvs vs/\h.DictOf (eP P w) a vs:=yY ok (.inl e)
theorem xH (ok:HOk P w H h)(e:H a=some (.tup (ks.map kV))):(tupleKind (eP P w)).is h ks a:=by
 obtain⟨_,its,r,o,h1,h2,n,h3⟩:=(show dP P w H h a (.tup (ks.map kV)) from ok a _ e)
 exact⟨o,its.toArray,n,h1,h2,h3,by simpa using yM r⟩
theorem zT (ok:HOk P w H h)(e:Rd H a (.dT kvs)):kvs.length<=sizeLine/\(a == sysModules)=false/\
  ∃xs,KT H kvs xs/\h.DictOfH (tupleKind (eP P w)) a xs:=by
 obtain⟨z,y,xs,r,o,es,ep,h1,h2,h3,h4,h5⟩:=(show dP P w H h a (.dT kvs) from Yq ok e)
 refine⟨z,y,xs,r,o,es,ep,h1,h2,h3,h4,λx hx=>?_,h5⟩;have all:∀{l:List (List Key × V)} {m:List (List Key × Addr × Value)},KT H l m->∀x∈m,(tupleKind (eP P w)).is h x.1 x.2.1:=by
  intro l m q
  induction q with
  |nil=>intro x hx;exact nomatch hx
  | @cons p q ps qs hq t ih=>
   intro x hx;rcases mem_cons.mp hx with e | hx
   .subst e;exact xH ok (by rw[<- hq.1];exact hq.2.1)
   .exact ih x hx
 exact all r x hx
theorem qp0 (ok:HOk P w H h)(e:H a=some (.dT kvs)):kvs.length<=sizeLine/\(a == sysModules)=false/\
  ∃xs,KT H kvs xs/\h.DictOfH (tupleKind (eP P w)) a xs:=zT ok (.inl e)
end
def kD (H:Hp)(a:Addr)(y:V)(r:Option V):Prop:=
 (∃kvs k,Rd H a (.dK kvs)/\y=kV k/\r=qF kvs k)\/∃kvs k b,Rd H a (.dT kvs)/\y=.ref b/\H b=some (.tup (k.map kV))/\r=qF kvs k
def Rp (H:Hp)(a:Addr)(y v:V)(H':Hp):Prop:=
 (∃kvs k,H a=some (.dK kvs)/\y=kV k/\kvs.length < sizeLine/\H'=upd H a (.dK (lU kvs k v)))\/
 ∃kvs k b,H a=some (.dT kvs)/\y=.ref b/\H b=some (.tup (k.map kV))/\kvs.length < sizeLine/\H'=upd H a (.dT (lU kvs k v))
theorem kD.k {k:Key}(e:H a=some (.dK kvs)):kD H a (kV k) (qF kvs k):=.inl ⟨kvs,k,.inl e,rfl,rfl⟩
theorem Rp.k {k:Key}(e:H a=some (.dK kvs))(hl:kvs.length < sizeLine):Rp H a (kV k) v (upd H a (.dK (lU kvs k v))):=.inl ⟨kvs,k,e,rfl,hl,rfl⟩
section
variable {X:Cx} {pins:List (Addr × Obj)} {σ:St} {H:Hp} {s:Shared} {a:Addr} {y v:V} {u r:Value} {o:Option V} {A:Around} {E:Value->Shared->Prop}
theorem Inv.big (I:Inv X pins σ H s):sysModules < s.heap.objs.size:=by
 have h:mainGlobals < s.heap.objs.size:=(I.mod.glob.keeps I.bk).lt;exact Nat.lt_trans ∅ h
theorem Mv (hu:A.units+1 < cLine)(I:Inv X pins σ H s)(g:kD H a y (some v))(ry:cG y u)(h:∀w' s',Inv X pins σ H s'->cG v w'->Q w' s'):
  wpAny (model X.prog X.w) A (getItem (.ref a) u) Q E s:=by
 rcases g with ⟨kvs,k,e,ey,l⟩ | ⟨kvs,k,b,e,ey,eb,l⟩
 .subst ey;obtain⟨z,hd,vs,rel,dd⟩:=yY I.hok e;obtain⟨w',hw,rw'⟩:=lG.some_of (v:=v) (o:=valueAt vs k) (by rw[l];exact rel.val k);exact wpAny_getItem_of (yZ ry) dd.mapOf hw (h w' _ (I.tok _) rw')
 .subst ey
  cases (show u=Value.ref b from ry)
  obtain⟨z,hd,xs,rel,dd⟩:=zT I.hok e;obtain⟨w',hw,rw'⟩:=lG.some_of (v:=v) (o:=(atKey xs k).map (·.2)) (by rw[l];exact rel.val k);obtain⟨p,hp,hp2⟩:=Option.map_eq_some_iff.mp hw;refine wpAny_getItem_heap (tupleKind_room_in1 hu) (xH I.hok eb) dd hp ?_;rw[hp2];exact h w' _ (I.tok _) rw'
theorem Xb (hu:A.units+1 < cLine)(I:Inv X pins σ H s)(g:kD H a y o)(ry:cG y u)(h:∀s',Inv X pins σ H s'->Q (.bool (!o.isSome)) s'):
  wpAny (model X.prog X.w) A (compareOp .NotIn u (.ref a)) Q E s:=by
 rcases g with ⟨kvs,k,e,ey,l⟩ | ⟨kvs,k,b,e,ey,eb,l⟩
 .subst ey;obtain⟨z,hd,vs,rel,dd⟩:=yY I.hok e;refine wpAny_notIn_of (yZ ry) hd dd.mapOf ?_;rw[<- (rel.val k).isSome_eq,<- l];exact h _ (I.tok _)
 .subst ey
  cases (show u=Value.ref b from ry)
  obtain⟨z,hd,xs,rel,dd⟩:=zT I.hok e;refine wpAny_notIn_heap (tupleKind_room_in1 hu) (xH I.hok eb) hd dd ?_;have q:=(rel.val k).isSome_eq;rw[Option.isSome_map] at q;rw[<- q,<- l];exact h _ (I.tok _)
theorem An (I:Inv X pins σ H s)(mu:Mut (H a))(hs:Heap.SameBut a s.heap h')(he:∃q,h'.get? a=some q)(new:dP X.prog X.w (upd H a ob) h' a ob):
  Inv X pins σ (upd H a ob) { s with heap:=h',toks:=t' }:=
 I.write (x:=a) (e:=a) mu (.inl rfl) (λb q hb z=>(hs.2 b hb).trans z) he new
theorem Ug (z:kvs.length<=sizeLine)(hd:(a == sysModules)=false)(rel:KV kvs vs)(dd:h'.DictOf (eP P w) a vs):
  dP P w H' h' a (.dK kvs):=⟨z,hd,vs,rel,dd⟩
theorem Ng (hu:A.units+1 < cLine)(I:Inv X pins σ H s)(g:Rp H a y v H')(ry:cG y u)(rv:cG v r)(h:∀s',Inv X pins σ H' s'->Q .unit s'):
  wpAny (model X.prog X.w) A (setItem (.ref a) u r) Q E s:=by
 rcases g with ⟨kvs,k,e,ey,l,eH⟩ | ⟨kvs,k,b,e,ey,eb,l,eH⟩
 .subst ey eH;obtain⟨z,hd,vs,rel,dd⟩:=Yo I.hok e;have hz:vs.length<=sizeLine:=by rw[<- rel.length];exact z
  have hl:(lU kvs k v).length<=sizeLine:=by have:=mF kvs k v;lia
  refine wpAny_setItem_pairs (hsz:=hz) (yZ ry) dd λh' dd' hs=>h _ ?_;have he:∃q,h'.get? a=some q:=let ⟨q,_,_,hq,_⟩:=dd';⟨q,hq⟩
  exact An I (by rw[e];exact True.intro) hs he (Ug hl hd (rel.put k rv) dd')
 .subst ey eH
  cases (show u=Value.ref b from ry)
  obtain⟨z,hd,xs,rel,dd⟩:=qp0 I.hok e;have hz:xs.length<=sizeLine:=by rw[<- Paired.length rel];exact z
  have hl:(lU kvs k v).length<=sizeLine:=by have:=mF kvs k v;lia
  refine wpAny_setItem_heap (hsz:=hz) (tupleKind_room_in1 hu) (xH I.hok eb) dd λh' dd' hs=>h _ ?_;obtain⟨q,es,ep,hq,h2,h3,h4,_,h5⟩:=dd';refine An I (by rw[e];exact True.intro) hs ⟨q,hq⟩ ⟨hl,hd,_,(rel.put k eb rv).keeps λc ys ec=>?_,q,es,ep,hq,h2,h3,h4,h5⟩;rw[aX (cZ ec e (λz=>nomatch z))];exact ec
end
def qp8 (i:Expr):Prop:=∀ov iv,subscripted i false ov iv=operate [ov,iv] (getItem ov iv)
theorem Wc {T id:String}(hl:typeLookup (.type T) "__getitem__"=pure (some (.builtin id)))(hs:qp8 slice)(h:wpAny (model prog w) A (eval value env) (λo s₁=>wpAny (model prog w) A (eval slice env) (λi s₂=>s₂.TypeIs o T/\wpAny (model prog w) A (getItem o i) Q E s₂) E s₁) E s):
  wpAny (model prog w) A (eval (.Subscript value slice pos) env) Q E s:=by
 refine Subscript_ (wpAny_mono h (λo s₁ h₁=>wpAny_mono h₁ (λi s₂ h₂=>?_) λ_ _ x=>x) λ_ _ x=>x);obtain⟨hT,h₂⟩:=h₂;unfold subscriptTail;refine wpAny_bind ?_;rw[getitemInPython_of_ne hT.not_modules];refine wpAny_bind (wpAny_specialOf hT hl ?_);have fin:wpAny (model prog w) A (subscripted slice false o i) (λr s₃=>wpAny (model prog w) A (letTemporaryGo value o r >>= λ_=>pure r) Q E s₃) E s₂:=by
  rw[hs o i];exact wpAny_operating (wpAny_mono h₂ (λr s₃ h₃=>wpAny_bind (wpAny_letTemporaryGo (wpAny_pure h₃))) λ_ _ x=>x)
 first
  |exact wpAny_pure (wpAny_bind fin)
  |exact wpAny_bind (wpAny_pure (wpAny_bind fin))
  |exact wpAny_bind fin
theorem Ea (I:Inv X pins σ H s)(g:kD H a y o):s.TypeIs (.ref a) "dict":=by
 rcases g with ⟨kvs,k,e,_,_⟩ | ⟨kvs,k,b,e,_,_,_⟩
 .obtain⟨_,_,vs,_,dd⟩:=yY I.hok e;exact dd.typeIs
 .obtain⟨_,_,xs,_,dd⟩:=zT I.hok e;exact dd.typeIs
def qq0 (td ty:TE):TE:=λσ H Q=>td σ H λx H1=>ty σ H1 λy H2=>∃a v,x=.ref a/\kD H2 a y (some v)/\Q v H2
def Wp (ty td:TE):TE:=λσ H Q=>ty σ H λy H1=>td σ H1 λx H2=>∃a o,x=.ref a/\kD H2 a y o/\Q (.bl (!o.isSome)) H2
def ql3 (td ty tv:TE):TS:=λD σ H=>tv σ H λv H1=>td σ H1 λx H2=>ty σ H2 λy H3=>∃a H4,x=.ref a/\Rp H3 a y v H4/\D.nx σ H4
section
variable {X:Cx} {o i e value:Expr} {pos pos' tpos:Pos} {td ty tv:TE}
theorem kU (hu:X.A.units+1 < cLine)(ho:PE X o td)(hi:PE X i ty)(hs:qp8 i):PE X (.Subscript o i pos) (qq0 td ty):=by
 intro pins s σ H Q I h;refine Wc PySem.F.slot_dict_getitem.lookup hs (thn (ho pins s σ H _ I h) λu s1 ⟨x,H1,I1,rx,q1⟩=>thn (hi pins s1 σ H1 _ I1 q1) λiv s2 ⟨y,H2,I2,ry,a,v,ex,g,q2⟩=>?_);subst ex;obtain rfl:u=Value.ref a:=rx;exact⟨Ea I2 g,Mv hu I2 g ry λw' s3 I3 rw'=>⟨v,H2,I3,rw',q2⟩⟩
theorem Nq (hu:X.A.units+1 < cLine)(hi:PE X i ty)(ho:PE X o td):PC X .NotIn i o (Wp ty td):=by
 intro pins s σ H Q I h;refine thn (hi pins s σ H _ I h) λiv s1 ⟨y,H1,I1,ry,q1⟩=>thn (ho pins s1 σ H1 _ I1 q1) λu s2 ⟨x,H2,I2,rx,a,ov,ex,g,q2⟩=>?_;subst ex;obtain rfl:u=Value.ref a:=rx;exact Xb hu I2 g ry λs3 I3=>⟨.bl (!ov.isSome),H2,I3,rfl,q2⟩
theorem Vs (hu:X.A.units+1 < cLine)(ho:PE X o td)(hi:PE X i ty)(hv:PE X value tv)(hs:swapsWith value (some (.Subscript o i pos')) pos.line X.env=pure false) :
  PS X (.Assign [.Subscript o i pos'] value pos) (ql3 td ty tv):=by
 intro pins s σ H D I h;refine wpAny_Assign_Subscript (thn (hv pins s σ H _ I h) λr s1 ⟨v,H1,I1,rv,q1⟩=>thn (ho pins s1 σ H1 _ I1 q1) λu s2 ⟨x,H2,I2,rx,q2⟩=>thn (hi pins s2 σ H2 _ I2 q2) λiv s3 ⟨y,H3,I3,ry,a,H4,ex,g,q3⟩=>?_) hs;subst ex;obtain rfl:u=Value.ref a:=rx;exact Ng hu I3 g ry rv λs4 I4=>⟨σ,H4,I4,q3⟩
end
theorem Tj (h:Heap)(hb:sysModules < h.objs.size):dP P w H (h.push { cls:=.type "dict",data:=.dict #[] }) h.objs.size (.dK []):=
 ⟨Nat.zero_le _,beq_eq_false_iff_ne.mpr (Ne.symm (Nat.ne_of_lt hb)),[],.nil,Heap.DictOf.new h⟩
def Hs:List (TE × TE)->St->Hp->(List (V × V)->Hp->Prop)->Prop
 | [],_,H,Q=>Q [] H
 | (tk,tv) :: r,σ,H,Q=>tk σ H λx H1=>tv σ H1 λy H2=>Hs r σ H2 λps H3=>Q ((x,y) :: ps) H3
abbrev VV:List (V × V)->List (Value × Value)->Prop:=Paired λp q=>cG p.1 q.1/\cG p.2 q.2
def PPs (X:Cx)(pos:Pos)(keys:List (Option Expr))(values:List Expr)(trs:List (TE × TE)):Prop:=
 ∀(pins:List (Addr × Obj)) (s:Shared) (σ:St) (H:Hp) (Q:List (V × V)->Hp->Prop),Inv X pins σ H s->Hs trs σ H Q->
  wpAny (model X.prog X.w) X.A (evalPairs (pairTrees keys values X.env pos)) (λvs s'=>∃ps H',Inv X pins σ H' s'/\VV ps vs/\Q ps H') X.xe s
theorem Lg:PPs X pos [] [] []:=λpins s σ H Q I h=>pairTrees_nil_walk ⟨[],H,I,.nil,h⟩
theorem mI (hk:PE X k tk)(hv:PE X v tv)(hr:PPs X pos ks vs trs):
  PPs X pos (some k :: ks) (v :: vs) ((tk,tv) :: trs):=λpins s σ H Q I h=>
 pairTrees_cons_walk (thn (hk pins s σ H _ I h) λu s1 ⟨x,H1,I1,rx,q1⟩=>thn (hv pins s1 σ H1 _ I1 q1) λw2 s2 ⟨y,H2,I2,ry,q2⟩=>
  thn (hr pins s2 σ H2 _ I2 q2) λws s3 ⟨ps,H3,I3,rel,q3⟩=>⟨(x,y) :: ps,H3,I3,.cons ⟨rx,ry⟩ rel,q3⟩)
def jU (kvs more:List (Key × V)):List (Key × V):=more.foldl (λacc kv=>lU acc kv.1 kv.2) kvs
theorem KV.merge:∀{more:List (Key × V)} {rs:List (Key × Value)} {kvs:List (Key × V)} {vs:List (Key × Value)},KV more rs->KV kvs vs->KV (jU kvs more) (merged vs rs):=by
 intro more rs kvs vs r;unfold KV at r
 induction r generalizing kvs vs with
 |nil=>intro q;exact q
 | @cons p q ps qs h t ih=>
  intro r0;have e:KV (lU kvs p.1 p.2) (stored vs q.1 q.2):=by
   have:=r0.put p.1 h.2;rw[<- h.1];exact this
  exact ih e
theorem oV:∀(more kvs:List (Key × V)),(jU kvs more).length<=kvs.length+more.length
 | [],kvs=>by show kvs.length<=kvs.length+0;lia
 |p :: r,kvs=>by
  have h1:=oV r (lU kvs p.1 p.2);have h2:=mF kvs p.1 p.2;show (jU (lU kvs p.1 p.2) r).length<=_;rw[length_cons];lia
theorem xR:∀{kvs:List (Key × V)} {ws:List (Value × Value)},VV (kvs.map λkv=>(kV kv.1,kv.2)) ws->∃rs,Carries (eP P w) ws rs/\KV kvs rs
 | [],_,r=>by rw[map_nil] at r;cases r;exact⟨[],True.intro,.nil⟩
 |p :: kvs,_,r=>by
  rw[map_cons] at r
  cases r with
  | @cons a b as bs h t=>
   obtain⟨rs,c,q⟩:=xR (P:=P) (w:=w) t;obtain⟨b1,b2⟩:=b;exact⟨(p.1,b2) :: rs,⟨yZ h.1,rfl,c⟩,.cons ⟨rfl,h.2⟩ q⟩
def qn8 (trs:List (TE × TE)):TE:=λσ H Q=>∀p,H p=none->Hs trs σ (upd H p (.dK [])) λps H2=>H2 p=some (.dK [])/\∃kvs:List (Key × V),ps=kvs.map (λkv=>(kV kv.1,kv.2))/\kvs.length<=15/\Q (.ref p) (upd H2 p (.dK (jU [] kvs)))
theorem Jb (h:PPs X pos keys values trs)(hall:keys.all (·.isSome)=true)(hl:keys.length=values.length)(h0:keys≠[])(h15:keys.length<=15):PE X (.Dict keys values pos) (qn8 trs):=by
 intro pins s σ H Q I q;have hn:=I.hok.fresh (Nat.le_refl s.heap.objs.size);have I1:=I.laid (a:=s.heap.objs.size) (o:=.dK []) (h':=s.heap.push { cls:=.type "dict",data:=.dict #[] }) (t':=s.toks) (λ_ _ q=>Heap.get?_push_of_some _ q) (Nat.le_refl _) (Tj s.heap I.big);refine wpAny_Dict_walk (knd:=eP X.prog X.w) hall hl h0 h15 (thn (h pins _ σ _ _ I1 (q _ hn)) λws s2 ⟨ps,H2,I2,rel,e,kvs,ep,lk,q2⟩=>?_);subst ep;obtain⟨rs,c,rk⟩:=xR (P:=X.prog) (w:=X.w) rel;obtain⟨z,hd,vs0,r0,dd⟩:=Yo I2.hok e
 cases r0
 refine⟨rs,c,dd,λh' dd' hs=>⟨.ref s.heap.objs.size,_,?_,rfl,q2⟩⟩;have hz:(jU [] kvs).length<=sizeLine:=by
  have h1:=oV kvs [];rw[length_nil] at h1;rw[sizeLine_eq];lia
 have he:∃q,h'.get? s.heap.objs.size=some q:=let ⟨q,_,_,hq,_⟩:=dd';⟨q,hq⟩
 exact An I2 (by rw[e];exact True.intro) hs he (Ug hz hd (rk.merge .nil) dd')
structure M1 (X:Cx) (o:Expr) (m:Str) (apos:Pos) (e:Expr) (cpos:Pos):Prop where
 base:attributeBase o m X.env (eval o X.env)=eval o X.env
 few:((backTo cpos (starEach [e] X.env)).all (λx=>!x.1) && (backToKw cpos (keywordEach [] X.env)).all (λx=>x.1.isSome)
  && decide (([e]:List Expr).length+([]:List Keyword).length+(if ([]:List Keyword).isEmpty then 0 else 1) < 30))=true
 line:(apos.endLine == cpos.line)=true
 trees:backTo cpos (starEach [e] X.env)=[(false,eval e X.env)]
def IsD (H:Hp)(a:Addr):Prop:=(∃kvs,Rd H a (.dK kvs))\/∃kvs,Rd H a (.dT kvs)
theorem qc9 (I:Inv X pins σ H s)(d:IsD H a):
  s.TypeIs (.ref a) "dict"/\(∀b,Value.ref a=.ref b->∃ob,s.heap.get? b=some ob/\ob.dict=none)/\(a == sysModules)=false:=by
 rcases d with ⟨kvs,e⟩ | ⟨kvs,e⟩
 .obtain⟨_,hd,vs,_,dd⟩:=yY I.hok e;refine⟨dd.typeIs,λb q=>?_,hd⟩
  cases q
  obtain⟨ob,_,_,h1,h2,_⟩:=dd;exact⟨ob,h1,h2.2.1⟩
 .obtain⟨_,hd,xs,_,dd⟩:=zT I.hok e;refine⟨dd.typeIs,λb q=>?_,hd⟩
  cases q
  obtain⟨ob,_,_,h1,h2,_⟩:=dd;exact⟨ob,h1,h2.2.1⟩
section
variable {X:Cx} {pins:List (Addr × Obj)} {σ:St} {H:Hp} {s:Shared} {a:Addr} {y d:V} {u r:Value} {o:Option V} {A:Around} {E:Value->Shared->Prop}
theorem qd0 (hu:A.units+1 < cLine)(I:Inv X pins σ H s)(g:kD H a y o)(ry:cG y u)(h:∀w' s',Inv X pins σ H s'->cG (o.getD .non) w'->Q w' s'):
  wpAny (model X.prog X.w) A (call (.builtin "dict.get") [.ref a,u]) Q E s:=by
 rcases g with ⟨kvs,k,e,ey,l⟩ | ⟨kvs,k,b,e,ey,eb,l⟩
 .subst ey;obtain⟨z,hd,vs,rel,dd⟩:=yY I.hok e;refine call_meetsIn PySem.F.slot_dict_get dd.typeIs PySem.F.entry_dict_get (PySem.F.args_dict_get_2 _ _) (meets_dict_get (eP X.prog X.w) a (yZ ry) hd) ⟨_,dd.mapOf,h _ _ (I.tok _) ?_⟩;rw[l];exact(rel.val k).getD rfl
 .subst ey
  cases (show u=Value.ref b from ry)
  obtain⟨z,hd,xs,rel,dd⟩:=zT I.hok e;refine call_meetsIn PySem.F.slot_dict_get dd.typeIs PySem.F.entry_dict_get (PySem.F.args_dict_get_2 _ _) (meetsH_dict_get (tupleKind (eP X.prog X.w)) a b hd) ⟨tupleKind_room_in1 hu,k,xs,xH I.hok eb,dd,h _ _ (I.tok _) ?_⟩;rw[l];exact(rel.val k).getD rfl
end
def qi8 (td ty:TE):TE:=λσ H Q=>td σ H λx H1=>∃a,x=.ref a/\IsD H1 a/\ty σ H1 λy H2=>∃o,kD H2 a y o/\Q (o.getD .non) H2
section
variable {X:Cx} {o e f:Expr} {apos cpos:Pos} {td ty tx:TE}
theorem Pm (hu:X.A.units+1 < cLine)(ho:PE X o td)(he:PE X e ty)(m:M1 X o "get" apos e cpos):PE X (.Call (.Attribute o "get" apos) [e] [] cpos) (qi8 td ty):=by
 intro pins s σ H Q I h;refine wpAny_Call_method m.base m.few m.line PySem.F.plainAttrs_dict PySem.F.slot_dict_get PySem.F.type_dict_get (thn (ho pins s σ H _ I h) λu s1 ⟨x,H1,I1,rx,a,ex,d,q1⟩=>?_);subst ex;obtain rfl:u=Value.ref a:=rx;obtain⟨t1,t2,_⟩:=qc9 I1 d;refine⟨t1,t2,?_⟩;rw[m.trees];refine Calls.callWith_builtin rfl (Calls.evalArgs_plain (Calls.spliced_cons (thn (he pins s1 σ H1 _ I1 q1) λiv s2 ⟨y,H2,I2,ry,ov,g,q2⟩=>Calls.spliced_nil ?_)));exact qd0 hu I2 g ry λw' s3 I3 rw'=>⟨_,H2,I3,rw',q2⟩
end
def Nj:Kd->Q2->Q2->Q2->Q2
 | .pc,u,_,p=>lH u p
 | .pu,_,_,p=>p
 | .ho,_,v,_=>v
theorem Fq.mod {K:Frag}(l:K.lookup a=some ⟨.type "tuple",d,.seq #[.int i t,.int j u] n,sl⟩)(H:Hp):Fq K H a (i,j):=
 .inr ⟨_,_,_,l,rfl,rfl,(zl9 2),.cons ⟨_,rfl⟩ (.cons ⟨_,rfl⟩ .nil)⟩
abbrev RD:=Kd × Int × Int × Q2
inductive Rts (K:Frag) (H:Hp):List V->List RD->Prop where
 |nil:Rts K H [] []
 |cons {t z:Addr} {k:Kd} {i j:Int} {p:Q2} {xs:List V} {ds:List RD} (h:SqT K H t [.str k.wd,.int i,.int j,.ref z]) (f:Fq K H z p) (q:Rts K H xs ds):Rts K H (.ref t :: xs) ((k,i,j,p) :: ds)
section
variable {K:Frag} {H H':Hp}
theorem Rts.same (e:aV H H'):∀{xs:List V} {ds:List RD},Rts K H xs ds->Rts K H' xs ds
 |_,_,.nil=>.nil
 |_,_,.cons h f q=>.cons (e.seqT h) (e.fq f) (Rts.same e q)
theorem Rts.length:∀{xs:List V} {ds:List RD},Rts K H xs ds->xs.length=ds.length
 |_,_,.nil=>rfl
 |_,_,.cons _ _ q=>by simp[Rts.length q]
theorem Rts.app:∀{xs ys:List V} {ds es:List RD},Rts K H xs ds->Rts K H ys es->Rts K H (xs++ys) (ds++es)
 |_,_,_,_,.nil,r=>r
 |_,_,_,_,.cons h f q,r=>.cons h f (Rts.app q r)
theorem Rts.at:∀{xs:List V} {ds:List RD} {q:Nat} {d:RD},Rts K H xs ds->ds[q]?=some d->∃t z,xs[q]?=some (.ref t)/\SqT K H t [.str d.1.wd,.int d.2.1,.int d.2.2.1,.ref z]/\Fq K H z d.2.2.2
 |_,_,_,_,.nil,h=>by simp at h
 |_,_,0,_,.cons h f _,e=>by simp at e;subst e;exact⟨_,_,rfl,h,f⟩
 |_,_,i+1,_,.cons _ _ q,e=>by simpa using Rts.at q (by simpa using e)
theorem Rts.set (h:SqT K H t [.str k.wd,.int i,.int j,.ref z])(f:Fq K H z p):∀{xs:List V} {ds:List RD} (q:Nat),Rts K H xs ds->Rts K H (xs.set q (.ref t)) (ds.set q (k,i,j,p))
 |_,_,_,.nil=>.nil
 |_,_,0,.cons _ _ q=>.cons h f q
 |_,_,n+1,.cons a b q=>.cons a b (Rts.set h f n q)
theorem Rts.upd (hl:H l=some (.lst ys)):∀{xs:List V} {ds:List RD},Rts K H xs ds->Rts K (L2.upd H l o) xs ds
 |_,_,.nil=>.nil
 |_,_,.cons h f q=>.cons (h.upd hl) (f.upd hl) (Rts.upd hl q)
def rdd (d:RD):PyData:=rd4 d.1.wd d.2.1 d.2.2.1 d.2.2.2
theorem Rts.dat:∀{xs:List V} {ds:List RD},Rts K H xs ds->rF K H xs (ds.map rdd)
 |_,_,.nil=>.nil
 |_,_,.cons h f q=>.cons (Yc h f) (Rts.dat q)
theorem xD:∀ds:List RD,PyData.canLayAll0 (ds.map rdd)=true
 | []=>rfl
 |d :: r=>by
  show ((rdd d).canLay0 && PyData.canLayAll0 (r.map rdd))=true;rw[xD r,show (rdd d).canLay0=true from Ya (Kd.lay _) _ _ _];rfl
theorem vW:∀ds:List RD,PyData.depthAll (ds.map rdd)<=3
 | []=>by simp[PyData.depthAll]
 |d :: r=>by
  have b:=vW r;have a:(rdd d).depth<=3:=by simp[rdd,rd4,qd,PyData.depth,PyData.depthAll]
  simp only[map_cons,PyData.depthAll];lia
theorem Hq (h1:SqL K H a xs)(h2:SqL K H b ys)(f1:Rts K H xs ds)(f2:Rts K H ys ds)(z:Q (.bl (!neg)) H):vS K neg (.ref a) (.ref b) H Q:=
 Gr (d:=.list (ds.map rdd)) (.lst h1 f1.dat) (.lst h2 f2.dat) (xD ds) (by have:=vW ds;simp only[PyData.depth];lia) z
end
def bG (l:Addr)(H H':Hp):Prop:=∀b o,H b=some o->b≠l->H' b=some o
theorem aV.x (s:aV H H'):bG l H H':=λb o h _=>s b o h
theorem bG.trans (a:bG l H H1)(b:bG l H1 H2):bG l H H2:=λc o h n=>b c o (a c o h n) n
theorem bG.write (a:bG l H H1):bG l H (upd H1 l o):=λc u h n=>by rw[aX n];exact a c u h n
section
variable {K:Frag} {H H':Hp} {l:Addr}
theorem bG.seq (e:bG l H H')(n:a≠l)(h:SqL K H a xs):SqL K H' a xs:=by
 rcases h with (h | ⟨u,h⟩) | h
 .exact .inl (.inl (e _ _ h n))
 .exact .inl (.inr ⟨u,e _ _ h n⟩)
 .exact .inr h
theorem bG.seqT (hl:H l=some (.lst ys))(e:bG l H H')(h:SqT K H a xs):SqT K H' a xs:=by
 rcases h with (h | ⟨u,h⟩) | h
 .exact .inl (.inl (e _ _ h (cZ h hl (λz=>by cases z))))
 .exact .inl (.inr ⟨u,e _ _ h (cZ h hl (λz=>by cases z))⟩)
 .exact .inr h
theorem bG.rts (hl:H l=some (.lst ys))(e:bG l H H'):∀{xs:List V} {ds:List RD},Rts K H xs ds->Rts K H' xs ds
 |_,_,.nil=>.nil
 |_,_,.cons h f q=>.cons (e.seqT hl h) (e.seqT hl f) (bG.rts hl e q)
end
theorem fpk:¬(("point_count":Str) = "kept"):=by decide +kernel
def gP (m:Int)(l:Addr):List (Str × V):=cP "kept" (.ref l) (cP "point_count" (.int m) [])
theorem vE (m:Int)(l:Addr):(gP m l).lookup ("point_count":Str)=some (.int m):=by
 unfold gP;rw[bH,if_neg fpk,bH,if_pos rfl]
theorem eT (m:Int)(l:Addr):(gP m l).lookup ("kept":Str)=some (.ref l):=by
 unfold gP;rw[bH,if_pos rfl]
theorem cI (m:Int)(l:Addr){x:Str}(h1:¬x = "point_count")(h2:¬x = "kept"):(gP m l).lookup x=none:=by
 unfold gP;rw[bH,if_neg h2,bH,if_neg h1];rfl
theorem Na (m:Int)(l l':Addr):cP "kept" (.ref l') (gP m l)=gP m l':=by
 unfold gP;show cP "kept" (.ref l') (cP "kept" (.ref l) [(("point_count":Str),V.int m)])=cP "kept" (.ref l') [(("point_count":Str),V.int m)];show cP "kept" (.ref l') (if (("point_count":Str)) = "kept" then _ else _)=(if (("point_count":Str)) = "kept" then _ else _)
 rw[if_neg fpk,if_neg fpk];show (if (("point_count":Str)) = "kept" then _ else (("point_count":Str),V.int m) :: (if ("kept":Str) = "kept" then _ else _))=_;rw[if_neg fpk,if_pos rfl];rfl
theorem Mu (m:Int)(l:Addr):(gP m l).length<=2:=by
 unfold gP;have a:=dU ("kept":Str) (.ref l) (cP "point_count" (.int m) []);have b:=dU ("point_count":Str) (.int m) [];simp only[length_nil] at b;lia
def Ag (m:Int)(d:RD):Prop:=0<=d.2.1/\d.2.1 < m/\0<=d.2.2.1/\d.2.2.1 < m/\Low d.2.2.2/\(d.1=.pc->0 < d.2.2.2.1)/\Bd 1000 d.2.2.2
structure dG (CN:Addr) (K:Frag) (H:Hp) (n l:Addr) (m:Int) (ds:List RD):Prop where
 ob:∃dx,H n=some (.ins CN dx (gP m l))
 ls:∃ts,H l=some (.lst ts)/\Rts K H ts ds
theorem dG.same {K:Frag}(e:aV H H')(h:dG CN K H n l m ds):dG CN K H' n l m ds:=
 let ⟨⟨dx,a⟩,ts,b,c⟩:=h;⟨⟨dx,e _ _ a⟩,ts,e _ _ b,c.same e⟩
structure NT (K:Frag) (mg:Str->Option Value) (CN:Addr):Prop where
 cl:Cls K CN
 nP:gJ K CN "point_count"
 nK:gJ K CN "kept"
 t1:W.findIn K (.ref CN) "__class__"=some (some (.builtin "object.__class__"))
 t2:W.specialIn K (.builtin "object.__class__") "__get__"=some (some (.builtin "getset_descriptor.__get__"))
 t3:W.takesIn K (.builtin "object.__class__")=some true
 t4:W.mroIn K CN (.type "object")=some true
 mN:mg "Net"=some (.ref CN)
inductive lW (K:Frag) (CK:Kd->Addr) (vs:List V) (H:Hp) (Q:VK) (E:XK):Prop where
 |mk (t:Addr) (v s g z:V) (_:vs=[.ref t]) (_:SqT K H t [v,s,g,z]) (k:Kd):v=.str k.wd->qt3 CK H Q k s g z->lW K CK vs H Q E
inductive qh0 (vs:List V) (H:Hp) (Q:VK) (E:XK):Prop where
 |mk (i b:Int):vs=[.int i,.int b]->0<=i->i < b->Q (.bl true) H->qh0 vs H Q E
inductive qh3 (K:Frag) (vs:List V) (H:Hp) (Q:VK) (E:XK):Prop where
 |mk (k:Kd) (z:Addr) (p:Q2):vs=[.str k.wd,.ref z]->Fq K H z p->Low p->(k=.pc->0 < p.1)->Bd 1000 p->Q .non H->qh3 K vs H Q E
inductive vD (CN:Addr) (vs:List V) (H:Hp) (Q:VK) (E:XK):Prop where
 |mk (n dx:Addr) (m:Int):vs=[.ref n,.int m]->H n=some (.ins CN dx [])->1<=m->m<=20->(∀l H',H l=none->(∀b o,H b=some o->b≠n->H' b=some o)->H' n=some (.ins CN dx (gP m l))->H' l=some (.lst [])->Q .non H')->vD CN vs H Q E
inductive mB (CN:Addr) (K:Frag) (vs:List V) (H:Hp) (Q:VK) (E:XK):Prop where
 |mk (n l:Addr) (m:Int) (ds:List RD):vs=[.ref n]->dG CN K H n l m ds->Q (.int m) H->mB CN K vs H Q E
inductive Cp (CN:Addr) (K:Frag) (vs:List V) (H:Hp) (Q:VK) (E:XK):Prop where
 |mk (n l:Addr) (m:Int) (ds:List RD):vs=[.ref n]->dG CN K H n l m ds->Q (.int ds.length) H->Cp CN K vs H Q E
inductive Bw (CN:Addr) (K:Frag) (vs:List V) (H:Hp) (Q:VK) (E:XK):Prop where
 |mk (n l:Addr) (m:Int) (ds:List RD):vs=[.ref n]->dG CN K H n l m ds->(∀a ts H',aV H H'->H a=none->H' a=some (.lst ts)->Rts K H' ts ds->Q (.ref a) H')->Bw CN K vs H Q E
inductive Ke (CN:Addr) (K:Frag) (CK:Kd->Addr) (vs:List V) (H:Hp) (Q:VK) (E:XK):Prop where
 |mk (n l x z:Addr) (m:Int) (ds:List RD) (k:Kd) (i j:Int) (p:Q2):vs=[.ref n,.ref x]->dG CN K H n l m ds->Rw CK H x k (.int i) (.int j) (.ref z)->Fq K H z p->Ag m (k,i,j,p)->ds.length < 40->(∀H',bG l H H'->dG CN K H' n l m (ds++[(k,i,j,p)])->Q (.int ds.length) H')->Ke CN K CK vs H Q E
inductive wD (CN:Addr) (K:Frag) (vs:List V) (H:Hp) (Q:VK) (E:XK):Prop where
 |mk (n l z:Addr) (m q:Int) (ds:List RD) (k:Kd) (i j:Int) (p0 p:Q2):vs=[.ref n,.int q,.ref z]->dG CN K H n l m ds->0<=q->ds[q.toNat]?=some (k,i,j,p0)->Fq K H z p->Low p->(k=.pc->0 < p.1)->Bd 1000 p->(∀H',bG l H H'->dG CN K H' n l m (ds.set q.toNat (k,i,j,p))->Q .non H')->wD CN K vs H Q E
inductive wG (CN:Addr) (K:Frag) (vs:List V) (H:Hp) (Q:VK) (E:XK):Prop where
 |mk (n l:Addr) (m:Int) (ds:List RD):vs=[.ref n]->dG CN K H n l m ds->1<=m->m<=20->(∀n' l' H',aV H H'->H n'=none->H l'=none->dG CN K H' n' l' m ds->Q (.ref n') H')->wG CN K vs H Q E
theorem lQ (P:St->Hp->Prop)(h1:∀X:St->Hp->Prop,(∀σ' H',P σ' H'->X σ' H')->(a1) { D with nx:=X } σ H)(h2:∀σ' H',P σ' H'->u D σ' H'):(jL a1 (u)) D σ H:=h1 _ h2
theorem Ij (P:St->Hp->Prop)(h1:∀X:St->Hp->Prop,(∀σ' H',P σ' H'->X σ' H')->(jL a1 (a2)) { D with nx:=X } σ H)(h2:∀σ' H',P σ' H'->u D σ' H'):(jL a1 (jL a2 (u))) D σ H:=h1 _ h2
theorem qe0 (P:St->Hp->Prop)(h1:∀X:St->Hp->Prop,(∀σ' H',P σ' H'->X σ' H')->(jL a1 (jL a2 (a3))) { D with nx:=X } σ H)(h2:∀σ' H',P σ' H'->u D σ' H'):(jL a1 (jL a2 (jL a3 (u)))) D σ H:=h1 _ h2
theorem qs8 (P:St->Hp->Prop)(h1:∀X:St->Hp->Prop,(∀σ' H',P σ' H'->X σ' H')->(jL a1 (jL a2 (jL a3 (a4)))) { D with nx:=X } σ H)(h2:∀σ' H',P σ' H'->u D σ' H'):(jL a1 (jL a2 (jL a3 (jL a4 (u))))) D σ H:=h1 _ h2
theorem Lp (ns:List Int)(lo hi:Option Int):∃ms:List Int,jC (ns.map V.int) lo hi=ms.map V.int:=
 ⟨(ns.drop (HT.sIx (ns.map V.int).length 0 lo)).take (HT.sIx (ns.map V.int).length (ns.map V.int).length hi - HT.sIx (ns.map V.int).length 0 lo),by unfold jC;rw[map_take,map_drop]⟩
end L2
namespace Mq
def val (p:Q2):Rat:=(p.1:Rat) / (p.2:Rat)
theorem dZ {b:Int}(h:b≠0):(b:Rat)≠0:=λe=>h (Rat.intCast_inj.mp (by simpa using e))
theorem Fy {p:Q2}(hp:p.2≠0)(hb:b≠0)(h:p.1*b=t*p.2):val p=(t:Rat) / (b:Rat):=by
 unfold val;have h1:=dZ hp;have h2:=dZ hb;have h3:(p.1:Rat)*(b:Rat)=(t:Rat)*(p.2:Rat):=by rw[<- Rat.intCast_mul,<- Rat.intCast_mul,h]
 grind
theorem jO (hb:b≠0):val (red t b)=(t:Rat) / (b:Rat):=by
 have:=(gX (t:=t) hb).pos;exact Fy () hb (yO hb)
theorem Bv (hp:Low p)(hq:Low q)(h:val p=val q):p=q:=by
 refine Pw hp hq ?_;have p1:=dZ (show p.2≠0 by have:=hp.pos;lia);have q1:=dZ (show q.2≠0 by have:=hq.pos;lia);unfold val at h;have:(p.1:Rat)*(q.2:Rat)=(q.1:Rat)*(p.2:Rat):=by grind
 rw[<- Rat.intCast_mul,<- Rat.intCast_mul] at this;exact Rat.intCast_inj.mp this
theorem qO (hp:1<=p.2)(hq:1<=q.2):val (kT p q)=val p+val q:=by
 have p1:=dZ (show p.2≠0 by lia);have q1:=dZ (show q.2≠0 by lia);unfold kT;rw[jO (gZ hp hq),Rat.intCast_add,Rat.intCast_mul,Rat.intCast_mul,Rat.intCast_mul];unfold val;grind
theorem iF (hp:1<=p.2)(hq:1<=q.2):val (minus p q)=val p - val q:=by
 have p1:=dZ (show p.2≠0 by lia);have q1:=dZ (show q.2≠0 by lia);unfold minus;rw[jO (gZ hp hq),Rat.intCast_sub,Rat.intCast_mul,Rat.intCast_mul,Rat.intCast_mul];unfold val;grind
theorem rQ (hp:1<=p.2)(hq:1<=q.2):val (jB p q)=val p*val q:=by
 have p1:=dZ (show p.2≠0 by lia);have q1:=dZ (show q.2≠0 by lia);unfold jB;rw[jO (gZ hp hq),Rat.intCast_mul,Rat.intCast_mul];unfold val;grind
theorem qD (hp:1<=p.2)(hq:1<=q.2)(h0:q.1≠0):val (lH p q)=val p / val q:=by
 have p1:=dZ (show p.2≠0 by lia);have q1:=dZ (show q.2≠0 by lia);have q2:=dZ h0;unfold lH;rw[jO (uY hp h0),Rat.intCast_mul,Rat.intCast_mul];unfold val;grind
theorem tJ:val (0,1)=0:=by unfold val;simp;grind
theorem vY:val (1,1)=1:=by unfold val;simp;grind
theorem Jn (ht:0 < t)(hb:0 < b):0 < (red t b).1:=by
 have h1:=yO (t:=t) (b:=b) ();have h2:=(gX (t:=t) (b:=b) ()).pos;have h3:0 < t*(red t b).2:=Int.mul_pos ht ();rw[<- h1] at h3;exact Int.pos_of_mul_pos_left h3 ()
def rs (n:Nat)(F:Nat->Rat):Rat:=match n with
 |0=>0
 |n+1=>rs n F+F n
theorem aP {F G:Nat->Rat}(h:∀i,i < n->F i=G i):rs n F=rs n G:=by
 induction n with
 |zero=>rfl
 |succ n ih=>simp only[rs];rw[ih (λi hi=>h i ()),h n ()]
theorem dB (n:Nat)(F G:Nat->Rat):rs n (λi=>F i+G i)=rs n F+rs n G:=by
 induction n with
 |zero=>simp[rs];grind
 |succ n ih=>simp only[rs];rw[ih];grind
theorem dY (n:Nat)(c:Rat)(F:Nat->Rat):rs n (λi=>c*F i)=c*rs n F:=by
 induction n with
 |zero=>simp[rs]
 |succ n ih=>simp only[rs];rw[ih];grind
theorem iR (n:Nat)(F:Nat->Rat):rs n (λi=>- F i)=- rs n F:=by
 induction n with
 |zero=>simp[rs]
 |succ n ih=>simp only[rs];rw[ih];grind
theorem dR (n:Nat):rs n (λ_=>0)=0:=by
 induction n with
 |zero=>rfl
 |succ n ih=>simp only[rs];rw[ih];grind
theorem wO (n k:Nat)(F:Nat->Rat):rs n (λi=>if k=i then F i else 0)=if k < n then F k else 0:=by
 induction n with
 |zero=>simp[rs]
 |succ n ih=>
  simp only[rs];rw[ih]
  by_cases h1:k < n
  .rw[if_pos h1,if_neg (),if_pos ()];grind
  .by_cases h2:k=n
   .subst h2;rw[if_neg h1,if_pos rfl,if_pos ()];grind
   .rw[if_neg h1,if_neg h2,if_neg ()];grind
abbrev z0:Q2:=(0,1)
abbrev Row:=Nat × Nat × Q2
theorem eI.pos (h:eI ls):Pos ls:=λp hp=>(h p hp).pos
def pJ (L b:Int):Int:=Int.fdiv L (gc L b)*b
theorem oY (hL:1<=L)(hb:1<=b):1<=pJ L b/\(∃j,pJ L b=L*j)/\(∃k,pJ L b=k*b/\1<=k)/\pJ L b<=L*b:=by
 have gp:0 < gc L b:=xV ();have d1:gc L b ∣ L:=by unfold gc;exact Int.gcd_dvd_left ..
 have d2:gc L b ∣ b:=by unfold gc;exact Int.gcd_dvd_right ..
 obtain⟨k,hk⟩:=d1;obtain⟨j,hj⟩:=d2;have ek:Int.fdiv L (gc L b)=k:=gD () hk;have k1:1<=k:=by
  have:0 < gc L b*k:=by lia
  have:=Int.pos_of_mul_pos_right this ();lia
 unfold pJ;rw[ek];refine⟨?_,⟨j,?_⟩,⟨k,rfl,k1⟩,?_⟩
 .have:0 < k*b:=Int.mul_pos () ();lia
 .generalize gc L b=g at *
  rw[hk,hj];grind
 .have:k<=L:=by
   rw[hk];have:=Int.mul_le_mul_of_nonneg_right (show 1<=gc L b by lia) (show 0<=k by lia);lia
  exact Int.mul_le_mul_of_nonneg_right this ()
def dA (ps:List Q2):Int:=ps.foldl (λL p=>pJ L p.2) 1
theorem Nd (ps:List Q2)(p:Q2):dA (ps++[p])=pJ (dA ps) p.2:=by unfold dA;rw[foldl_append];rfl
theorem nX {ps:List Q2}(h:ps[i]?=some p):dA (ps.take (i+1))=pJ (dA (ps.take i)) p.2:=by
 rw[take_add_one,h];exact Nd _ _
theorem pL (hp:Pos ps)(hb:∀p∈ps,Bd n p):∀i,i<=ps.length->1<=dA (ps.take i)/\B (1+n*i) (dA (ps.take i))/\∀p∈ps.take i,∃k,dA (ps.take i)=k*p.2
 |0,_=>⟨by show (1:Int)<=1;lia,show (1:Nat) < 2 ^ (1+n*0) by simp,λp h=>by simp at h⟩
 |i+1,hi=>by
  obtain⟨h1,h2,h3⟩:=pL hp hb i ();have e:ps[i]?=some ps[i]:=getElem?_eq_getElem ();have mem:ps[i]∈ps:=getElem_mem _;rw[nX e];obtain⟨l1,⟨j,l2⟩,⟨k,l3,l4⟩,l5⟩:=oY h1 (hp _ mem);refine⟨l1,?_,λp hpp=>?_⟩
  .have:=h2.mul (hb _ mem).b;refine B.mono (n:=1+n*i+n) (this.le ?_) (by rw[Nat.mul_succ];lia);have h0:1<=ps[i].2:=hp _ mem;have:0<=dA (ps.take i)*ps[i].2:=Int.mul_nonneg () ();lia
  .rw[take_add_one,e] at hpp;rcases mem_append.mp hpp with z | z
   .obtain⟨q,hq⟩:=h3 p z;exact⟨q*j,by rw[l2,hq];grind⟩
   .have:p=ps[i]:=by simpa using z
    rw[this];exact⟨k,l3⟩
theorem uL (hp:Pos ps):1<=dA ps:=by
 have:∀(l:List Q2) (L:Int),1<=L->Pos l->1<=l.foldl (λL p=>pJ L p.2) L:=λl=>by
  induction l with
  |nil=>intro L h _;exact h
  |cons p l ih=>intro L h q;exact ih _ (oY h (q p ⋯)).1 λx hx=>q x (mem_cons_of_mem _ hx)
 exact this ps 1 () hp
def Er (L:Int)(p:Q2):Int:=p.1*Int.fdiv L p.2
def iw (ps:List Q2):List Int:=ps.map (Er (dA ps))
theorem Qh (h:1<=p.2)(e:L=k*p.2):((Er L p:Int):Rat)=val p*(L:Rat):=by
 have e1:Int.fdiv L p.2=k:=gD () (by rw[e,Int.mul_comm]);have n:=dZ (show p.2≠0 by lia);unfold Er val;rw[e1,e,Rat.intCast_mul,Rat.intCast_mul];grind
theorem yB (hp:Pos ps):∀p∈ps,∃k,dA ps=k*p.2:=λp hpp=>by
 have:∀(l:List Q2) (L:Int),1<=L->Pos l->(∃j,l.foldl (λL p=>pJ L p.2) L=L*j)/\∀p∈l,∃k,l.foldl (λL p=>pJ L p.2) L=k*p.2:=λl=>by
  induction l with
  |nil=>intro L h _;exact⟨⟨1,⋯⟩,λp h=>by simp at h⟩
  |cons q l ih=>
   intro L h hq;obtain⟨l1,⟨j,l2⟩,⟨k,l3,l4⟩,l5⟩:=oY h (hq q ⋯);obtain⟨⟨j2,i1⟩,i2⟩:=ih (pJ L q.2) l1 λx hx=>hq x (mem_cons_of_mem _ hx);refine⟨⟨j*j2,by rw[foldl_cons,i1,l2];grind⟩,λp hp=>?_⟩;rcases mem_cons.mp hp with rfl | hp
   .exact⟨k*j2,by rw[foldl_cons,i1,l3];grind⟩
   .exact i2 p hp
 exact(this ps 1 () hp).2 p hpp
def fP (X:List (List Q2)):Prop:=∀row∈X,Pos row
theorem Ox (h:Pos row)(j:Nat):1<=(row.getD j z0).2:=by
 rw[getD_eq_getElem?_getD]
 cases e:row[j]? with
 |none=>exact Int.le_refl 1
 |some v=>exact h v (mem_of_getElem? e)
end Mq
open Mq (Bv Er Jn aP dA dB dR dY dZ fP iF iR iw jO pL qD qO rQ tJ uL wO yB)
namespace L2
open PySem PySem.Spec PyProof.Rows
def Ite (K : Frag)(a : Addr) : It :=
  ⟨λi H => ∃ xs x, SqL K H a xs /\ xs[i]? = some x,
   λi H v H' => ∃ T x, v = .ref T /\ H T = none /\ H' = upd H T (.tup [.int (i : Int), x]) /\ ∀ xs, SqL K H a xs -> xs[i]? = some x,
   λi H => ∃ xs, SqL K H a xs /\ xs.length <= i⟩
def Zu (e it l:Addr)(i:Nat)(h:Heap):Prop:=e≠it/\(∃old,IsEnum h e it (i:Int) old)/\h.IsListIter it l i
theorem Mn {K:Frag}(e it l:Addr):
  Nm P w K (.Tuple elts kk tpos) (Ite K l) [e,it] e (Zu e it l) where
 mem:=by simp
 obj:=λi h st b hb=>by
  obtain⟨ne,⟨old,he⟩,⟨o1,e1,c1,d1⟩⟩:=st;simp only[mem_cons,not_mem_nil,or_false] at hb;rcases hb with rfl | rfl
  .exact⟨_,he,λv q=>by cases q⟩
  .exact⟨o1,e1,λv q=>by rw[d1] at q;cases q⟩
 keep:=λi h h' st k=>by
  obtain⟨ne,⟨old,he⟩,⟨o1,e1,c1,d1⟩⟩:=st;exact⟨ne,⟨old,k _ ⋯ _ he⟩,⟨o1,k _ ⋯ _ e1,c1,d1⟩⟩
 item:=by
  intro X hP hw hK hc i pins s σ H E I hf st hg;subst hP hw hK;obtain⟨ne,⟨old,he⟩,t1⟩:=st;obtain⟨xs,x,hx,ex⟩:=hg;obtain⟨its1,rv1,p1,z1⟩:=I.list hx;obtain⟨u1,hu1,ru1⟩:=rv1.get ex;refine wpAny_pyNext_enum_item he t1 p1.isList (x:=u1) (by simpa using hu1) ne λh' g1 g2 g3 g4 kk'=>?_;have hn:H s.heap.objs.size=none:=I.hok.fresh (Nat.le_refl _);have lt:∀b∈[e,it],b < s.heap.objs.size:=λb hb=>by
   simp only[mem_cons,not_mem_nil,or_false] at hb;obtain⟨o1,e1,_⟩:=t1;rcases hb with rfl | rfl
   .exact Heap.lt_size he
   .exact Heap.lt_size e1
  have I1:Inv X pins σ (upd H s.heap.objs.size (.tup [.int (i:Int),x])) { s with heap:=s.heap.push { cls:=.type "tuple",data:=.seq #[.int i s.toks,u1] },toks:=s.toks+1 }:=
   I.laid (t':=s.toks+1) (λb o e=>Heap.get?_push_of_some _ e) (Nat.le_refl _) (show dP X.prog X.w _ _ _ (.tup [.int (i:Int),x]) from ⟨zl9 2,[.int i s.toks,u1],.cons ⟨_,rfl⟩ (.cons ru1 .nil),IsTup.new _ _⟩)
  have hf1:∀b∈[e,it],oQ X pins (upd H s.heap.objs.size (.tup [.int (i:Int),x])) b:=λb hb=>⟨by rw[aX (Nat.ne_of_lt (lt b hb))];exact(hf b hb).1,(hf b hb).2⟩
  have k1:∀b o,b∉[e,it]->(s.heap.push { cls:=.type "tuple",data:=.seq #[.int i s.toks,u1] }).get? b=some o->h'.get? b=some o:=λb o nb e=>by
   simp only[mem_cons,not_mem_nil,or_false,not_or] at nb
   by_cases hb:b=s.heap.objs.size
   .subst hb;rw[Heap.get?_push_size _ rfl] at e
    cases e
    exact g3
   .have e0:s.heap.get? b=some o:=by rw[Heap.get?_push_ne _ _ _ hb] at e;exact e
    exact kk' b o nb.1 nb.2 e0
  have I2:Inv X pins σ (upd H s.heap.objs.size (.tup [.int (i:Int),x])) { s with heap:=h',toks:=s.toks+1 }:=Inv.turnedL (s:={ s with heap:=s.heap.push { cls:=.type "tuple",data:=.seq #[.int i s.toks,u1] },toks:=s.toks+1 }) (t':=s.toks+1) I1 k1 hf1;refine⟨_,rfl,wpAny_letOwnedTupleGo_enum (s:={ s with heap:=h',toks:=s.toks+1 }) g1 λh2 q1 q2=>?_⟩;have kz:∀b o,b≠e->h'.get? b=some o->h2.get? b=some o:=λb o nb e=>(q2.2 b nb).trans e;have I3:Inv X pins σ (upd H s.heap.objs.size (.tup [.int (i:Int),x])) { s with heap:=h2,toks:=s.toks+1 }:=Inv.turnedL (s:={ s with heap:=h',toks:=s.toks+1 }) (t':=s.toks+1) (fp:=[e]) I2 (λb o nb e=>kz b o (by simpa using nb) e) λb hb=>hf1 b (by simp at hb;simp[hb]);obtain⟨o3,e3,c3,d3⟩:=g2;refine⟨.ref s.heap.objs.size,_,I3,rfl,⟨_,x,rfl,hn,rfl,λxs' h1=>?_⟩,⟨ne,⟨_,q1⟩,⟨o3,kz _ _ ne.symm e3,c3,d3⟩⟩,λb hb=>(hf1 b hb).1⟩;rw[I.list_inj h1 hx];exact ex
 done:=by
  intro X hP hw hK hc i pins s σ H E I hf st hg;subst hP hw hK;obtain⟨ne,⟨old,he⟩,t1⟩:=st;obtain⟨xs,hx,hor⟩:=hg;obtain⟨its1,rv1,p1,z1⟩:=I.list hx;have l1':=rv1.length;refine wpAny_pyNext_enum_end (I.ok.hd hc) he t1 p1.isList (by simp;lia) λh' kk'=>⟨rfl,?_⟩
  refine I.turnedL (t':=s.toks) (λb o nb e=>?_) hf;simp only[mem_cons,not_mem_nil,or_false,not_or] at nb;exact kk' b o nb.2 e
 self:=λA i s Q E st h=>by
  obtain⟨ne,⟨old,he⟩,t1⟩:=st;exact wpAny_pyIter_enum he h
section
variable {X:Cx}
def qp3 (K:Frag)(ta:TA):TI:=λσ H R=>ta σ H λvs H1=>∃a,vs=[.ref a]/\(∃xs,SqL K H1 a xs)/\R (Ite K a) H1
theorem uU (hg:Gl X "enumerate")(hm:X.mg "enumerate"=none)(hv:bootBuiltins "enumerate"=some (.type "enumerate"))(ha:PA X [e1] ta)(hs:starEach [e1] X.env=(false,eval e1 X.env) :: starEach [] X.env:=by rfl)(hpl:(backTo pos (starEach [] X.env)).any (·.1)=false:=by rfl):PI X (.Tuple elts kk tpos) (.Call (.Name "enumerate" p) [e1] [] pos) (qp3 X.K ta):=by
 intro pins s σ H R I h;refine Call_ (jR I hg hm hv (PyProof.Rows.callWith_type1 (thn (ha pos pins s σ H _ I h) λus s1 ⟨vs,H1,I1,r1,q1⟩=>?_) hs hpl));obtain⟨a,rfl,⟨xs,hx⟩,q⟩:=q1;obtain⟨u,rfl,ra⟩:=Du r1
 cases (show u=Value.ref a from ra)
 obtain⟨its1,rv1,p1,z1⟩:=I1.list hx;have la:a < s1.heap.objs.size:=by obtain⟨o,e,_⟩:=p1.isList;exact Heap.lt_size e
 refine call_enumerate_list p1.isList λh' g1 g2 g3 kk'=>?_;refine wpAny_pyIter_enum g1 ?_;refine⟨s1.heap.objs.size+1,[s1.heap.objs.size+1,s1.heap.objs.size],_,Ite X.K a,H1,rfl,I1.kept (t':=s1.toks) kk',Mn _ _ a,⟨?_,⟨_,g1⟩,g2⟩,λc hc=>?_,q⟩
 .exact Nat.succ_ne_self _
 .have hle:s1.heap.objs.size<=c:=by
   simp only[mem_cons,not_mem_nil,or_false] at hc;rcases hc with rfl | rfl<;>first | exact Nat.le_add_right _ _ | exact Nat.le_refl _
  exact I1.fpOk hle (I1.hok.fresh hle)
theorem Eo {K:Frag}{g:TG}{tb:TS}{D:jW}(Pv:Nat->St->Hp->Prop)(h0:Pv 0 σ H)(hl:∀i σ H,i<=xs.length->Pv i σ H->SqL K H a xs)(hs:∀i x σ H T,xs[i]?=some x->Pv i σ H->H T=none->g (.ref T) σ (upd H T (.tup [.int (i:Int),x])) λσ2 H2=>tb { D with nx:=Pv (i+1),ct:=Pv (i+1),bk:=D.nx } σ2 H2)(hd:∀σ H,Pv xs.length σ H->D.nx σ H):
  ∃W:Nat->Nat->St->Hp->Prop,(∃m,W 0 m σ H)/\∀i m σ H,W i m σ H->
   ((Ite K a).stop i H/\D.nx σ H)\/((Ite K a).go i H/\∃N:St->Hp->Prop,(∀σ' H',N σ' H'->∃m',m' < m/\W (i+1) m' σ' H')/\∀x H',(Ite K a).yld i H x H'->g x σ H' λσ2 H2=>tb { D with nx:=N,ct:=N,bk:=D.nx } σ2 H2):=by
 refine⟨λi m σ H=>m=xs.length - i/\i<=xs.length/\Pv i σ H,⟨_,rfl,Nat.zero_le _,h0⟩,?_⟩;rintro i m σ H ⟨rfl,hi,p⟩;have qx:=hl i σ H hi p
 by_cases hlt:i < xs.length
 .refine .inr ⟨⟨xs,xs[i],qx,by simp[hlt]⟩,Pv (i+1),λσ' H' p'=>⟨xs.length - (i+1),(),rfl,hlt,p'⟩,λv H' z=>?_⟩;obtain⟨T,x,rfl,hT,rfl,hh⟩:=z;exact hs i x σ H T (hh xs qx) p hT
 .have e:i=xs.length:=by lia
  subst e;exact .inl ⟨⟨xs,qx,Nat.le_refl _⟩,hd σ H p⟩
theorem yU {K:Frag}(Pv:Nat->List V->Hp->Prop)(h0:Pv 0 [] (upd H1 D (.lst [])))(hl:∀i zs H,Pv i zs H->H D=some (.lst zs))(hx:∀i zs H,i<=xs.length->Pv i zs H->SqL K H a xs)(hs:∀i zs x H T,xs[i]?=some x->Pv i zs H->H T=none->∀(C:Nat->List V->Hp->Prop),(∀zs H,Pv (i+1) zs H->C (i+1) zs H)->Ky nl fr g tt te σ D C i zs (.ref T) (upd H T (.tup [.int (i:Int),x])))(hd:∀zs H,Pv xs.length zs H->Q (.ref D) H):
  Em (Ite K a) nl fr g tt te σ D H1 Q:=by
 refine⟨λi m zs H=>m=xs.length - i/\i<=xs.length/\Pv i zs H,⟨_,rfl,Nat.zero_le _,h0⟩,?_⟩;rintro i m zs H ⟨rfl,hi,p⟩;refine⟨hl i zs H p,?_⟩;have qx:=hx i zs H hi p
 by_cases hlt:i < xs.length
 .refine .inr ⟨⟨xs,xs[i],qx,by simp[hlt]⟩,λv H' z=>?_⟩;obtain⟨T,x,rfl,hT,rfl,hh⟩:=z;exact hs i zs x H T (hh xs qx) p hT (λj zs Hz=>∃m',m' < xs.length - i/\m'=xs.length - j/\j<=xs.length/\Pv j zs Hz) λzs Hz z=>⟨xs.length - (i+1),(),rfl,hlt,z⟩
 .have e:i=xs.length:=by lia
  subst e;exact .inl ⟨⟨xs,qx,Nat.le_refl _⟩,hd zs H p⟩
end
end L2
namespace Shp
open PySem L2
theorem Vb (h:0 < b):dvr t b=gc t b:=by unfold dvr;rw[if_neg ()]
inductive Fmx (K:Frag) (D:Addr) (H:Hp):List V->List (List Q2)->Prop where
 |nil:Fmx K D H [] []
 |cons {u:Addr} {xs:List V} {ps:List Q2} {us:List V} {X:List (List Q2)} (ne:u≠D) (h:SqL K H u xs) (f:Fqs K H xs ps) (q:Fmx K D H us X):Fmx K D H (.ref u :: us) (ps :: X)
theorem Fmx.same (e:aV H H'):∀{xs:List V} {X:List (List Q2)},Fmx K D H xs X->Fmx K D H' xs X
 |_,_,.nil=>.nil
 |_,_,.cons n h f q=>.cons n (e.seq h) (f.same e) (q.same e)
theorem Fmx.length:∀{xs:List V} {X:List (List Q2)},Fmx K D H xs X->xs.length=X.length
 |_,_,.nil=>rfl
 |_,_,.cons _ _ _ q=>by rw[length_cons,length_cons,q.length]
theorem Fmx.get:∀{xs:List V} {X:List (List Q2)} {i:Nat} {x:V},Fmx K D H xs X->xs[i]?=some x->∃u ys ps,x=.ref u/\X[i]?=some ps/\SqL K H u ys/\Fqs K H ys ps
 |_,_,0,_,.cons n h f q,e=>by simp at e;exact⟨_,_,_,e.symm,rfl,h,f⟩
 |_,_,i+1,_,.cons n h f q,e=>by simp at e;exact q.get e
def wh (row:List Q2):List Int × Int:=(iw row,dA row)
end Shp
namespace Mq
def skip (j k:Nat):Nat:=if k < j then k else k+1
def sgn (n:Nat):Rat:=if n % 2=0 then 1 else -1
theorem xM (n:Nat):sgn (n+1)=- sgn n:=by
 unfold sgn;rcases Nat.mod_two_eq_zero_or_one n with h | h
 .rw[if_neg (),if_pos h]
 .rw[if_pos (),if_neg ()];grind
abbrev Mat:=Nat->Nat->Rat
def det:Nat->Mat->Rat
 |0,_=>1
 |n+1,M=>rs (n+1) λj=>sgn (n+j)*M n j*det n λi k=>M i (skip j k)
theorem gB (n:Nat)(M:Mat):det (n+1) M=rs (n+1) λj=>sgn (n+j)*M n j*det n λi k=>M i (skip j k):=rfl
theorem Xo (hk:k < n):skip j k < n+1:=by unfold skip;split<;>lia
theorem cS:∀{n:Nat} {M N:Mat},(∀i j,i < n->j < n->M i j=N i j)->det n M=det n N
 |0,_,_,_=>rfl
 |n+1,M,N,h=>by
  rw[gB,gB];exact aP λj hj=>by rw[h n j () hj,cS (N:=λi k=>N i (skip j k)) λi k hi hk=>h i _ () (Xo hk)]
theorem yK (h:j<=k):skip (k+1) (skip j l)=skip j (skip k l):=by
 unfold skip
 by_cases h1:l < j
 .rw[if_pos h1,if_pos (show l < k by lia),if_pos (show l < k+1 by lia),if_pos h1]
 .rw[if_neg h1]
  by_cases h2:l < k
  .rw[if_pos h2,if_pos (show l+1 < k+1 by lia),if_neg h1]
  .rw[if_neg h2,if_neg (show ¬l+1 < k+1 by lia),if_neg (show ¬l+1 < j by lia)]
theorem Xp (n m:Nat)(F:Nat->Nat->Rat):(rs n λi=>rs m λj=>F i j)=rs m λj=>rs n λi=>F i j:=by
 induction n with
 |zero=>simp only[rs];rw[dR]
 |succ n ih=>simp only[rs];rw[ih,<- dB]
theorem qW (n:Nat)(F:Nat->Rat):rs (n+1) F=F 0+rs n λi=>F (i+1):=by
 induction n with
 |zero=>simp only[rs];grind
 |succ n ih=>rw[show rs (n+1+1) F=rs (n+1) F+F (n+1) from rfl,ih];simp only[rs];grind
theorem yR (N:Nat)(X:Nat->Nat->Rat):(rs (N+1) λj=>rs N λk=>X j k)=(rs N λk=>rs N λj=>if k<=j then X (j+1) k else 0)+rs N λj=>rs N λk=>if j<=k then X j k else 0:=by
 have h1:(rs (N+1) λj=>rs N λk=>X j k)=(rs (N+1) λj=>rs N λk=>if k < j then X j k else 0)+rs (N+1) λj=>rs N λk=>if k < j then 0 else X j k:=by
  rw[<- dB];refine aP λj _=>?_;rw[<- dB];exact aP λk _=>by split<;>grind
 have h2:(rs (N+1) λj=>rs N λk=>if k < j then X j k else 0)=rs N λk=>rs N λj=>if k<=j then X (j+1) k else 0:=by
  rw[Xp];refine aP λk _=>?_;rw[qW,if_neg ()];have:(rs N λi=>if k < i+1 then X (i+1) k else 0)=rs N λj=>if k<=j then X (j+1) k else 0:=aP λi _=>by
   by_cases c:k<=i
   .rw[if_pos (),if_pos c]
   .rw[if_neg (),if_neg c]
  rw[this];grind
 have h3:(rs (N+1) λj=>rs N λk=>if k < j then 0 else X j k)=rs N λj=>rs N λk=>if j<=k then X j k else 0:=by
  show (rs N λj=>rs N λk=>if k < j then 0 else X j k)+(rs N λk=>if k < N then 0 else X N k)=_;have:(rs N λk=>if k < N then 0 else X N k)=rs N λ_=>0:=aP λk hk=>by rw[if_pos hk]
  rw[this,dR];have e2:(rs N λj=>rs N λk=>if k < j then 0 else X j k)=rs N λj=>rs N λk=>if j<=k then X j k else 0:=aP λj _=>aP λk _=>by
   by_cases c:j<=k
   .rw[if_neg (),if_pos c]
   .rw[if_pos (),if_neg c]
  rw[e2];grind
 rw[h1,h2,h3]
theorem Ik (N:Nat)(X Y:Nat->Nat->Rat)(h:∀j k,j<=k->Y (k+1) j=- X j k)(h':∀j k,j<=k->X (k+1) j=- Y j k):(rs (N+1) λj=>rs N λk=>Y j k)=- rs (N+1) λj=>rs N λk=>X j k:=by
 rw[yR,yR];have e1:(rs N λk=>rs N λj=>if k<=j then Y (j+1) k else 0)=- rs N λj=>rs N λk=>if j<=k then X j k else 0:=by
  rw[<- iR];refine aP λk _=>?_;rw[<- iR];exact aP λj _=>by
   by_cases c:k<=j
   .rw[if_pos c,if_pos c,h k j c]
   .rw[if_neg c,if_neg c];grind
 have e2:(rs N λk=>rs N λj=>if k<=j then X (j+1) k else 0)=- rs N λj=>rs N λk=>if j<=k then Y j k else 0:=by
  rw[<- iR];refine aP λk _=>?_;rw[<- iR];exact aP λj _=>by
   by_cases c:k<=j
   .rw[if_pos c,if_pos c,h' k j c]
   .rw[if_neg c,if_neg c];grind
 rw[e1,e2];grind
def cL (a:Nat)(M:Mat):Mat:=λi=>if i=a then M (a+1) else if i=a+1 then M a else M i
theorem Lk (n:Nat)(M:Mat):det (n+2) M=rs (n+2) λj=>rs (n+1) λk=>(sgn (n+1+j)*M (n+1) j)*(sgn (n+k)*M n (skip j k)*det n λi l=>M i (skip j (skip k l))):=by
 rw[gB];exact aP λj _=>by rw[gB,<- dY]
theorem qM (a b:Nat):sgn (a+1+b)=- sgn (a+b):=by rw[show a+1+b=a+b+1 by lia,xM]
theorem zD (n:Nat)(M:Mat):det (n+2) (cL n M)=- det (n+2) M:=by
 rw[Lk,Lk];refine Ik (n+1) _ _ (λj k hjk=>?_) (λj k hjk=>?_)
 .show (sgn (n+1+(k+1))*cL n M (n+1) (k+1))*(sgn (n+j)*cL n M n (skip (k+1) j)*det n λi l=>cL n M i (skip (k+1) (skip j l)))=- ((sgn (n+1+j)*M (n+1) j)*(sgn (n+k)*M n (skip j k)*det n λi l=>M i (skip j (skip k l))));have a1:cL n M (n+1)=M n:=by unfold cL;rw[if_neg (),if_pos rfl]
  have a2:cL n M n=M (n+1):=by unfold cL;rw[if_pos rfl]
  have a3:(det n λi l=>cL n M i (skip (k+1) (skip j l)))=det n λi l=>M i (skip j (skip k l)):=cS λi l hi _=>by
   show cL n M i (skip (k+1) (skip j l))=M i (skip j (skip k l));rw[yK hjk];unfold cL;rw[if_neg (),if_neg ()]
  have a4:skip (k+1) j=j:=by unfold skip;rw[if_pos ()]
  have a5:skip j k=k+1:=by unfold skip;rw[if_neg ()]
  rw[a1,a2,a3,a4,a5,qM,qM,show n+(k+1)=n+k+1 by lia,xM];generalize (det n λi l=>M i (skip j (skip k l)))=dd;generalize sgn (n+k)=s1;generalize sgn (n+j)=s2;grind
 .show (sgn (n+1+(k+1))*M (n+1) (k+1))*(sgn (n+j)*M n (skip (k+1) j)*det n λi l=>M i (skip (k+1) (skip j l)))=- ((sgn (n+1+j)*cL n M (n+1) j)*(sgn (n+k)*cL n M n (skip j k)*det n λi l=>cL n M i (skip j (skip k l))));have a1:cL n M (n+1)=M n:=by unfold cL;rw[if_neg (),if_pos rfl]
  have a2:cL n M n=M (n+1):=by unfold cL;rw[if_pos rfl]
  have a3:(det n λi l=>M i (skip (k+1) (skip j l)))=det n λi l=>cL n M i (skip j (skip k l)):=cS λi l hi _=>by
   show M i (skip (k+1) (skip j l))=cL n M i (skip j (skip k l));rw[yK hjk];unfold cL;rw[if_neg (),if_neg ()]
  have a4:skip (k+1) j=j:=by unfold skip;rw[if_pos ()]
  have a5:skip j k=k+1:=by unfold skip;rw[if_neg ()]
  rw[a1,a2,a3,a4,a5,qM,qM,show n+(k+1)=n+k+1 by lia,xM];generalize (det n λi l=>cL n M i (skip j (skip k l)))=dd;generalize sgn (n+k)=s1;generalize sgn (n+j)=s2;grind
theorem mD:∀(n a:Nat) (M:Mat),a+1 < n->det n (cL a M)=- det n M
 |0,_,_,h=>absurd h ()
 |n+1,a,M,h=>by
  by_cases e:a+1=n
  .subst e;exact zD a M
  .rw[gB,gB,<- iR];refine aP λj hj=>?_;have e1:cL a M n j=M n j:=by unfold cL;rw[if_neg (),if_neg ()]
   have e2:(det n λi k=>cL a M i (skip j k))=- det n λi k=>M i (skip j k):=by
    rw[<- mD n a (λi k=>M i (skip j k)) ()];exact cS λi k _ _=>by
     show cL a M i (skip j k)=cL a (λi k=>M i (skip j k)) i k;unfold cL;split
     .rfl
     .split<;>rfl
   rw[e1,e2];grind
theorem zP:∀(t n:Nat) (M:Mat) (i:Nat),i+t+1=n->(∀j,M i j=M n j)->det (n+1) M=0
 |0,n,M,i,h,e=>by
  have hn:n=i+1:=by lia
  subst hn;have s:=zD i M;have c:det (i+2) (cL i M)=det (i+2) M:=cS λk j _ _=>by
   unfold cL
   by_cases k1:k=i
   .rw[if_pos k1,k1];exact(e j).symm
   .rw[if_neg k1]
    by_cases k2:k=i+1
    .rw[if_pos k2,k2];exact e j
    .rw[if_neg k2]
  rw[c] at s;grind
 |t+1,n,M,i,h,e=>by
  have s:=mD (n+1) i M ();have z:=zP t n (cL i M) (i+1) () λj=>by
   have a1:cL i M (i+1)=M i:=by unfold cL;rw[if_neg (),if_pos rfl]
   have a2:cL i M n=M n:=by unfold cL;rw[if_neg (),if_neg ()]
   rw[a1,a2];exact e j
  rw[z] at s;grind
def Bk (n:Nat)(S:Mat)(x:Nat->Rat):Mat:=λi=>if i=n then x else S i
def F (n:Nat)(S:Mat)(c:Nat->Nat)(x:Nat->Rat):Rat:=det (n+1) (Bk n (λi j=>S i (c j)) λj=>x (c j))
theorem Mg (n:Nat)(S:Mat)(c:Nat->Nat)(x:Nat->Rat):F n S c x=rs (n+1) λj=>sgn (n+j)*x (c j)*det n λi k=>S i (c (skip j k)):=by
 unfold F;rw[gB];refine aP λj _=>?_;have e1:Bk n (λi j=>S i (c j)) (λj=>x (c j)) n j=x (c j):=by unfold Bk;rw[if_pos rfl]
 rw[e1,cS λi k hi _=>show Bk n (λi j=>S i (c j)) (λj=>x (c j)) i (skip j k)=S i (c (skip j k)) by unfold Bk;rw[if_neg ()]]
theorem qr2 (n:Nat)(S:Mat)(c:Nat->Nat)(x y:Nat->Rat)(l:Rat):F n S c (λj=>x j+l*y j)=F n S c x+l*F n S c y:=by
 rw[Mg,Mg,Mg,<- dY,<- dB];exact aP λj _=>by grind
theorem Je (n:Nat)(S:Mat)(c:Nat->Nat)(h:i < n):F n S c (S i)=0:=by
 unfold F;refine zP (n - i - 1) n _ i () λj=>?_;unfold Bk;rw[if_neg (),if_pos rfl]
theorem Aj (n:Nat)(S:Mat)(c:Nat->Nat)(x:Nat->Rat)(h:∀j,j < n->x (c j)=0):F n S c x=x (c n)*det n λi j=>S i (c j):=by
 rw[Mg];show (rs n λj=>sgn (n+j)*x (c j)*det n λi k=>S i (c (skip j k)))+sgn (n+n)*x (c n)*(det n λi k=>S i (c (skip n k)))=_;have z:(rs n λj=>sgn (n+j)*x (c j)*det n λi k=>S i (c (skip j k)))=rs n λ_=>0:=aP λj hj=>by rw[h j hj];grind
 have s:sgn (n+n)=1:=by unfold sgn;rw[if_pos ()]
 have d:(det n λi k=>S i (c (skip n k)))=det n λi j=>S i (c j):=cS λi k _ hk=>by show S i (c (skip n k))=_;unfold skip;rw[if_pos hk]
 rw[z,dR,s,d];grind
theorem Fb {F:Nat->Rat}(h:∀i,i < n->∃z:Int,F i=(z:Rat)):∃z:Int,rs n F=(z:Rat):=by
 induction n with
 |zero=>exact⟨0,by simp[rs]⟩
 |succ n ih=>
  obtain⟨a,ha⟩:=ih λi hi=>h i ();obtain⟨b,hb⟩:=h n ();exact⟨a+b,by simp only[rs];rw[ha,hb,Rat.intCast_add]⟩
theorem Mt (n:Nat):∃z:Int,sgn n=(z:Rat):=by
 unfold sgn;split
 .exact⟨1,⋯⟩
 .exact⟨-1,by rw[Rat.intCast_neg];simp⟩
theorem sV (h:∃z:Int,a=(z:Rat))(k:∃z:Int,b=(z:Rat)):∃z:Int,a*b=(z:Rat):=by
 obtain⟨x,rfl⟩:=h;obtain⟨y,rfl⟩:=k;exact⟨x*y,by rw[Rat.intCast_mul]⟩
theorem zS:∀{n:Nat} {M:Mat},(∀i j,∃z:Int,M i j=(z:Rat))->∃z:Int,det n M=(z:Rat)
 |0,_,_=>⟨1,by simp[det]⟩
 |n+1,M,h=>by
  rw[gB];exact Fb λj _=>sV (sV (Mt _) (h n j)) (zS λi k=>h i _)
theorem Vt (h:∀i j,∃z:Int,S i j=(z:Rat))(hx:∀j,∃z:Int,x j=(z:Rat)):∃z:Int,F n S c x=(z:Rat):=by
 unfold F;refine zS λi j=>?_;unfold Bk;split
 .exact hx _
 .exact h i _
def Lin (Φ:(Nat->Rat)->Rat):Prop:=∀x y l,Φ (λj=>x j+l*y j)=Φ x+l*Φ y
theorem Lin.zero (h:Lin Φ):Φ (λ_=>0)=0:=by
 have:=h (λ_=>0) (λ_=>0) 1;have e:(λj:Nat=>(λ_=>(0:Rat)) j+1*(λ_=>(0:Rat)) j)=λ_=>0:=by funext j;show (0:Rat)+1*0=0;grind
 rw[e] at this;grind
theorem Lin.mul (h:Lin Φ)(l:Rat)(y:Nat->Rat):Φ (λj=>l*y j)=l*Φ y:=by
 have:=h (λ_=>0) y l;have e:(λj:Nat=>(λ_=>(0:Rat)) j+l*y j)=λj=>l*y j:=by funext j;show (0:Rat)+l*y j=_;grind
 rw[e,h.zero] at this;grind
theorem Lin.sum (h:Lin Φ)(a:Nat->Rat)(Y:Nat->Nat->Rat):∀n,Φ (λj=>rs n λk=>a k*Y k j)=rs n λk=>a k*Φ (Y k)
 |0=>h.zero
 |n+1=>by
  have:=h (λj=>rs n λk=>a k*Y k j) (Y n) (a n);simp only[rs];rw[this,Lin.sum h a Y n]
theorem Kp (n:Nat)(S:Mat)(c:Nat->Nat):Lin (F n S c):=λx y l=>qr2 n S c x y l
def Wh (x:Rat):Prop:=∃z:Int,x=(z:Rat)
theorem Wh.mul (h:Wh a)(k:Wh b):Wh (a*b):=sV h k
theorem Wh.neg (h:Wh a):Wh (-a):=by obtain⟨z,rfl⟩:=h;exact⟨-z,by rw[Rat.intCast_neg]⟩
theorem Wh.sub (h:Wh a)(k:Wh b):Wh (a - b):=by obtain⟨x,rfl⟩:=h;obtain⟨y,rfl⟩:=k;exact⟨x - y,by rw[Rat.intCast_sub]⟩
theorem Wh.one:Wh 1:=⟨1,⋯⟩
theorem Wh.nil:Wh 0:=⟨0,⋯⟩
structure Bar (m:Nat) (A E:Mat) (r col:Nat) (d:Rat) (c:Nat->Nat):Prop where
 dne:d≠0
 rm:r<=m
 rc:r<=col
 clt:∀j,j < r->c j < col
 cinj:∀i j,i < r->j < r->c i=c j->i=j
 wA:∀i j,Wh (A i j)
 wE:∀i j,i < m->Wh (E i j)
 i2:∀k j,k < r->j < r->E k (c j)=if j=k then d else 0
 i3:∀i x,r<=i->i < m->x < col->E i x=0
 i4:∀i x,i < m->d*A i x=(rs r λk=>A i (c k)*E k x)+if i < r then 0 else E i x
 i5:det r (λi j=>A i (c j))=d
 i6:∀Φ,Lin Φ->(∀s,s < r->Φ (A s)=0)->∀k,k < r->Φ (E k)=0
 full:r=col->∀j,j < r->c j=j
theorem Bar.start (wA:∀i j,Wh (A i j)):Bar m A A 0 0 1 id where
 dne:=by grind
 rm:=by lia
 rc:=by lia
 clt:=λj h=>absurd h ()
 cinj:=λi j h=>absurd h ()
 wA:=wA
 wE:=λi j _=>wA i j
 i2:=λk j h=>absurd h ()
 i3:=λi x _ _ h=>absurd h ()
 i4:=λi x _=>by simp only[rs];rw[if_neg ()];grind
 i5:=rfl
 i6:=λΦ _ _ k h=>absurd h ()
 full:=λ_ j h=>absurd h ()
section
variable {m:Nat} {A E:Mat} {r col:Nat} {d:Rat} {c:Nat->Nat}
theorem Bar.skip (h:Bar m A E r col d c)(hz:∀i,r<=i->i < m->E i col=0):Bar m A E r (col+1) d c:=
 { h with
  rc:=by have:=h.rc;lia
  clt:=λj hj=>by have:=h.clt j hj;lia
  i3:=λi x hi hm hx=>by
   by_cases e:x=col
   .rw[e];exact hz i hi hm
   .exact h.i3 i x hi hm ()
  full:=λe=>by have:=h.rc;lia }
def sw (p r i:Nat):Nat:=if i=r then p else if i=p then r else i
theorem zL (hp:r<=p)(hi:i < r):sw p r i=i:=by unfold sw;rw[if_neg (),if_neg ()]
theorem Yl (hp:r<=p)(hi:r<=i):r<=sw p r i:=by unfold sw;split;exact hp;split<;>lia
theorem zW (hp:p < m)(hr:r < m)(hi:i < m):sw p r i < m:=by unfold sw;split;exact hp;split<;>lia
theorem Pq (p r i:Nat):sw p r (sw p r i)=i:=by
 unfold sw
 by_cases h1:i=r
 .rw[if_pos h1]
  by_cases h2:p=r
  .rw[if_pos h2];lia
  .rw[if_neg h2,if_pos rfl];exact h1.symm
 .rw[if_neg h1]
  by_cases h2:i=p
  .rw[if_pos h2,if_pos rfl];exact h2.symm
  .rw[if_neg h2,if_neg h1,if_neg h2]
theorem Bar.swap (h:Bar m A E r col d c)(hp:r<=p)(hpm:p < m):Bar m (λi=>A (sw p r i)) (λi=>E (sw p r i)) r col d c:=
 { h with
  wA:=λi j=>h.wA _ j
  wE:=λi j hi=>h.wE _ j (zW hpm () hi)
  i2:=λk j hk hj=>by
   show E (sw p r k) (c j)=_;rw[zL hp hk];exact h.i2 k j hk hj
  i3:=λi x hi hm hx=>h.i3 _ x (Yl hp hi) (zW hpm () hm) hx
  i4:=λi x hm=>by
   have e:(rs r λk=>A (sw p r i) (c k)*E (sw p r k) x)=rs r λk=>A (sw p r i) (c k)*E k x:=aP λk hk=>by rw[zL hp hk]
   show d*A (sw p r i) x=(rs r λk=>A (sw p r i) (c k)*E (sw p r k) x)+_;rw[e,h.i4 _ x (zW hpm () hm)];congr 1
   by_cases hi:i < r
   .rw[zL hp hi,if_pos hi]
   .have:=Yl hp (show r<=i by lia);rw[if_neg (),if_neg hi]
  i5:=by
   rw[<- h.i5];exact cS λi j hi _=>by show A (sw p r i) (c j)=_;rw[zL hp hi]
  i6:=λΦ hΦ hs k hk=>by
   show Φ (E (sw p r k))=0;rw[zL hp hk];exact h.i6 Φ hΦ (λs hs'=>by have:=hs s hs';rwa [zL hp hs'] at this) k hk }
def clr (E:Mat)(r col:Nat)(d:Rat):Mat:=λk x=>if k=r then E r x else (E r col*E k x - E k col*E r x) / d
def c1 (c:Nat->Nat)(r col:Nat):Nat->Nat:=λj=>if j=r then col else c j
theorem jK (c:Nat->Nat)(h:j < r):c1 c r col j=c j:=by unfold c1;rw[if_neg ()]
theorem oU (c:Nat->Nat)(r col:Nat):c1 c r col r=col:=by unfold c1;rw[if_pos rfl]
theorem Ct (E:Mat)(r col:Nat)(d:Rat):clr E r col d r=E r:=by funext x;unfold clr;rw[if_pos rfl]
theorem mG (E:Mat)(h:k≠r)(x:Nat):clr E r col d k x=(E r col*E k x - E k col*E r x) / d:=by unfold clr;rw[if_neg h]
theorem Bar.j2 (h:Bar m A E r col d c)(hr:r < m):∀k j,k < r+1->j < r+1->clr E r col d k (c1 c r col j)=if j=k then E r col else 0:=λk j hk hj=>by
 have hd:=h.dne
 by_cases kr:k=r
 .subst kr;rw[Ct]
  by_cases jr:j=k
  .rw[if_pos jr,jr,oU]
  .rw[if_neg jr,jK c ()];exact h.i3 k _ (Nat.le_refl _) hr (h.clt j ())
 .rw[mG E kr]
  by_cases jr:j=r
  .subst jr;rw[oU,if_neg ()];grind
  .rw[jK c (),h.i2 k j () (),h.i3 r (c j) (Nat.le_refl _) hr (h.clt j ())]
   by_cases e:j=k
   .rw[if_pos e,if_pos e];grind
   .rw[if_neg e,if_neg e];grind
theorem Bar.j4 (h:Bar m A E r col d c)(hr:r < m):∀i x,i < m->E r col*A i x=(rs (r+1) λk=>A i (c1 c r col k)*clr E r col d k x)+if i < r+1 then 0 else clr E r col d i x:=λi x hi=>by
 have hd:=h.dne;have q:=h.i4 i x hi;have q2:=h.i4 i col hi;show _=(rs r λk=>A i (c1 c r col k)*clr E r col d k x)+A i (c1 c r col r)*clr E r col d r x+_;rw[oU,Ct];have e:(rs r λk=>A i (c1 c r col k)*clr E r col d k x)=(E r col / d)*(rs r λk=>A i (c k)*E k x)+(-(E r x / d))*rs r λk=>A i (c k)*E k col:=by
  rw[<- dY,<- dY,<- dB];exact aP λk hk=>by rw[jK c hk,mG E ()];grind
 rw[e];generalize (rs r λk=>A i (c k)*E k x)=s1 at q ⊢;generalize (rs r λk=>A i (c k)*E k col)=s2 at q2 ⊢
 by_cases h1:i < r
 .rw[if_pos h1] at q q2;rw[if_pos ()];have:s1=d*A i x:=by grind
  have:s2=d*A i col:=by grind
  subst s1 s2;grind
 .rw[if_neg h1] at q q2;have a1:s1=d*A i x - E i x:=by grind
  have a2:s2=d*A i col - E i col:=by grind
  subst a1 a2
  by_cases h2:i=r
  .subst h2;rw[if_pos ()];grind
  .rw[if_neg (),mG E h2];grind
theorem Bar.j6 (h:Bar m A E r col d c)(hr:r < m):∀Φ,Lin Φ->(∀s,s < r+1->Φ (A s)=0)->∀k,k < r+1->Φ (clr E r col d k)=0:=λΦ hΦ hs k hk=>by
 have hd:=h.dne;have z:=h.i6 Φ hΦ λs hs'=>hs s ();have zr:Φ (E r)=0:=by
  have e:E r=λx=>(λx=>d*A r x) x+(-1)*(λx=>rs r λk=>A r (c k)*E k x) x:=by
   funext x
   have:=h.i4 r x hr;rw[if_neg ()] at this;show E r x=d*A r x+(-1)*(rs r λk=>A r (c k)*E k x)
   grind
  rw[e,hΦ,hΦ.mul,hΦ.sum,hs r ()];have:(rs r λk=>A r (c k)*Φ (E k))=rs r λ_=>0:=aP λk hk=>by rw[z k hk];grind
  rw[this,dR];grind
 by_cases kr:k=r
 .rw[kr,Ct];exact zr
 .have e:clr E r col d k=λx=>(λx=>(E r col / d)*E k x) x+(-(E k col / d))*E r x:=by
   funext x
   rw[mG E kr];show _=(E r col / d)*E k x+(-(E k col / d))*E r x;grind
  rw[e,hΦ,hΦ.mul,z k (),zr];grind
theorem Bar.j5 (h:Bar m A E r col d c)(hr:r < m):det (r+1) (λi j=>A i (c1 c r col j))=E r col:=by
 have hd:=h.dne;have e1:det (r+1) (λi j=>A i (c1 c r col j))=F r A (c1 c r col) (A r):=by
  unfold F;exact cS λi j hi _=>by
   unfold Bk
   by_cases e:i=r
   .rw[if_pos e,e]
   .rw[if_neg e]
 have hΦ:=Kp r A (c1 c r col);have z:=h.i6 _ hΦ λs hs=>Je r A (c1 c r col) hs;have eA:A r=λx=>(λx=>(1 / d)*E r x) x+(1 / d)*(λx=>rs r λk=>A r (c k)*E k x) x:=by
  funext x
  have:=h.i4 r x hr;rw[if_neg ()] at this;show A r x=(1 / d)*E r x+(1 / d)*(rs r λk=>A r (c k)*E k x)
  grind
 have zs:(rs r λk=>A r (c k)*F r A (c1 c r col) (E k))=0:=by
  have:(rs r λk=>A r (c k)*F r A (c1 c r col) (E k))=rs r λ_=>0:=aP λk hk=>by rw[z k hk];grind
  rw[this,dR]
 have fb:=Aj r A (c1 c r col) (E r) λj hj=>by rw[jK c hj];exact h.i3 r _ (Nat.le_refl _) hr (h.clt j hj)
 have dd:(det r λi j=>A i (c1 c r col j))=d:=by rw[<- h.i5];exact cS λi j _ hj=>by show A i (c1 c r col j)=_;rw[jK c hj]
 rw[oU,dd] at fb;rw[e1,eA,hΦ,hΦ.mul,hΦ.sum,zs,fb];grind
theorem Bar.wV (h:Bar m A E r col d c)(hr:r < m)(he:E r col≠0):∀i x,i < m->Wh (clr E r col d i x):=by
 have j2:=h.j2 hr;have j4:=h.j4 hr;have j5:=h.j5 hr;have j6:=h.j6 hr;have cin:∀i j,i < r+1->j < r+1->c1 c r col i=c1 c r col j->i=j:=λi j hi hj e=>by
  by_cases a:i=r
  .by_cases b:j=r
   .lia
   .rw[a,oU,jK c ()] at e;have:=h.clt j ();lia
  .by_cases b:j=r
   .rw[b,oU,jK c ()] at e;have:=h.clt i ();lia
   .rw[jK c (),jK c ()] at e;exact h.cinj i j () () e
 have top:∀k x,k < r+1->Wh (clr E r col d k x):=λk x hk=>by
  by_cases hx:∃j,j < r+1/\x=c1 c r col j
  .obtain⟨j,hj,rfl⟩:=hx;rw[j2 k j hk hj];split
   .exact h.wE r col hr
   .exact Wh.nil
  .let c2:Nat->Nat:=λj=>if j=r+1 then x else c1 c r col j
   let u:Nat->Rat:=λj=>if j=c1 c r col k then 1 else 0
   have hΦ:=Kp (r+1) A c2;have z:=j6 _ hΦ (λs hs=>Je (r+1) A c2 hs) k hk;have eu:u=λy=>(λy=>u y+(-(1 / E r col))*clr E r col d k y) y+(1 / E r col)*clr E r col d k y:=by
    funext y
    show u y=u y+(-(1 / E r col))*clr E r col d k y+(1 / E r col)*clr E r col d k y;grind
   have fb:=Aj (r+1) A c2 (λy=>u y+(-(1 / E r col))*clr E r col d k y) λj hj=>by
    have ec:c2 j=c1 c r col j:=by show (if j=r+1 then x else c1 c r col j)=_;rw[if_neg ()]
    rw[ec];show u (c1 c r col j)+(-(1 / E r col))*clr E r col d k (c1 c r col j)=0;rw[j2 k j hk hj];show (if c1 c r col j=c1 c r col k then (1:Rat) else 0)+_=0
    by_cases e:j=k
    .rw[if_pos e,if_pos (by rw[e])];grind
    .rw[if_neg e,if_neg (λq=>e (cin j k hj hk q))];grind
   have dd:(det (r+1) λi j=>A i (c2 j))=E r col:=by
    rw[<- j5];exact cS λi j _ hj=>by show A i (if j=r+1 then x else c1 c r col j)=_;rw[if_neg ()]
   have ux:u x=0:=by show (if x=c1 c r col k then (1:Rat) else 0)=0;rw[if_neg (λq=>hx ⟨k,hk,q⟩)]
   have cx:c2 (r+1)=x:=by show (if r+1=r+1 then x else _)=x;rw[if_pos rfl]
   rw[dd,cx] at fb;have val:F (r+1) A c2 u=- clr E r col d k x:=by
    rw[eu,hΦ,z,fb];show (u x+(-(1 / E r col))*clr E r col d k x)*E r col+_=_;rw[ux];grind
   have wh:Wh (F (r+1) A c2 u):=Vt h.wA λj=>by
    show Wh (if j=c1 c r col k then (1:Rat) else 0);split
    .exact Wh.one
    .exact Wh.nil
   rw[val] at wh;have:=wh.neg
   rwa [show - - clr E r col d k x=clr E r col d k x by grind] at this
 intro i x hi
 by_cases h1:i < r+1
 .exact top i x h1
 .have q:=j4 i x hi;rw[if_neg h1] at q;have e:clr E r col d i x=E r col*A i x - rs (r+1) λk=>A i (c1 c r col k)*clr E r col d k x:=by grind
  rw[e];exact Wh.sub (Wh.mul (h.wE r col hr) (h.wA i x)) (Fb λk hk=>Wh.mul (h.wA _ _) (top k x hk))
theorem Bar.clear (h:Bar m A E r col d c)(hr:r < m)(he:E r col≠0):Bar m A (clr E r col d) (r+1) (col+1) (E r col) (c1 c r col) where
 dne:=he
 rm:=hr
 rc:=by have:=h.rc;lia
 clt:=λj hj=>by
  by_cases e:j=r
  .rw[e,oU];lia
  .rw[jK c ()];have:=h.clt j ();lia
 cinj:=λi j hi hj e=>by
  by_cases a:i=r
  .by_cases b:j=r
   .lia
   .rw[a,oU,jK c ()] at e;have:=h.clt j ();lia
  .by_cases b:j=r
   .rw[b,oU,jK c ()] at e;have:=h.clt i ();lia
   .rw[jK c (),jK c ()] at e;exact h.cinj i j () () e
 wA:=h.wA
 wE:=λi j hi=>h.wV hr he i j hi
 i2:=h.j2 hr
 i3:=λi x hi hm hx=>by
  rw[mG E ()]
  by_cases e:x=col
  .rw[e];grind
  .rw[h.i3 i x () hm (),h.i3 r x (Nat.le_refl _) hr ()];grind
 i4:=h.j4 hr
 i5:=h.j5 hr
 i6:=h.j6 hr
 full:=λe j hj=>by
  by_cases a:j=r
  .rw[a,oU];lia
  .rw[jK c ()];exact h.full () j ()
end
def ent (R:List (List Int))(i x:Nat):Int:=(R.getD i []).getD x 0
def at2 (R:List (List Int)):Mat:=λi x=>((ent R i x:Int):Rat)
theorem Bar.congr (h:Bar m A E r col d c)(e:∀i,i < m->E i=E' i):Bar m A E' r col d c:=
 { h with
  wE:=λi j hi=>by rw[<- e i hi];exact h.wE i j hi
  i2:=λk j hk hj=>by rw[<- e k (by have:=h.rm;lia)];exact h.i2 k j hk hj
  i3:=λi x hi hm hx=>by rw[<- e i hm];exact h.i3 i x hi hm hx
  i4:=λi x hm=>by
   rw[h.i4 i x hm];congr 1
   .exact aP λk hk=>by rw[e k (by have:=h.rm;lia)]
   .rw[e i hm]
  i6:=λΦ hΦ hs k hk=>by rw[<- e k (by have:=h.rm;lia)];exact h.i6 Φ hΦ hs k hk }
theorem Ny (n:Nat):∀(t p r:Nat) (A:Mat),p=r+t+1->p < n->det n (λi=>A (sw p r i))=- det n A
 |0,p,r,A,h,hp=>by
  subst h;rw[<- mD n r A ()];exact cS λi j _ _=>by
   show A (sw (r+0+1) r i) j=cL r A i j;unfold sw cL
   by_cases h1:i=r
   .rw[if_pos h1,if_pos h1]
   .rw[if_neg h1,if_neg h1]
    by_cases h2:i=r+1
    .rw[if_pos (),if_pos h2]
    .rw[if_neg (),if_neg h2]
 |t+1,p,r,A,h,hp=>by
  have ih:=Ny n t (r+t+1) r (cL (r+t+1) A) rfl ();have s1:=mD n (r+t+1) A ();have s2:=mD n (r+t+1) (λi=>cL (r+t+1) A (sw (r+t+1) r i)) ();have e:det n (λi=>A (sw p r i))=det n (cL (r+t+1) (λi=>cL (r+t+1) A (sw (r+t+1) r i))):=cS λi j _ _=>by
   subst h;show A (sw (r+(t+1)+1) r i) j=cL (r+t+1) (λi=>cL (r+t+1) A (sw (r+t+1) r i)) i j
   by_cases h1:i=r
   .have a1:sw (r+(t+1)+1) r i=r+t+1+1:=by unfold sw;rw[if_pos h1];lia
    have a2:sw (r+t+1) r i=r+t+1:=by unfold sw;rw[if_pos h1]
    rw[a1];unfold cL;rw[if_neg (),if_neg ()];dsimp only;rw[a2,if_pos rfl]
   .by_cases h2:i=r+t+1+1
    .have a1:sw (r+(t+1)+1) r i=r:=by unfold sw;rw[if_neg h1,if_pos ()]
     have a2:sw (r+t+1) r (r+t+1)=r:=by unfold sw;rw[if_neg (),if_pos rfl]
     rw[a1];unfold cL;rw[if_neg (),if_pos h2];dsimp only;rw[a2,if_neg (),if_neg ()]
    .have a1:sw (r+(t+1)+1) r i=i:=by unfold sw;rw[if_neg h1,if_neg ()]
     rw[a1]
     by_cases h3:i=r+t+1
     .have a2:sw (r+t+1) r (r+t+1+1)=r+t+1+1:=by unfold sw;rw[if_neg (),if_neg ()]
      unfold cL;rw[if_pos h3];dsimp only;rw[a2,if_neg (),if_pos rfl,h3]
     .have a2:sw (r+t+1) r i=i:=by unfold sw;rw[if_neg h1,if_neg h3]
      unfold cL;rw[if_neg h3,if_neg h2];dsimp only;rw[a2,if_neg h3,if_neg h2]
  rw[e,s2,ih,s1];grind
def fQ (R:List (List Int))(p r:Nat):List (List Int):=(R.set p (R.getD r [])).set r (R.getD p [])
theorem qa4 (R:List (List Int))(p r:Nat):(fQ R p r).length=R.length:=by unfold fQ;simp
theorem Cm (hp:p < R.length)(hr:r < R.length)(i:Nat):(fQ R p r).getD i []=R.getD (sw p r i) []:=by
 unfold fQ sw;rw[getD_eq_getElem?_getD]
 by_cases h1:i=r
 .rw[if_pos h1,h1,getElem?_set_self (by simpa using hr)];rfl
 .rw[if_neg h1,getElem?_set_ne (Ne.symm h1)]
  by_cases h2:i=p
  .rw[if_pos h2,h2,getElem?_set_self hp];rfl
  .rw[if_neg h2,getElem?_set_ne (Ne.symm h2),getD_eq_getElem?_getD]
def gV (upper row:List Int)(col:Nat)(dv:Int):List Int:=zipWith (λhere above=>Int.fdiv (upper.getD col 0*here - row.getD col 0*above) dv) row upper
def cN (R:List (List Int))(r col:Nat)(dv:Int):List (List Int):=R.mapIdx λi row=>if i=r then row else gV (R.getD r []) row col dv
theorem Kn (R:List (List Int))(r col:Nat)(dv:Int):(cN R r col dv).length=R.length:=by unfold cN;simp
theorem qT (hi:i < R.length)(r col:Nat)(dv:Int):(cN R r col dv).getD i []=if i=r then R.getD i [] else gV (R.getD r []) (R.getD i []) col dv:=by
 unfold cN;rw[getD_eq_getElem?_getD,getElem?_mapIdx,getElem?_eq_getElem hi];have:R.getD i []=R[i]:=by rw[getD_eq_getElem?_getD,getElem?_eq_getElem hi];rfl
 rw[this];rfl
structure SI (m w:Nat) (A0:Mat) (R:List (List Int)) (r col:Nat) (d sg:Int):Prop where
 len:R.length=m
 wid:∀i,i < m->(R.getD i []).length=w
 bar:∃A c,Bar m A (at2 R) r col (d:Rat) c/\det m A=(sg:Rat)*det m A0
 one:sg=1\/sg=-1
theorem SI.start (h:R.length=m)(hw:∀i,i < m->(R.getD i []).length=w):SI m w (at2 R) R 0 0 1 1:=
 ⟨h,hw,⟨at2 R,id,by
  have:=Bar.start (m:=m) (A:=at2 R) λi j=>⟨_,rfl⟩
  simpa using this,⋯⟩,.inl rfl⟩
theorem SI.skip (h:SI m w A0 R r col d sg)(hz:∀i,r<=i->i < m->ent R i col=0):SI m w A0 R r (col+1) d sg:=by
 obtain⟨A,c,B,e⟩:=h.bar;exact⟨h.len,h.wid,⟨A,c,B.skip λi h1 h2=>by unfold at2;rw[hz i h1 h2];simp,e⟩,h.one⟩
theorem SI.swap (h:SI m w A0 R r col d sg)(hp:r < p)(hm:p < m):SI m w A0 (fQ R p r) r col d (-sg):=by
 obtain⟨A,c,B,e⟩:=h.bar;have hl:=h.len;have gd:=λi=>Cm (R:=R) (p:=p) (r:=r) () () i;refine⟨(qa4 R p r).trans hl,λi hi=>?_,⟨_,c,(B.swap () hm).congr λi hi=>?_,?_⟩,?_⟩
 .rw[gd i];exact h.wid _ (zW hm () hi)
 .funext x
  show (((R.getD (sw p r i) []).getD x 0:Int):Rat)=((((fQ R p r).getD i []).getD x 0:Int):Rat)
  rw[gd i]
 .rw[Ny m (p - r - 1) p r A () hm,e,Rat.intCast_neg];grind
 .rcases h.one with z | z
  .right;lia
  .left;lia
theorem iS {l:List Int}(h:x < l.length):l[x]?=some (l.getD x 0):=by rw[getD_eq_getElem?_getD,getElem?_eq_getElem h];rfl
theorem wF {l:List Int}(h:l.length<=x):l.getD x 0=0:=by rw[getD_eq_getElem?_getD,getElem?_eq_none h];rfl
theorem Ko (h:SI m w A0 R r col d sg)(B:Bar m A (at2 R) r col (d:Rat) c)(hr:r < m)(hc:col < w)(he:ent R r col≠0)(hi:i < m)(hir:i≠r)(x:Nat):
  ∃z:Int,(gV (R.getD r []) (R.getD i []) col d).getD x 0=z/\(z:Rat)=clr (at2 R) r col (d:Rat) i x/\(x < w->ent R r col*ent R i x - ent R i col*ent R r x=d*z):=by
 have dn:d≠0:=λz=>B.dne (by rw[z];simp);have dq:=B.dne;have heq:at2 R r col≠0:=λz=>he (Rat.intCast_inj.mp (by unfold at2 at z;simpa using z));have wi:=h.wid i hi;have wr:=h.wid r hr
 by_cases hx:x < w
 .obtain⟨z,hz⟩:=B.wV hr heq i x hi;have e1:ent R r col*ent R i x - ent R i col*ent R r x=d*z:=by
   rw[mG _ hir] at hz;have:((ent R r col*ent R i x - ent R i col*ent R r x:Int):Rat)=((d*z:Int):Rat):=by
    rw[Rat.intCast_sub,Rat.intCast_mul,Rat.intCast_mul,Rat.intCast_mul,<- hz];show at2 R r col*at2 R i x - at2 R i col*at2 R r x=_;grind
   exact Rat.intCast_inj.mp this
  refine⟨z,?_,hz.symm,λ_=>e1⟩;unfold gV;have g1:(R.getD i [])[x]?=some ((R.getD i []).getD x 0):=iS ();have g2:(R.getD r [])[x]?=some ((R.getD r []).getD x 0):=iS ();rw[getD_eq_getElem?_getD (l:=zipWith _ _ _),getElem?_zipWith,g1,g2];exact gD dn e1
 .refine⟨0,?_,?_,λh=>absurd h hx⟩
  .unfold gV;exact wF (by rw[length_zipWith,wi,wr];lia)
  .rw[mG _ hir];have a1:at2 R i x=0:=by unfold at2 ent;rw[wF ()];simp
   have a2:at2 R r x=0:=by unfold at2 ent;rw[wF ()];simp
   rw[a1,a2];simp;grind
theorem SI.clear (h:SI m w A0 R r col d sg)(hr:r < m)(hc:col < w)(he:ent R r col≠0):SI m w A0 (cN R r col d) (r+1) (col+1) (ent R r col) sg:=by
 obtain⟨A,c,B,e⟩:=h.bar;have hl:=h.len;have heq:at2 R r col≠0:=λz=>he (Rat.intCast_inj.mp (by unfold at2 at z;simpa using z));refine⟨(Kn R r col d).trans hl,λi hi=>?_,⟨A,_,(B.clear hr heq).congr λi hi=>?_,e⟩,h.one⟩
 .rw[qT ()];split
  .exact h.wid i hi
  .unfold gV;rw[length_zipWith,h.wid i hi,h.wid r hr,Nat.min_self]
 .funext x
  show clr (at2 R) r col (d:Rat) i x=((((cN R r col d).getD i []).getD x 0:Int):Rat)
  rw[qT ()]
  by_cases hir:i=r
  .rw[if_pos hir,hir,Ct];rfl
  .rw[if_neg hir];obtain⟨z,h1,h2,_⟩:=Ko h B hr hc he hi hir x;rw[h1,h2]
def BdR (n:Nat)(R:List (List Int)):Prop:=∀i x,B n (ent R i x)
theorem SI.whole (h:SI m w A0 R m m d sg):det m A0=(sg:Rat)*(d:Rat):=by
 obtain⟨A,c,B,e⟩:=h.bar;have f:=B.full rfl;have i5:=B.i5;have:det m (λi j=>A i (c j))=det m A:=cS λi j _ hj=>by show A i (c j)=A i j;rw[f j hj]
 rw[this,e] at i5;rcases h.one with z | z
 .rw[z] at i5 ⊢;simp at i5 ⊢;exact i5
 .rw[z,Rat.intCast_neg] at i5 ⊢;simp at i5 ⊢;grind
theorem SI.lame (h:SI m w A0 R r m d sg)(hr:r < m):det m A0=0:=by
 obtain⟨A,c,B,e⟩:=h.bar;obtain⟨n,rfl⟩:∃n,m=n+1:=⟨m - 1,()⟩
 have dq:=B.dne;have e1:det (n+1) A=F n A id (A n):=by
  unfold F;exact cS λi j hi _=>by
   unfold Bk
   by_cases z:i=n
   .rw[if_pos z,z];rfl
   .rw[if_neg z];rfl
 have hΦ:=Kp n A id;have z:=B.i6 _ hΦ λs hs=>Je n A id ();have eA:A n=λx=>(λx=>(1 / (d:Rat))*at2 R n x) x+(1 / (d:Rat))*(λx=>rs r λk=>A n (c k)*at2 R k x) x:=by
  funext x
  have:=B.i4 n x ();rw[if_neg ()] at this;show A n x=(1 / (d:Rat))*at2 R n x+(1 / (d:Rat))*(rs r λk=>A n (c k)*at2 R k x)
  grind
 have zs:(rs r λk=>A n (c k)*F n A id (at2 R k))=0:=by
  have:(rs r λk=>A n (c k)*F n A id (at2 R k))=rs r λ_=>0:=aP λk hk=>by rw[z k hk];grind
  rw[this,dR]
 have zn:F n A id (at2 R n)=0:=by
  rw[Mg];have:(rs (n+1) λj=>sgn (n+j)*at2 R n (id j)*det n λi k=>A i (id (Mq.skip j k)))=rs (n+1) λ_=>0:=aP λj hj=>by
   rw[show at2 R n (id j)=0 from B.i3 n j () () hj];grind
  rw[this,dR]
 have:det (n+1) A=0:=by
  rw[e1,eA,hΦ,hΦ.mul,hΦ.sum,zs,zn];grind
 rw[this] at e;rcases h.one with q | q
 .rw[q] at e;simp at e;exact e.symm
 .rw[q,Rat.intCast_neg] at e;simp at e;grind
def Ms:Nat->(Nat->Rat)->Rat
 |0,_=>1
 |n+1,b=>Ms n b*b n
theorem sU:∀(n:Nat) (b:Nat->Rat) (Q:Mat),det n (λi j=>b i*Q i j)=Ms n b*det n Q
 |0,_,_=>by simp[det,Ms]
 |n+1,b,Q=>by
  rw[gB,gB,<- dY];refine aP λj _=>?_;have:=sU n b (λi k=>Q i (Mq.skip j k));show sgn (n+j)*(b n*Q n j)*det n (λi k=>b i*Q i (Mq.skip j k))=Ms n b*b n*_;rw[this];grind
end Mq
open Mq (BdR Cm Mat Ms SI cN cS ent fQ gV iS qT qW sU)
namespace Shp
open PySem L2
inductive Imx (D:Addr) (H:Hp):List V->List (List Int)->Prop where
 |nil:Imx D H [] []
 |cons {u:Addr} {r:List Int} {us:List V} {R:List (List Int)} (ne:u≠D) (h:H u=some (.lst (r.map V.int))) (q:Imx D H us R):Imx D H (.ref u :: us) (r :: R)
theorem Imx.same (e:aV H H'):∀{xs:List V} {R:List (List Int)},Imx D H xs R->Imx D H' xs R
 |_,_,.nil=>.nil
 |_,_,.cons n h q=>.cons n (e _ _ h) (q.same e)
theorem Imx.upd:∀{xs:List V} {R:List (List Int)},Imx D H xs R->Imx D (L2.upd H D o) xs R
 |_,_,.nil=>.nil
 |_,_,.cons n h q=>.cons n (by rw[aX n];exact h) q.upd
theorem Imx.length:∀{xs:List V} {R:List (List Int)},Imx D H xs R->xs.length=R.length
 |_,_,.nil=>rfl
 |_,_,.cons _ _ q=>by rw[length_cons,length_cons,q.length]
theorem Imx.get:∀{xs:List V} {R:List (List Int)} {i:Nat} {x:V},Imx D H xs R->xs[i]?=some x->∃u r,x=.ref u/\R[i]?=some r/\u≠D/\H u=some (.lst (r.map V.int))
 |_,_,0,_,.cons n h q,e=>by simp at e;exact⟨_,_,e.symm,rfl,n,h⟩
 |_,_,i+1,_,.cons n h q,e=>by simp at e;exact q.get e
theorem Imx.at (h:Imx D H xs R)(hi:i < R.length):∃u,xs[i]?=some (.ref u)/\u≠D/\H u=some (.lst ((R.getD i []).map V.int)):=by
 have hx:i < xs.length:=by rw[h.length];exact hi
 obtain⟨u,r,e1,e2,e3,e4⟩:=h.get (getElem?_eq_getElem hx);refine⟨u,by rw[getElem?_eq_getElem hx,e1],e3,?_⟩;rw[getD_eq_getElem?_getD,e2];exact e4
theorem Imx.app:∀{xs ys:List V} {R S:List (List Int)},Imx D H xs R->Imx D H ys S->Imx D H (xs++ys) (R++S)
 |_,_,_,_,.nil,k=>k
 |_,_,_,_,.cons n h q,k=>.cons n h (q.app k)
theorem Imx.set (hn:u≠D)(hu:H u=some (.lst (r.map V.int))):∀{xs:List V} {R:List (List Int)} (i:Nat),Imx D H xs R->Imx D H (xs.set i (.ref u)) (R.set i r)
 |_,_,_,.nil=>by simp;exact .nil
 |_,_,0,.cons n h q=>.cons hn hu q
 |_,_,i+1,.cons n h q=>.cons n h (q.set hn hu i)
theorem Imx.other (hD:H D'=none):∀{xs:List V} {R:List (List Int)},Imx D H xs R->Imx D' H xs R
 |_,_,.nil=>.nil
 |_,_,.cons n h q=>.cons (λz=>by rw[z,hD] at h;cases h) h (q.other hD)
theorem jP {l:List Int}(h:i < l.length):(l.map V.int)[i]?=some (.int (l.getD i 0)):=by
 rw[getElem?_map,iS h];rfl
inductive Jk (K:Frag) (vs:List V) (H:Hp) (Q:VK) (E:XK):Prop where
 |mk (a:Addr) (xs:List V) (ps:List Q2) (n:Nat):vs=[.ref a]->SqL K H a xs->Fqs K H xs ps->Mq.Pos ps->(∀p∈ps,Bd n p)->ps.length<=100->10+n+n*ps.length<=8000->(∀t l H',aV H H'->H l=none->SqT K H' t [.ref l,.int (dA ps)]->H' l=some (.lst ((iw ps).map V.int))->Q (.ref t) H')->Jk K vs H Q E
inductive Py (K:Frag) (vs:List V) (H:Hp) (Q:VK) (E:XK):Prop where
 |mk (l D:Addr) (zs:List V) (R:List (List Int)) (r c m w:Nat):vs=[.ref l,.int (r:Int),.int (c:Int)]->SqL K H l zs->Imx D H zs R->R.length=m->(∀i,i < m->(R.getD i []).length=w)->c < w->r<=m->m<=100->(∀p,r<=p->p < m->ent R p c≠0->Q (.int (p:Int)) H)->((∀i,r<=i->i < m->ent R i c=0)->Q .non H)->Py K vs H Q E
inductive rZ (K:Frag) (vs:List V) (H:Hp) (Q:VK) (E:XK):Prop where
 |mk (u v:Addr) (row upper:List Int) (c n:Nat) (dv:Int):vs=[.ref u,.ref v,.int (c:Int),.int dv]->SqL K H u (row.map V.int)->SqL K H v (upper.map V.int)->row.length=upper.length->row.length<=100->c < row.length->dv≠0->(∀i,Mq.B n (row.getD i 0))->(∀i,Mq.B n (upper.getD i 0))->Mq.B n dv->n<=9000->(∀l H',aV H H'->H l=none->H' l=some (.lst ((gV upper row c dv).map V.int))->Q (.ref l) H')->rZ K vs H Q E
inductive rG (K:Frag) (vs:List V) (H:Hp) (Q:VK) (E:XK):Prop where
 |mk (l D:Addr) (zs:List V) (R:List (List Int)) (r c m w n:Nat) (dv:Int):vs=[.ref l,.int (r:Int),.int (c:Int),.int dv]->SqL K H l zs->Imx D H zs R->R.length=m->(∀i,i < m->(R.getD i []).length=w)->c < w->w<=100->r < m->m<=100->dv≠0->BdR n R->Mq.B n dv->n<=9000->(∀l' zs' H',aV H H'->H l'=none->H' l'=some (.lst zs')->Imx l' H' zs' (cN R r c dv)->Q (.ref l') H')->rG K vs H Q E
def Oq (l:Addr)(rank:Nat)(pivot sign:Int):HO:=.dK (jU [] [(.inr "rows",.ref l),(.inr "rank",.int (rank:Int)),(.inr "pivot",.int pivot),(.inr "sign",.int sign)])
def wgt (X:List (List Q2)):Rat:=Mq.det X.length λi j=>Mq.val ((X.getD i []).getD j Mq.z0)
theorem pZ (h:H d=some (Oq l rank pivot sign)):kD H d (.str "rows") (some (.ref l))/\kD H d (.str "rank") (some (.int (rank:Int)))/\kD H d (.str "pivot") (some (.int pivot))/\kD H d (.str "sign") (some (.int sign)):=by
 refine⟨?_,?_,?_,?_⟩
 .exact kD.k (k:=(Sum.inr "rows":Key)) h
 .exact kD.k (k:=(Sum.inr "rank":Key)) h
 .exact kD.k (k:=(Sum.inr "pivot":Key)) h
 .exact kD.k (k:=(Sum.inr "sign":Key)) h
def tT (X:List (List Q2)):Int:=X.foldl (λb row=>b*dA row) 1
theorem zI {X:List (List Q2)}(h:X[i]?=some row):tT (X.take (i+1))=tT (X.take i)*dA row:=by
 unfold tT;rw[take_add_one,h,foldl_append];rfl
theorem rN (X:List (List Q2)):∀i,i<=X.length->((tT (X.take i):Int):Rat)=Ms i λk=>((dA (X.getD k []):Int):Rat)
 |0,_=>by simp[tT,Ms]
 |i+1,h=>by
  have e:X[i]?=some (X.getD i []):=by rw[getD_eq_getElem?_getD,getElem?_eq_getElem ()];rfl
  rw[zI e,Rat.intCast_mul,rN X i ()];rfl
theorem Bp (hX:fP X):∀i,i<=X.length->1<=tT (X.take i)
 |0,_=>by show (1:Int)<=1;lia
 |i+1,h=>by
  have e:X[i]?=some (X.getD i []):=by rw[getD_eq_getElem?_getD,getElem?_eq_getElem ()];rfl
  rw[zI e];have h1:=Bp hX i ();have h2:=uL (hX _ (mem_of_getElem? e));have:=Int.mul_pos (show 0 < tT (X.take i) by lia) (show 0 < dA (X.getD i []) by lia);lia
theorem Ty (hp:Mq.Pos row)(hj:j < row.length):(((iw row).getD j 0:Int):Rat)=((dA row:Int):Rat)*Mq.val (row.getD j Mq.z0):=by
 have ej:row[j]?=some (row.getD j Mq.z0):=by rw[getD_eq_getElem?_getD,getElem?_eq_getElem hj];rfl
 have mem:row.getD j Mq.z0∈row:=mem_of_getElem? ej;obtain⟨k,hk⟩:=yB hp _ mem;have e2:(iw row).getD j 0=Er (dA row) (row.getD j Mq.z0):=by
  unfold iw;rw[getD_eq_getElem?_getD,getElem?_map,ej];rfl
 rw[e2,Mq.Qh (hp _ mem) hk];grind
theorem kN (row:List Q2):(iw row).length=row.length:=by unfold iw;simp
end Shp
namespace Mq
theorem mQ (m a:Nat)(v:Rat)(h:a < m):(rs m λi=>if i=a then v else 0)=v:=by
 induction m with
 |zero=>lia
 |succ m ih=>
  simp only[rs]
  by_cases e:m=a
  .subst e;rw[if_pos rfl];have:(rs m λi=>if i=m then v else 0)=rs m λ_=>0:=aP λi hi=>by rw[if_neg ()]
   rw[this,dR];grind
  .rw[if_neg e,ih ()];grind
theorem qq3 (m p r:Nat)(hp:p < m)(hr:r < m)(F:Nat->Rat):(rs m λi=>F (sw p r i))=rs m F:=by
 by_cases e:p=r
 .subst e;exact aP λi _=>by
   congr 1;unfold sw
   by_cases h:i=p
   .rw[if_pos h,h]
   .rw[if_neg h,if_neg h]
 have:(rs m λi=>F (sw p r i))=rs m λi=>F i+((if i=r then F p - F r else 0)+(if i=p then F r - F p else 0)):=aP λi _=>by
  unfold sw
  by_cases h1:i=r
  .rw[if_pos h1,if_pos h1,if_neg (),h1];grind
  .rw[if_neg h1,if_neg h1]
   by_cases h2:i=p
   .rw[if_pos h2,if_pos h2,h2];grind
   .rw[if_neg h2,if_neg h2];grind
 rw[this,dB,dB,mQ m r _ hr,mQ m p _ hp];grind
structure LI (m:Nat) (Aq:Mat) (R:List (List Int)):Prop where
 lin:∀i x,i < m->x < m->at2 R i x=rs m λk=>at2 R i (m+k)*Aq k x
 ind:∀lam:Nat->Rat,(∀j,j < m->(rs m λi=>lam i*at2 R i (m+j))=0)->∀i,i < m->lam i=0
theorem rJ (hp:p < R.length)(hr:r < R.length)(i x:Nat):at2 (fQ R p r) i x=at2 R (sw p r i) x:=by
 show ((((fQ R p r).getD i []).getD x 0:Int):Rat)=_;rw[Cm hp hr];rfl
theorem LI.swap (h:LI m Aq R)(hl:R.length=m)(hp:p < m)(hr:r < m):LI m Aq (fQ R p r) where
 lin:=λi x hi hx=>by
  rw[rJ () (),h.lin _ x (zW hp hr hi) hx];exact aP λk _=>by rw[rJ () ()]
 ind:=λlam hz i hi=>by
  have:=h.ind (λi=>lam (sw p r i)) (λj hj=>by
   rw[<- hz j hj,<- qq3 m p r hp hr];exact aP λi _=>by
    show lam (sw p r (sw p r i))*_=_;rw[Pq,rJ () ()]) (sw p r i) (zW hp hr hi)
  have e:lam (sw p r (sw p r i))=0:=this
  rwa [Pq] at e
theorem vB (h:SI m w A0 R r col d sg)(hr:r < m)(hc:col < w)(he:ent R r col≠0)(hi:i < m)(x:Nat):
  at2 (cN R r col d) i x=if i=r then at2 R i x else (at2 R r col*at2 R i x - at2 R i col*at2 R r x) / (d:Rat):=by
 obtain⟨A,c,B,e⟩:=h.bar;have hl:=h.len;show ((((cN R r col d).getD i []).getD x 0:Int):Rat)=_;rw[qT ()]
 by_cases hir:i=r
 .rw[if_pos hir,if_pos hir];rfl
 .rw[if_neg hir,if_neg hir];obtain⟨z,h1,h2,_⟩:=Ko h B hr hc he hi hir x;rw[h1,h2,mG _ hir]
theorem SI.dne (h:SI m w A0 R r col d sg):(d:Rat)≠0:=by
 obtain⟨A,c,B,e⟩:=h.bar;exact B.dne
theorem LI.clear (h:LI m Aq R)(s:SI m w A0 R r col d sg)(hr:r < m)(hc:col < w)(he:ent R r col≠0):LI m Aq (cN R r col d):=by
 have dn:=s.dne;have hn:at2 R r col≠0:=λz=>he (Rat.intCast_inj.mp (by unfold at2 at z;simpa using z));have cl:=λ(i:Nat) (hi:i < m) (x:Nat)=>vB s hr hc he hi x;refine⟨λi x hi hx=>?_,λlam hz i hi=>?_⟩
 .rw[cl i hi x]
  by_cases e:i=r
  .rw[if_pos e,h.lin i x hi hx];exact aP λk _=>by rw[cl i hi,if_pos e]
  .rw[if_neg e,h.lin i x hi hx,h.lin r x hr hx];have:(rs m λk=>at2 (cN R r col d) i (m+k)*Aq k x)=rs m λk=>(at2 R r col / (d:Rat))*(at2 R i (m+k)*Aq k x)+(-(at2 R i col / (d:Rat)))*(at2 R r (m+k)*Aq k x):=aP λk _=>by rw[cl i hi,if_neg e];grind
   rw[this,dB,dY,dY];grind
 .-- the factors of the rows as they were
  have key:=h.ind (λi=>if i=r then lam r - (rs m λk=>if k=r then 0 else lam k*(at2 R k col / (d:Rat))) else lam i*(at2 R r col / (d:Rat))) (λj hj=>by
   have e0:=hz j hj;have e1:(rs m λi=>lam i*at2 (cN R r col d) i (m+j))=rs m λi=>(if i=r then lam r*at2 R r (m+j) else 0)+((if i=r then 0 else lam i*(at2 R r col / (d:Rat))*at2 R i (m+j))+(-(at2 R r (m+j)))*(if i=r then 0 else lam i*(at2 R i col / (d:Rat)))):=aP λi hi=>by
    rw[cl i hi]
    by_cases e:i=r
    .rw[if_pos e,if_pos e,if_pos e,if_pos e,e];grind
    .rw[if_neg e,if_neg e,if_neg e,if_neg e];grind
   rw[e1,dB,dB,dY,mQ m r _ hr] at e0;have e2:(rs m λi=>(if i=r then lam r - (rs m λk=>if k=r then 0 else lam k*(at2 R k col / (d:Rat))) else lam i*(at2 R r col / (d:Rat)))*at2 R i (m+j))=rs m λi=>(if i=r then (lam r - (rs m λk=>if k=r then 0 else lam k*(at2 R k col / (d:Rat))))*at2 R r (m+j) else 0)+(if i=r then 0 else lam i*(at2 R r col / (d:Rat))*at2 R i (m+j)):=aP λi _=>by
    by_cases e:i=r
    .rw[if_pos e,if_pos e,if_pos e,e];grind
    .rw[if_neg e,if_neg e,if_neg e];grind
   rw[e2,dB,mQ m r _ hr];grind)
  have other:∀k,k < m->k≠r->lam k=0:=λk hk e=>by
   have:=key k hk;rw[if_neg e] at this;have n2:at2 R r col / (d:Rat)≠0:=λz=>hn (by grind);grind
  by_cases e:i=r
  .have:=key r hr;rw[if_pos rfl] at this;have z:(rs m λk=>if k=r then 0 else lam k*(at2 R k col / (d:Rat)))=rs m λ_=>0:=aP λk hk=>by
    by_cases e:k=r
    .rw[if_pos e]
    .rw[if_neg e,other k hk e];grind
   rw[z,dR] at this;rw[e];grind
  .exact other i hi e
theorem LI.whole (h:LI m Aq R)(s:SI m w A0 R m m d sg)(hi:i < m)(hx:x < m):(rs m λk=>(at2 R i (m+k) / (d:Rat))*Aq k x)=if x=i then 1 else 0:=by
 obtain⟨A,c,B,e⟩:=s.bar;have dn:=B.dne;have i2:=B.i2 i x hi hx;rw[B.full rfl x hx] at i2;have l:=h.lin i x hi hx;rw[i2] at l;have:(rs m λk=>(at2 R i (m+k) / (d:Rat))*Aq k x)=(1 / (d:Rat))*rs m λk=>at2 R i (m+k)*Aq k x:=by
  rw[<- dY];exact aP λk _=>by grind
 rw[this,<- l];split
 .grind
 .grind
theorem LI.lame (h:LI m Aq R)(s:SI m w A0 R r m d sg)(hr:r < m):(∃k,k < m/\ent R (m - 1) (m+k)≠0)/\∀x,x < m->(rs m λk=>at2 R (m - 1) (m+k)*Aq k x)=0:=by
 obtain⟨A,c,B,e⟩:=s.bar;refine⟨Classical.byContradiction λn=>?_,λx hx=>?_⟩
 .have all:∀k,k < m->ent R (m - 1) (m+k)=0:=λk hk=>Classical.byContradiction λz=>n ⟨k,hk,z⟩;have:=h.ind (λi=>if i=m - 1 then 1 else 0) (λj hj=>by
   have:(rs m λi=>(if i=m - 1 then (1:Rat) else 0)*at2 R i (m+j))=rs m λ_=>0:=aP λi _=>by
    by_cases e:i=m - 1
    .rw[if_pos e,e];have:at2 R (m - 1) (m+j)=0:=by unfold at2;rw[all j hj];simp
     rw[this];grind
    .rw[if_neg e];grind
   rw[this,dR]) (m - 1) ()
  rw[if_pos rfl] at this;grind
 .rw[<- h.lin (m - 1) x () hx];exact B.i3 (m - 1) x () () hx
end Mq
namespace Shp
open PySem L2
inductive Fmd (K:Frag) (H0:Hp) (D:Addr) (H:Hp):List V->List (List Q2)->Prop where
 |nil:Fmd K H0 D H [] []
 |cons {u:Addr} {xs:List V} {ps:List Q2} {us:List V} {X:List (List Q2)} (n0:H0 u=none) (ne:u≠D) (h:H u=some (.lst xs)) (f:Fqs K H xs ps) (q:Fmd K H0 D H us X):Fmd K H0 D H (.ref u :: us) (ps :: X)
theorem Fmd.same (e:aV H H'):∀{xs:List V} {X:List (List Q2)},Fmd K H0 D H xs X->Fmd K H0 D H' xs X
 |_,_,.nil=>.nil
 |_,_,.cons n0 n h f q=>.cons n0 n (e _ _ h) (f.same e) (q.same e)
theorem Fmd.upd (hl:H D=some (.lst ys)):∀{xs:List V} {X:List (List Q2)},Fmd K H0 D H xs X->Fmd K H0 D (L2.upd H D o) xs X
 |_,_,.nil=>.nil
 |_,_,.cons n0 n h f q=>.cons n0 n (by rw[aX n];exact h) (f.upd hl) (q.upd hl)
theorem Fmd.length:∀{xs:List V} {X:List (List Q2)},Fmd K H0 D H xs X->xs.length=X.length
 |_,_,.nil=>rfl
 |_,_,.cons _ _ _ _ q=>by rw[length_cons,length_cons,q.length]
theorem Fmd.app:∀{xs ys:List V} {X Y:List (List Q2)},Fmd K H0 D H xs X->Fmd K H0 D H ys Y->Fmd K H0 D H (xs++ys) (X++Y)
 |_,_,_,_,.nil,k=>k
 |_,_,_,_,.cons n0 n h f q,k=>.cons n0 n h f (q.app k)
def oR (X:List (List Q2)):Mat:=λi j=>Mq.val ((X.getD i []).getD j Mq.z0)
def fG (m i:Nat)(row:List Q2):List Int:=iw row++(List.range m).map λc=>if c=i then dA row else 0
def gG (X:List (List Q2)):List (List Int):=X.mapIdx λi row=>fG X.length i row
theorem mE (X:List (List Q2)):(gG X).length=X.length:=by unfold gG;simp
theorem mZ (h:i < X.length):(gG X).getD i []=fG X.length i (X.getD i []):=by
 unfold gG;rw[getD_eq_getElem?_getD,getElem?_mapIdx,getD_eq_getElem?_getD,getElem?_eq_getElem h];rfl
theorem tV {X:List (List Q2)}(h:i < X.length):X[i]?=some (X.getD i []):=by rw[getD_eq_getElem?_getD,getElem?_eq_getElem h];rfl
theorem tH (m i:Nat)(row:List Q2):(fG m i row).length=row.length+m:=by unfold fG;simp[kN]
theorem sY (hX:fP X)(hw:∀row∈X,row.length=X.length)(hi:i < X.length)(hx:x < X.length):Mq.at2 (gG X) i x=((dA (X.getD i []):Int):Rat)*oR X i x:=by
 have mem:=mem_of_getElem? (tV hi);show ((((gG X).getD i []).getD x 0:Int):Rat)=_;rw[mZ hi];unfold fG;have l:=hw _ mem;rw[getD_eq_getElem?_getD,getElem?_append_left (by rw[kN];lia),<- getD_eq_getElem?_getD];exact Ty (hX _ mem) ()
theorem wC (hw:∀row∈X,row.length=X.length)(hi:i < X.length)(hk:k < X.length):ent (gG X) i (X.length+k)=if k=i then dA (X.getD i []) else 0:=by
 have mem:=mem_of_getElem? (tV hi);unfold ent;rw[mZ hi];unfold fG;have l:=hw _ mem;rw[getD_eq_getElem?_getD,getElem?_append_right (by rw[kN];lia),kN,l,Nat.add_sub_cancel_left,getElem?_map,getElem?_range hk];rfl
theorem Lh (hX:fP X)(hw:∀row∈X,row.length=X.length):Mq.LI X.length (oR X) (gG X) where
 lin:=λi x hi hx=>by
  rw[sY hX hw hi hx];have:(Mq.rs X.length λk=>Mq.at2 (gG X) i (X.length+k)*oR X k x)=Mq.rs X.length λk=>if k=i then ((dA (X.getD i []):Int):Rat)*oR X i x else 0:=aP λk hk=>by
   show ((ent (gG X) i (X.length+k):Int):Rat)*_=_;rw[wC hw hi hk]
   by_cases e:k=i
   .rw[if_pos e,if_pos e,e]
   .rw[if_neg e,if_neg e];simp
  rw[this,Mq.mQ _ _ _ hi]
 ind:=λlam hz i hi=>by
  have e:=hz i hi;have:(Mq.rs X.length λj=>lam j*Mq.at2 (gG X) j (X.length+i))=Mq.rs X.length λj=>if j=i then lam i*((dA (X.getD i []):Int):Rat) else 0:=aP λk hk=>by
   show _*((ent (gG X) k (X.length+i):Int):Rat)=_;rw[wC hw hk hi]
   by_cases e:k=i
   .rw[if_pos e,if_pos e.symm,e]
   .rw[if_neg e,if_neg (Ne.symm e)];simp
  rw[this,Mq.mQ _ _ _ hi] at e;have g:=uL (hX _ (mem_of_getElem? (tV hi)));have n:=dZ (show dA (X.getD i [])≠0 by lia);grind
theorem Jl (h:∀i j,i < X.length->j < X.length->Mq.at2 R i j=((dA (X.getD i []):Int):Rat)*oR X i j):Mq.det X.length (Mq.at2 R)=((tT X:Int):Rat)*wgt X:=by
 unfold wgt;have hb:=rN X X.length (Nat.le_refl _);rw[take_length] at hb;rw[hb,<- sU];exact cS λi j hi hj=>h i j hi hj
theorem Ep (hX:fP X)(hR:Mq.det X.length (Mq.at2 R)=((tT X:Int):Rat)*wgt X)(h:SI X.length w (Mq.at2 R) R' r X.length d sg):(r < X.length/\wgt X=0)\/(r=X.length/\wgt X≠0):=by
 have b1:=Bp hX X.length (Nat.le_refl _);rw[take_length] at b1;have bn:=dZ (show tT X≠0 by lia);obtain⟨A,c,B,e⟩:=h.bar;have rm:=B.rm;have dn:=B.dne;clear B
 by_cases hr:r < X.length
 .left
  have e:=h.lame hr;rw[hR] at e;exact⟨hr,by grind⟩
 .right
  have er:r=X.length:=by lia
  subst er;refine⟨rfl,λz=>?_⟩;have e:=h.whole;rw[hR,z] at e;rcases h.one with q | q
  .rw[q] at e;simp at e;grind
  .rw[q,Rat.intCast_neg] at e;simp at e;grind
structure Stp (m w:Nat) (A0:Mat) (Pr:List (List Int)->Prop):Prop where
 sw:∀R r col d sg p,SI m w A0 R r col d sg->r < p->p < m->Pr R->Pr (fQ R p r)
 cl:∀R r col d sg,SI m w A0 R r col d sg->r < m->col < w->ent R r col≠0->Pr R->Pr (cN R r col d)
theorem Rv:Stp m w A0 (Mq.LI m Aq):=
 ⟨λR r col d sg p s h1 h2 h=>h.swap s.len h2 (),λR r col d sg s h1 h2 h3 h=>h.clear s h1 h2 h3⟩
inductive Hw (K:Frag) (vs:List V) (H:Hp) (Q:VK) (E:XK):Prop where
 |mk (l:Addr) (ts:List Int) (pv:Int) (n:Nat):vs=[.ref l,.int pv]->SqL K H l (ts.map V.int)->ts.length<=100->pv≠0->Mq.B n pv->n<=9000->(∀l' zs H',aV H H'->H l'=none->H' l'=some (.lst zs)->Fqs K H' zs (ts.map λt=>red t pv)->Q (.ref l') H')->Hw K vs H Q E
end Shp
namespace L2
open PySem
theorem Ss (h:X.K=K):SlR X (Xw K):=by subst h;exact gK
end L2
namespace Mq
theorem Th {row:List Q2}(h:j < row.length):row[j]?=some (row.getD j z0):=by rw[getD_eq_getElem?_getD,getElem?_eq_getElem h];rfl
end Mq
namespace Shp
open PySem L2
theorem Fmd.get:∀{xs:List V} {X:List (List Q2)} {i:Nat} {x:V},Fmd K H0 D H xs X->xs[i]?=some x->∃u ys ps,x=.ref u/\X[i]?=some ps/\H0 u=none/\u≠D/\H u=some (.lst ys)/\Fqs K H ys ps
 |_,_,0,_,.cons n0 n h f q,e=>by simp at e;exact⟨_,_,_,e.symm,rfl,n0,n,h,f⟩
 |_,_,i+1,_,.cons n0 n h f q,e=>by simp at e;exact q.get e
end Shp
namespace Mq
def KI (m:Nat)(A0:Mat)(R:List (List Int)):Prop:=∀Φ,Lin Φ->(∀k,k < m->Φ (at2 R k)=0)->∀i,i < m->Φ (A0 i)=0
theorem KI.swap (h:KI m A0 R)(hl:R.length=m)(hp:p < m)(hr:r < m):KI m A0 (fQ R p r):=λΦ lin hz=>by
 refine h Φ lin λk hk=>?_;have e:at2 R k=at2 (fQ R p r) (sw p r k):=by
  funext x
  rw[rJ () (),Pq]
 rw[e];exact hz _ (zW hp hr hk)
theorem KI.clear (h:KI m A1 R)(s:SI m w A0 R r col d sg)(hr:r < m)(hc:col < w)(he:ent R r col≠0):KI m A1 (cN R r col d):=λΦ lin hz=>by
 have dn:=s.dne;have hn:at2 R r col≠0:=λz=>he (Rat.intCast_inj.mp (by unfold at2 at z;simpa using z));have cl:=λ(i:Nat) (hi:i < m) (x:Nat)=>vB s hr hc he hi x;have zr:Φ (at2 R r)=0:=by
  have e:at2 R r=at2 (cN R r col d) r:=by funext x;rw[cl r hr x,if_pos rfl]
  rw[e];exact hz r hr
 refine h Φ lin λk hk=>?_
 by_cases e:k=r
 .rw[e];exact zr
 .have e2:at2 R k=λx=>(λx=>((d:Rat) / at2 R r col)*at2 (cN R r col d) k x) x+(at2 R k col / at2 R r col)*at2 R r x:=by
   funext x
   show _=((d:Rat) / at2 R r col)*at2 (cN R r col d) k x+_;rw[cl k hk x,if_neg e];grind
  rw[e2,lin,lin.mul,hz k hk,zr];grind
theorem KI.whole (h:KI m A1 R)(s:SI m w A0 R m m d sg)(hi:i < m):(rs m λk=>A1 i k*(at2 R k m / (d:Rat)))=A1 i m:=by
 obtain⟨A,c,B,e⟩:=s.bar;have dn:=B.dne;have:=h (λf=>(rs m λk=>f k*(at2 R k m / (d:Rat))) - f m) (λx y l=>by
  have:(rs m λk=>(x k+l*y k)*(at2 R k m / (d:Rat)))=(rs m λk=>x k*(at2 R k m / (d:Rat))+l*(y k*(at2 R k m / (d:Rat)))):=aP λk _=>by grind
  show (rs m λk=>(x k+l*y k)*(at2 R k m / (d:Rat))) - (x m+l*y m)=((rs m λk=>x k*(at2 R k m / (d:Rat))) - x m)+l*((rs m λk=>y k*(at2 R k m / (d:Rat))) - y m)
  rw[this,dB,dY];grind) (λk hk=>by
  have:(rs m λj=>at2 R k j*(at2 R j m / (d:Rat)))=rs m λj=>if j=k then (d:Rat)*(at2 R k m / (d:Rat)) else 0:=aP λj hj=>by
   have i2:=B.i2 k j hk hj;rw[B.full rfl j hj] at i2;rw[i2]
   by_cases z:j=k
   .rw[if_pos z,if_pos z,z]
   .rw[if_neg z,if_neg z];grind
  show (rs m λj=>at2 R k j*(at2 R j m / (d:Rat))) - at2 R k m=0;rw[this,mQ m k _ hk];grind) i hi
 have e2:(rs m λk=>A1 i k*(at2 R k m / (d:Rat))) - A1 i m=0:=this;grind
end Mq
namespace Shp
open PySem L2
def lZ (X:List (List Q2))(qs:List Q2):List (List Q2):=zipWith (λrow q=>row++[q]) X qs
def iJ (X:List (List Q2))(qs:List Q2):List (List Int):=(lZ X qs).map iw
section
variable {X:List (List Q2)} {qs:List Q2}
theorem pN (hl:qs.length=X.length):(lZ X qs).length=X.length:=by unfold lZ;simp[hl]
theorem Ey (hl:qs.length=X.length):(iJ X qs).length=X.length:=by unfold iJ;rw[length_map,pN hl]
theorem qH (hl:qs.length=X.length)(hi:i < X.length):(lZ X qs).getD i []=X.getD i []++[qs.getD i Mq.z0]:=by
 unfold lZ;rw[getD_eq_getElem?_getD,getElem?_zipWith,tV hi,Mq.Th (show i < qs.length by lia)];rfl
theorem yA (hl:qs.length=X.length)(hi:i < X.length):(iJ X qs).getD i []=iw (X.getD i []++[qs.getD i Mq.z0]):=by
 unfold iJ;rw[getD_eq_getElem?_getD,getElem?_map,tV (X:=lZ X qs) (by rw[pN hl];exact hi),qH hl hi];rfl
theorem uF (hX:fP X)(hq:Mq.Pos qs)(hl:qs.length=X.length)(hi:i < X.length):Mq.Pos (X.getD i []++[qs.getD i Mq.z0]):=λp hp=>by
 rcases mem_append.mp hp with z | z
 .exact hX _ (mem_of_getElem? (tV hi)) p z
 .have e:p=qs.getD i Mq.z0:=by simpa using z
  rw[e];exact Mq.Ox hq i
theorem Hl (hX:fP X)(hq:Mq.Pos qs)(hl:qs.length=X.length):fP (lZ X qs):=λrow hr=>by
 obtain⟨i,hi,rfl⟩:=getElem_of_mem hr;have hi':i < X.length:=by rw[pN hl] at hi;exact hi
 have e:=qH hl hi';rw[getD_eq_getElem?_getD,getElem?_eq_getElem hi] at e;have e':(lZ X qs)[i]=X.getD i []++[qs.getD i Mq.z0]:=e;rw[e'];exact uF hX hq hl hi'
theorem wL (hX:fP X)(hq:Mq.Pos qs)(hl:qs.length=X.length)(hw:∀row∈X,row.length=X.length)(hi:i < X.length)(hx:x < X.length+1):
  Mq.at2 (iJ X qs) i x=((dA ((lZ X qs).getD i []):Int):Rat)*if x < X.length then oR X i x else Mq.val (qs.getD i Mq.z0):=by
 have l:=hw _ (mem_of_getElem? (tV hi));show ((((iJ X qs).getD i []).getD x 0:Int):Rat)=_;rw[yA hl hi,qH hl hi,Ty (uF hX hq hl hi) (by rw[List.length_append,l];simpa using hx)];congr 1
 by_cases h:x < X.length
 .rw[if_pos h,getD_eq_getElem?_getD,getElem?_append_left (by rw[l];exact h),<- getD_eq_getElem?_getD];rfl
 .have ex:x=X.length:=by lia
  rw[if_neg h,getD_eq_getElem?_getD,getElem?_append_right (by rw[l];lia),l,ex,Nat.sub_self];rfl
theorem Xg (hX:fP X)(hq:Mq.Pos qs)(hl:qs.length=X.length)(hw:∀row∈X,row.length=X.length):Mq.det X.length (Mq.at2 (iJ X qs))=((tT (lZ X qs):Int):Rat)*wgt X:=by
 unfold wgt;have hb:=rN (lZ X qs) (lZ X qs).length (Nat.le_refl _);rw[take_length,pN hl] at hb;rw[hb,<- sU];refine cS λi j hi hj=>?_;rw[wL hX hq hl hw hi (),if_pos hj];rfl
theorem Mp (fn:f≠0)(hR:Mq.det X.length (Mq.at2 R)=f*wgt X)(h:SI X.length w (Mq.at2 R) R' r X.length d sg):(r < X.length/\wgt X=0)\/(r=X.length/\wgt X≠0):=by
 obtain⟨A,c,B,e⟩:=h.bar;have rm:=B.rm;have dn:=B.dne;clear B
 by_cases hr:r < X.length
 .left
  have e:=h.lame hr;rw[hR] at e;exact⟨hr,by grind⟩
 .right
  have er:r=X.length:=by lia
  subst er;refine⟨rfl,λz=>?_⟩;have e:=h.whole;rw[hR,z] at e;rcases h.one with q | q
  .rw[q] at e;simp at e;grind
  .rw[q,Rat.intCast_neg] at e;simp at e;grind
theorem Qa (hX:fP X)(hq:Mq.Pos qs)(hl:qs.length=X.length)(hw:∀row∈X,row.length=X.length)(h:SI X.length w (Mq.at2 (iJ X qs)) R' r X.length d sg):(r < X.length/\wgt X=0)\/(r=X.length/\wgt X≠0):=by
 have b1:=Bp (Hl hX hq hl) (lZ X qs).length (Nat.le_refl _);rw[take_length] at b1;exact Mp (dZ (show tT (lZ X qs)≠0 by lia)) (Xg hX hq hl hw) h
end
structure Slv (X:List (List Q2)) (qs ps:List Q2):Prop where
 len:ps.length=X.length
 low:eI ps
 bd:∀p∈ps,Bd 9000 p
 sum:∀i,i < X.length->(Mq.rs X.length λj=>oR X i j*Mq.val (ps.getD j Mq.z0))=Mq.val (qs.getD i Mq.z0)
theorem qb8 (hX:fP X)(hq:Mq.Pos qs)(hl:qs.length=X.length)(hw:∀row∈X,row.length=X.length)(h:Mq.KI X.length (Mq.at2 (iJ X qs)) R)(s:SI X.length w (Mq.at2 (iJ X qs)) R X.length X.length d sg)(hi:i < X.length):(Mq.rs X.length λj=>oR X i j*(Mq.at2 R j X.length / (d:Rat)))=Mq.val (qs.getD i Mq.z0):=by
 have e:=h.whole s hi;rw[wL hX hq hl hw hi (),if_neg ()] at e;have e2:(Mq.rs X.length λk=>Mq.at2 (iJ X qs) i k*(Mq.at2 R k X.length / (d:Rat)))=((dA ((lZ X qs).getD i []):Int):Rat)*Mq.rs X.length λk=>oR X i k*(Mq.at2 R k X.length / (d:Rat)):=by
  rw[<- dY];refine aP λk hk=>?_;rw[wL hX hq hl hw hi (),if_pos hk];grind
 rw[e2] at e;have g:=uL (uF hX hq hl hi);have n:=dZ (show dA ((lZ X qs).getD i [])≠0 by rw[qH hl hi];lia);grind
end Shp
namespace Mq
def Wb (n:Nat)(x:Rat):Prop:=∃z:Int,x=(z:Rat)/\B n z
theorem Wb.mono (h:Wb n x)(l:n<=m):Wb m x:=by obtain⟨z,e,b⟩:=h;exact⟨z,e,b.mono l⟩
theorem Wb.mul (h:Wb n x)(k:Wb m y):Wb (n+m) (x*y):=by
 obtain⟨a,rfl,b⟩:=h;obtain⟨c,rfl,d⟩:=k;exact⟨a*c,by rw[Rat.intCast_mul],b.mul d⟩
theorem Wb.sub (h:Wb n x)(k:Wb n y):Wb (n+1) (x - y):=by
 obtain⟨a,rfl,b⟩:=h;obtain⟨c,rfl,d⟩:=k;exact⟨a - c,by rw[Rat.intCast_sub],b.sub d⟩
theorem Wb.neg (h:Wb n x):Wb n (-x):=by
 obtain⟨a,rfl,b⟩:=h;exact⟨-a,by rw[Rat.intCast_neg],b.neg⟩
theorem Wb.zero (n:Nat):Wb n 0:=⟨0,⋯,Nat.two_pow_pos _⟩
theorem Wb.one:Wb 1 1:=⟨1,⋯,show (1:Nat) < 2 ^ 1 by decide⟩
theorem Wb.sgn (h:Wb n x)(k:Nat):Wb n (Mq.sgn k*x):=by
 unfold Mq.sgn;split
 .rw[show (1:Rat)*x=x by grind];exact h
 .rw[show (-1:Rat)*x=-x by grind];exact h.neg
theorem Yy:∀K,(∀k,k < K->Wb n (f k))->∃z:Int,rs K f=(z:Rat)/\z.natAbs+K<=K*2 ^ n
 |0,_=>⟨0,by simp only[rs];simp,⋯⟩
 |K+1,h=>by
  obtain⟨z,e,b⟩:=Yy K λk hk=>h k ();obtain⟨y,e2,b2⟩:=h K ();refine⟨z+y,by simp only[rs];rw[e,e2,Rat.intCast_add],?_⟩;have:y.natAbs < 2 ^ n:=b2;rw[Nat.succ_mul];lia
def SB (n m:Nat)(R:List (List Int))(r col:Nat)(d:Int):Prop:=∃A c,Bar m A (at2 R) r col (d:Rat) c/\∀i x,i < m->Wb n (A i x)
theorem SB.start (hb:BdR n R):SB n m R 0 0 1:=
 ⟨at2 R,id,by
  have:=Bar.start (m:=m) (A:=at2 R) λi j=>⟨_,rfl⟩
  simpa using this,λi x _=>⟨ent R i x,rfl,hb i x⟩⟩
theorem SB.skip (h:SB n m R r col d)(hz:∀i,r<=i->i < m->ent R i col=0):SB n m R r (col+1) d:=by
 obtain⟨A,c,B,q⟩:=h;exact⟨A,c,B.skip λi h1 h2=>by unfold at2;rw[hz i h1 h2];simp,q⟩
theorem SB.swap (h:SB n m R r col d)(s:SI m w A0 R r col d sg)(hp:r < p)(hm:p < m):SB n m (fQ R p r) r col d:=by
 obtain⟨A,c,B,q⟩:=h;have hl:=s.len;refine⟨_,c,(B.swap () hm).congr λi hi=>?_,λi x hi=>q _ x (zW hm () hi)⟩
 funext x
 rw[rJ () ()]
theorem SB.clear (h:SB n m R r col d)(s:SI m w A0 R r col d sg)(hr:r < m)(hc:col < w)(he:ent R r col≠0):SB n m (cN R r col d) (r+1) (col+1) (ent R r col):=by
 obtain⟨A,c,B,q⟩:=h;have heq:at2 R r col≠0:=λz=>he (Rat.intCast_inj.mp (by unfold at2 at z;simpa using z));refine⟨A,_,(B.clear hr heq).congr λi hi=>?_,q⟩
 funext x
 rw[vB s hr hc he hi x];unfold clr
 by_cases e:i=r
 .rw[if_pos e,if_pos e,e]
 .rw[if_neg e,if_neg e]
end Mq
namespace Shp
open PySem L2
abbrev bq (n m:Nat):Nat:=(n+4)*(m+1)+7
end Shp
namespace L2
open PySem PyProof.Rows
theorem aL.calm {K:Frag}(F:aL P w K mg base (CX1 P w) k f fd ps sp):
  aL P w K mg base CX0 k f fd ps (λvs H Q _=>sp vs H Q (λ_ _ _=>False)):=
 ⟨λvs H Q E q=>F.len vs H Q _ q,λA outer s H args us vs Q E hr he hb hv hs=>codeAny_mono (F.run A outer s H args us vs Q _ hr he hb hv hs) λr s' h=>by
  cases r with
  |ok fl=>cases fl<;>exact h
  |error e=>
   obtain⟨a,C,d,H',_,_,_,_,_,_,z⟩:=h;exact z.elim⟩
open PySem.Spec
theorem aL.weak {K:Frag}(F:aL P w K mg base CX k f fd ps sp)(h:∀vs H Q E,sp' vs H Q E->sp vs H Q E):aL P w K mg base CX k f fd ps sp':=
 ⟨λvs H Q E q=>F.len vs H Q E (h _ _ _ _ q),λA outer s H args us vs Q E hr he hb hv hs=>F.run A outer s H args us vs Q E hr he hb hv (h _ _ _ _ hs)⟩
abbrev dD (m i j:Int):Prop:=0<=i/\i < m/\0<=j/\j < m
inductive Pn (K:Frag) (H:Hp) (m:Int):V->Option Int->Prop where
 |ok {i:Int} (h0:0<=i) (h1:i < m):Pn K H m (.int i) (some i)
 |no {i:Int} (h:¬(0<=i/\i < m)):Pn K H m (.int i) none
 |ty {v:V} {t:Value} (h:kF K H v t) (n:jI t):Pn K H m v none
inductive Zv (K:Frag) (H:Hp):V->Option Q2->Prop where
 |fr {u:Addr} {p:Q2} (h:Fq K H u p) (l:Low p):Zv K H (.ref u) (some p)
 |ty {v:V} {t:Value} (h:TyQ K H v t) (n:W.kitOne K t (.type "tuple")=some false):Zv K H v none
 |len {u:Addr} {x y z:V} (h:SqT K H u [x,y,z]):Zv K H (.ref u) none
 |n0 {u:Addr} {x y:V} {t:Value} (h:SqT K H u [x,y]) (ty:kF K H x t) (n:jI t):Zv K H (.ref u) none
 |n1 {u:Addr} {i:Int} {y:V} {t:Value} (h:SqT K H u [.int i,y]) (ty:kF K H y t) (n:jI t):Zv K H (.ref u) none
 |fb {u:Addr} {p:Q2} (h:Fq K H u p) (c:p.2 < 1\/(1<=p.2/\gc p.1 p.2≠1)):Zv K H (.ref u) none
theorem kF.same2 {K:Frag}(e:aV H H')(h:kF K H x t):kF K H' x t:=by
 cases h with
 |non=>exact .non
 |bl b=>exact .bl b
 |int i=>exact .int i
 |str x=>exact .str x
 |flt x=>exact .flt x
 |lst h=>exact .lst (e _ _ h)
 |frz h=>exact .frz (e _ _ h)
 |tup h=>exact .tup (e _ _ h)
 |dK h=>exact .dK (e _ _ h)
 |dT h=>exact .dT (e _ _ h)
 |ins h a b c d f=>exact .ins (e _ _ h) a b c d f
theorem TyQ.same2 {K:Frag}(e:aV H H')(h:TyQ K H x t):TyQ K H' x t:=by
 cases h with
 |of h=>exact .of (h.same2 e)
 |tup h=>exact .tup (e.seqT h)
 |lst h=>exact .lst (e.seq h)
theorem Pn.same {K:Frag}(e:aV H H')(h:Pn K H m v o):Pn K H' m v o:=by
 cases h with
 |ok a b=>exact .ok a b
 |no a=>exact .no a
 |ty a b=>exact .ty (a.same2 e) b
theorem Zv.same {K:Frag}(e:aV H H')(h:Zv K H v o):Zv K H' v o:=by
 cases h with
 |fr a b=>exact .fr (e.fq a) b
 |ty a b=>exact .ty (a.same2 e) b
 |len a=>exact .len (e.seqT a)
 |n0 a b c=>exact .n0 (e.seqT a) (b.same2 e) c
 |n1 a b c=>exact .n1 (e.seqT a) (b.same2 e) c
 |fb a b=>exact .fb (e.fq a) b
def okz (k:Kd)(o:Option Q2):Bool:=match o with
 |none=>false
 |some p=>match k with
  | .pc=>decide (0 < p.1)
  |_=>true
abbrev Bz (o:Option Q2):Prop:=∀p,o=some p->Bd 1000 p
inductive Jz (K:Frag) (vs:List V) (H:Hp) (Q:VK) (E:XK):Prop where
 |mk (v:V) (b:Int) (o:Option Int):vs=[v,.int b]->Pn K H b v o->Q (.bl o.isSome) H->Jz K vs H Q E
inductive Jv (K:Frag) (CR:Addr) (vs:List V) (H:Hp) (Q:VK) (E:XK):Prop where
 |mk (v:V) (c:Int) (o:Option Int):vs=[v,.int c]->Pn K H c v o->(o.isSome=true->Q .non H)->(o.isSome=false->E (.ref CR) none H)->Jv K CR vs H Q E
inductive Cj (K:Frag) (vs:List V) (H:Hp) (Q:VK) (E:XK):Prop where
 |mk (v:V) (o:Option Q2):vs=[v]->Zv K H v o->Q (.bl o.isSome) H->Cj K vs H Q E
inductive Sz (K:Frag) (vs:List V) (H:Hp) (Q:VK) (E:XK):Prop where
 |mk (v:V) (o:Option Q2):vs=[v]->Zv K H v o->Bz o->Q (.bl (okz .pc o)) H->Sz K vs H Q E
inductive Ja (K:Frag) (CZ:Addr) (vs:List V) (H:Hp) (Q:VK) (E:XK):Prop where
 |mk (k:Kd) (v:V) (o:Option Q2):vs=[.str k.wd,v]->Zv K H v o->Bz o->(okz k o=true->Q .non H)->(okz k o=false->E (.ref CZ) none H)->Ja K CZ vs H Q E
inductive oI (CN:Addr) (K:Frag) (CR CZ:Addr) (vs:List V) (H:Hp) (Q:VK) (E:XK):Prop where
 |mk (n l:Addr) (m:Int) (ds:List RD) (v z:V) (o:Option Int) (oz:Option Q2):vs=[.ref n,v,z]->dG CN K H n l m ds->Pn K H ds.length v o->Zv K H z oz->Bz oz->(o=none->E (.ref CR) none H)->(∀q d,o=some q->ds[q.toNat]?=some d->(okz d.1 oz=false->E (.ref CZ) none H)/\
  ∀p,oz=some p->okz d.1 oz=true->∀H',bG l H H'->dG CN K H' n l m (ds.set q.toNat (d.1,d.2.1,d.2.2.1,p))->Q .non H')->oI CN K CR CZ vs H Q E
inductive hV (CK:Kd->Addr) (K:Frag) (H:Hp):List V->List RD->Prop where
 |nil:hV CK K H [] []
 |cons {x z:Addr} {k:Kd} {i j:Int} {p:Q2} {xs:List V} {ds:List RD} (h:Rw CK H x k (.int i) (.int j) (.ref z)) (f:Fq K H z p) (q:hV CK K H xs ds):hV CK K H (.ref x :: xs) ((k,i,j,p) :: ds)
section
variable {CK:Kd->Addr} {K:Frag} {H H':Hp}
theorem hV.same (e:aV H H'):∀{xs:List V} {ds:List RD},hV CK K H xs ds->hV CK K H' xs ds
 |_,_,.nil=>.nil
 |_,_,.cons h f q=>.cons (h.same e) (e.fq f) (hV.same e q)
theorem hV.length:∀{xs:List V} {ds:List RD},hV CK K H xs ds->xs.length=ds.length
 |_,_,.nil=>rfl
 |_,_,.cons _ _ q=>by simp[hV.length q]
theorem hV.app:∀{xs ys:List V} {ds es:List RD},hV CK K H xs ds->hV CK K H ys es->hV CK K H (xs++ys) (ds++es)
 |_,_,_,_,.nil,r=>r
 |_,_,_,_,.cons h f q,r=>.cons h f (hV.app q r)
theorem hV.at:∀{xs:List V} {ds:List RD} {q:Nat} {d:RD},hV CK K H xs ds->ds[q]?=some d->∃x z,xs[q]?=some (.ref x)/\Rw CK H x d.1 (.int d.2.1) (.int d.2.2.1) (.ref z)/\Fq K H z d.2.2.2
 |_,_,_,_,.nil,h=>by simp at h
 |_,_,0,_,.cons h f _,e=>by simp at e;subst e;exact⟨_,_,rfl,h,f⟩
 |_,_,i+1,_,.cons _ _ q,e=>by simpa using hV.at q (by simpa using e)
theorem hV.upd (hl:H l=some (.lst ys)):∀{xs:List V} {ds:List RD},hV CK K H xs ds->hV CK K (L2.upd H l o) xs ds
 |_,_,.nil=>.nil
 |_,_,.cons (h:=h) f q=>by
  obtain⟨dx,e⟩:=h;exact .cons ⟨dx,by rw[aX (cZ e hl (λz=>by cases z))];exact e⟩ (f.upd hl) (hV.upd hl q)
end
inductive kS (CN:Addr) (K:Frag) (CK:Kd->Addr) (vs:List V) (H:Hp) (Q:VK) (E:XK):Prop where
 |mk (n l:Addr) (m:Int) (ds:List RD):vs=[.ref n]->dG CN K H n l m ds->ds.length<=100->(∀a xs H',aV H H'->H a=none->H' a=some (.lst xs)->hV CK K H' xs ds->Q (.ref a) H')->kS CN K CK vs H Q E
abbrev RE:=RD × Q2
def flF (hp:List Q2)(d:RD):Q2:=Mq.minus (hp.getD d.2.1.toNat (0,1)) (hp.getD d.2.2.1.toNat (0,1))
def jH (k:Kd)(l:List RD):List RD:=l.filter λd=>decide (d.1=k)
theorem Nw (k:Kd)(l:List RD)(e:RD):jH k (l++[e])=if e.1=k then jH k l++[e] else jH k l:=by
 unfold jH;rw[filter_append]
 by_cases h:e.1=k
 .rw[if_pos h];simp[h]
 .rw[if_neg h];simp[h]
inductive wX (K:Frag) (vs:List V) (H:Hp) (Q:VK) (E:XK):Prop where
 |mk (a b:Addr) (p q:Q2) (n m:Nat):vs=[.ref a,.ref b]->Fq K H a p->Fq K H b q->1<=p.2->1<=q.2->0 < q.1->Bd n p->Bd m q->n+m+1<=9000->pI H Q (lH p q)->wX K vs H Q E
section
variable {m n:Nat} {hp:List Q2} {d:RD} {e:RE}
theorem xY {ps:List Q2}(h:j < ps.length):ps[j]?=some (ps.getD j (0,1)):=by rw[getD_eq_getElem?_getD,getElem?_eq_getElem h];rfl
end
def rzl (ps:List Q2)(j:Nat)(a:Q2):List Q2:=ps.set j (kT (ps.getD j (0,1)) a)
def jS (M:List (List Q2))(i j:Nat):Q2:=(M.getD i []).getD j (0,1)
def rz (M:List (List Q2))(i j:Nat)(a:Q2):List (List Q2):=M.set i (rzl (M.getD i []) j a)
structure MxB (M:List (List Q2)) (h w n:Nat):Prop where
 h:M.length=h
 w:∀ps∈M,ps.length=w
 l:∀ps∈M,∀p∈ps,Low p/\Bd n p
theorem MxB.mono {h w n n':Nat}(b:MxB M h w n)(le:n<=n'):MxB M h w n':=⟨b.h,b.w,λps hp p hp'=>⟨(b.l ps hp p hp').1,(b.l ps hp p hp').2.mono le⟩⟩
theorem MxB.row {h w n i:Nat}(b:MxB M h w n)(hi:i < h):M[i]?=some (M.getD i [])/\M.getD i []∈M/\(M.getD i []).length=w:=by
 have hi':i < M.length:=by rw[b.h];exact hi
 have e:M.getD i []=M[i]:=by rw[getD_eq_getElem?_getD,getElem?_eq_getElem hi'];rfl
 rw[e];exact⟨getElem?_eq_getElem hi',getElem_mem hi',b.w _ (getElem_mem hi')⟩
theorem MxB.at {h w n i j:Nat}(b:MxB M h w n)(hi:i < h)(hj:j < w):(M.getD i [])[j]?=some (jS M i j)/\Low (jS M i j)/\Bd n (jS M i j):=by
 obtain⟨e,m,l⟩:=b.row hi;have hj':j < (M.getD i []).length:=by rw[l];exact hj
 have:=xY hj';exact⟨this,b.l _ m _ (mem_of_getElem? this)⟩
theorem MxB.rz {h w n k i j:Nat}(b:MxB M h w n)(hi:i < h)(hj:j < w)(la:Low a)(ba:Bd k a):MxB (L2.rz M i j a) h w (n+k+1):=by
 obtain⟨e,m,l⟩:=b.row hi;obtain⟨e2,l2,b2⟩:=b.at hi hj;refine⟨by unfold L2.rz;rw[length_set];exact b.h,λps hp=>?_,λps hp p hp'=>?_⟩
 .rcases mem_or_eq_of_mem_set hp with z | z
  .exact b.w ps z
  .rw[z];unfold rzl;rw[length_set];exact l
 .rcases mem_or_eq_of_mem_set hp with z | z
  .have:=b.l ps z p hp';exact⟨this.1,this.2.mono ()⟩
  .rw[z] at hp';unfold rzl at hp';rcases mem_or_eq_of_mem_set hp' with y | y
   .have:=b.l _ m p y;exact⟨this.1,this.2.mono ()⟩
   .rw[y];exact⟨rB l2.pos la.pos,Bm b2 ba l2.pos la.pos⟩
theorem Bj (b:MxB M h w n)(hi:i < h)(hj:j < w)(la:Low a)(x y:Nat):Mq.val (jS (L2.rz M i j a) x y)=Mq.val (jS M x y)+if i=x/\j=y then Mq.val a else 0:=by
 obtain⟨e,m,l⟩:=b.row hi;obtain⟨e2,l2,b2⟩:=b.at hi hj;have hl:i < M.length:=by rw[b.h];exact hi
 unfold jS L2.rz
 by_cases c:i=x
 .subst c;have e3:(M.set i (rzl (M.getD i []) j a)).getD i []=rzl (M.getD i []) j a:=by rw[getD_eq_getElem?_getD,getElem?_set,if_pos rfl,if_pos hl];rfl
  rw[e3];unfold rzl
  by_cases d:j=y
  .subst d;have e4:((M.getD i []).set j (kT ((M.getD i []).getD j (0,1)) a)).getD j (0,1)=kT ((M.getD i []).getD j (0,1)) a:=by rw[getD_eq_getElem?_getD,getElem?_set,if_pos rfl,if_pos (by rw[l];exact hj)];rfl
   rw[e4,if_pos ⟨rfl,rfl⟩];exact qO l2.pos la.pos
  .have e4:((M.getD i []).set j (kT ((M.getD i []).getD j (0,1)) a)).getD y (0,1)=(M.getD i []).getD y (0,1):=by rw[getD_eq_getElem?_getD,getElem?_set,if_neg d,<- getD_eq_getElem?_getD]
   rw[e4,if_neg (λz=>d z.2),Rat.add_zero]
 .have e3:(M.set i (rzl (M.getD i []) j a)).getD x []=M.getD x []:=by rw[getD_eq_getElem?_getD,getElem?_set,if_neg c,<- getD_eq_getElem?_getD]
  rw[e3,if_neg (λz=>c z.1),Rat.add_zero]
structure LnB (R:List Q2) (w n:Nat):Prop where
 w:R.length=w
 l:∀p∈R,Low p/\Bd n p
theorem LnB.mono {w n n':Nat}(b:LnB R w n)(le:n<=n'):LnB R w n':=⟨b.w,λp hp=>⟨(b.l p hp).1,(b.l p hp).2.mono le⟩⟩
theorem LnB.at {w n j:Nat}(b:LnB R w n)(hj:j < w):R[j]?=some (R.getD j (0,1))/\Low (R.getD j (0,1))/\Bd n (R.getD j (0,1)):=by
 have hj':j < R.length:=by rw[b.w];exact hj
 have:=xY hj';exact⟨this,b.l _ (mem_of_getElem? this)⟩
theorem LnB.set {w n j:Nat}(b:LnB R w n)(lq:Low q)(bq:Bd n q):LnB (R.set j q) w n:=⟨by rw[length_set];exact b.w,λp hp=>by
 rcases mem_or_eq_of_mem_set hp with z | z
 .exact b.l p z
 .rw[z];exact⟨lq,bq⟩⟩
theorem LnB.rz {w n k j:Nat}(b:LnB R w n)(hj:j < w)(la:Low a)(ba:Bd k a):LnB (rzl R j a) w (n+k+1):=by
 obtain⟨_,l2,b2⟩:=b.at hj;exact(b.mono ()).set (rB l2.pos la.pos) (Bm b2 ba l2.pos la.pos)
theorem zQ {R:List Q2}(hj:j < R.length):(R.set j q).getD y (0,1)=if j=y then q else R.getD y (0,1):=by
 rw[getD_eq_getElem?_getD,getElem?_set]
 by_cases e:j=y
 .rw[if_pos e,if_pos e,if_pos ()];rfl
 .rw[if_neg e,if_neg e,<- getD_eq_getElem?_getD]
theorem Jx (b:LnB R w n)(hj:j < w)(la:Low a)(y:Nat):Mq.val ((rzl R j a).getD y (0,1))=Mq.val (R.getD y (0,1))+if j=y then Mq.val a else 0:=by
 obtain⟨_,l2,b2⟩:=b.at hj;unfold rzl;rw[zQ (by rw[b.w];exact hj)]
 by_cases d:j=y
 .subst d;rw[if_pos rfl,if_pos rfl];exact qO l2.pos la.pos
 .rw[if_neg d,if_neg d,Rat.add_zero]
def SX (as:List Addr)(H H':Hp):Prop:=∀b o,H b=some o->b∉as->H' b=some o
theorem aV.sx (s:aV H H'):SX as H H':=λb o e _=>s b o e
theorem SX.trans (a:SX as H H1)(b:SX as H1 H2):SX as H H2:=λc o h n=>b c o (a c o h n) n
theorem SX.write (a:SX as H H1)(hl:l∈as):SX as H (upd H1 l o):=λc u h n=>by rw[aX (λz=>n (by rw[z];exact hl))];exact a c u h n
theorem SX.mono (a:SX as H H')(h:∀x∈as,x∈bs):SX bs H H':=λc o e n=>a c o e λz=>n (h c z)
theorem SX.same (s:aV H0 H)(a:SX as H H')(h:∀x∈as,H0 x=none):aV H0 H':=λc o e=>a c o (s c o e) λz=>by rw[h c z] at e;cases e
def Vg (as:List Addr)(H:Hp):Prop:=∀a∈as,∃xs,H a=some (.lst xs)
theorem SX.seqT {K:Frag}(hl:Vg as H)(e:SX as H H')(h:SqT K H a xs):SqT K H' a xs:=by
 have nx:∀{o:HO},H a=some o->(∀ys,o≠.lst ys)->a∉as:=λho n z=>by
  obtain⟨ys,hy⟩:=hl a z;rw[hy] at ho;exact n ys (Option.some.inj ho).symm
 rcases h with (h | ⟨u,h⟩) | h
 .exact .inl (.inl (e _ _ h (nx h λys z=>by cases z)))
 .exact .inl (.inr ⟨u,e _ _ h (nx h λys z=>by cases z)⟩)
 .exact .inr h
theorem SX.rw (hl:Vg as H)(e:SX as H H')(h:Rw CK H x k s g z):Rw CK H' x k s g z:=by
 obtain⟨dx,q⟩:=h;refine⟨dx,e _ _ q λy=>?_⟩;obtain⟨ys,hy⟩:=hl x y;rw[hy] at q;cases q
theorem SX.fqs {K:Frag}(hl:Vg as H)(e:SX as H H'):∀{xs:List V} {ps:List Q2},Fqs K H xs ps->Fqs K H' xs ps
 |_,_,.nil=>.nil
 |_,_,.cons f q=>.cons (e.seqT hl f) (SX.fqs hl e q)
structure Mx (K:Frag) (H:Hp) (D:Addr) (as:List Addr) (M:List (List Q2)):Prop where
 d:H D=some (.lst (as.map V.ref))
 n:as.Nodup
 nd:D∉as
 la:as.length=M.length
 r:∀(i:Nat) (a:Addr) (ps:List Q2),as[i]?=some a->M[i]?=some ps->∃xs,H a=some (.lst xs)/\Fqs K H xs ps
theorem Mx.lsts {K:Frag}(m:Mx K H D as M):Vg as H:=λa ha=>by
 obtain⟨i,hi⟩:=getElem?_of_mem ha;have il:=(List.getElem?_eq_some_iff.mp hi).1;have il':i < M.length:=by rw[<- m.la];exact il
 obtain⟨xs,h,_⟩:=m.r i a M[i] hi (getElem?_eq_getElem il');exact⟨xs,h⟩
theorem Mx.same {K:Frag}(s:aV H H')(m:Mx K H D as M):Mx K H' D as M:=⟨s _ _ m.d,m.n,m.nd,m.la,λi a ps h1 h2=>by
 obtain⟨xs,h,f⟩:=m.r i a ps h1 h2;exact⟨xs,s _ _ h,f.same s⟩⟩
theorem Mx.other {K:Frag}(m:Mx K H D as M)(hl:H l=some (.lst ys))(n1:l≠D)(n2:l∉as):Mx K (upd H l o) D as M:=⟨by rw[aX (Ne.symm n1)];exact m.d,m.n,m.nd,m.la,λi a ps h1 h2=>by
 obtain⟨xs,h,f⟩:=m.r i a ps h1 h2;exact⟨xs,by rw[aX (λz=>n2 (by rw[<- z];exact mem_of_getElem? h1))];exact h,f.upd hl⟩⟩
theorem Mx.set {K:Frag}(m:Mx K H D as M)(ha:as[i]?=some a)(hp:M[i]?=some ps)(hx:H a=some (.lst xs))(hF:Fqs K H xs ps)(s:aV H H1)(fv:Fq K H1 v q):Mx K (upd H1 a (.lst (xs.set j (.ref v)))) D as (M.set i (ps.set j q))/\SX as H (upd H1 a (.lst (xs.set j (.ref v)))):=by
 have ma:=mem_of_getElem? ha;have hx1:=s _ _ hx;have il:=(List.getElem?_eq_some_iff.mp ha).1;refine⟨⟨?_,m.n,m.nd,by rw[length_set];exact m.la,λk b qs h1 h2=>?_⟩,s.sx.write ma⟩
 .rw[aX (λz=>m.nd (by rw[z];exact ma))];exact s _ _ m.d
 .rw[getElem?_set] at h2
  by_cases c:i=k
  .subst c;rw[ha] at h1;have h1:a=b:=Option.some.inj h1;subst h1;rw[if_pos rfl] at h2;split at h2
   .have h2:ps.set j q=qs:=Option.some.inj h2;rw[<- h2];exact⟨_,aB,(Fqs.set fv j (hF.same s)).upd hx1⟩
   .cases h2
  .rw[if_neg c] at h2;obtain⟨ys,hy,fy⟩:=m.r k b qs h1 h2;have nb:b≠a:=λz=>by
    subst z;have kl:=(List.getElem?_eq_some_iff.mp h1).1;have e1:as[i]'il=b:=(List.getElem?_eq_some_iff.mp ha).2;have e2:as[k]'kl=b:=(List.getElem?_eq_some_iff.mp h1).2;exact c ((getElem_inj m.n).mp (e1.trans e2.symm))
   exact⟨ys,by rw[aX nb];exact s _ _ hy,(fy.same s).upd hx1⟩
def bY (k:Kd):Nat:=if k=.ho then 1 else 0
def en (M:List (List Q2))(d:RD)(c:Nat)(a:Q2):List (List Q2):=rz (rz M d.2.1.toNat c a) d.2.2.1.toNat c (Mq.minus (0,1) a)
def dl (s g x:Nat):Rat:=(if s=x then 1 else 0) - (if g=x then 1 else 0)
def cM (d:RD)(h x y:Nat):Rat:=match d.1 with
 | .pc=>dl d.2.1.toNat d.2.2.1.toNat x*dl d.2.1.toNat d.2.2.1.toNat y*(1 / Mq.val d.2.2.2)
 | .pu=>0
 | .ho=>dl d.2.1.toNat d.2.2.1.toNat x*(if h=y then 1 else 0)+(if h=x then 1 else 0)*dl d.2.1.toNat d.2.2.1.toNat y
def cR (d:RD)(h x:Nat):Rat:=match d.1 with
 | .pc=>0
 | .pu=>- dl d.2.1.toNat d.2.2.1.toNat x*Mq.val d.2.2.2
 | .ho=>if h=x then Mq.val d.2.2.2 else 0
def eqM:Nat->List RD->Nat->Nat->Rat
 |_,[],_,_=>0
 |h,d :: ds,x,y=>cM d h x y+eqM (h+bY d.1) ds x y
def eqR:Nat->List RD->Nat->Rat
 |_,[],_=>0
 |h,d :: ds,x=>cR d h x+eqR (h+bY d.1) ds x
def bO (ds:List RD):Nat:=(jH .ho ds).length
theorem fZ (ds:List RD)(d:RD):bO (ds++[d])=bO ds+bY d.1:=by
 unfold bO bY;rw[Nw];split
 .rw[List.length_append];rfl
 .rfl
theorem fE (d:RD)(ds:List RD):bO (d :: ds)=bY d.1+bO ds:=by
 unfold bO bY jH
 by_cases h:d.1=.ho
 .rw[filter_cons_of_pos (by exact decide_eq_true h),if_pos h,length_cons];lia
 .rw[filter_cons_of_neg (by simp[h]),if_neg h];lia
theorem Ez (d:RD)(x y:Nat):∀(ds:List RD) (h:Nat),eqM h (ds++[d]) x y=eqM h ds x y+cM d (h+bO ds) x y
 | [],h=>by show cM d h x y+0=0+cM d (h+0) x y;rw[Nat.add_zero];grind
 |e :: ds,h=>by
  show cM e h x y+eqM (h+bY e.1) (ds++[d]) x y=cM e h x y+eqM (h+bY e.1) ds x y+_;rw[Ez d x y ds,fE,Nat.add_assoc];grind
theorem Dy (d:RD)(x:Nat):∀(ds:List RD) (h:Nat),eqR h (ds++[d]) x=eqR h ds x+cR d (h+bO ds) x
 | [],h=>by show cR d h x+0=0+cR d (h+0) x;rw[Nat.add_zero];grind
 |e :: ds,h=>by
  show cR e h x+eqR (h+bY e.1) (ds++[d]) x=cR e h x+eqR (h+bY e.1) ds x+_;rw[Dy d x ds,fE,Nat.add_assoc];grind
theorem hJ:Low (1,1):=⟨∅,∅⟩
theorem mU (la:Low a)(ba:Bd k a):Low (Mq.minus (0,1) a)/\Bd (k+2) (Mq.minus (0,1) a)/\Mq.val (Mq.minus (0,1) a)=- Mq.val a:=by
 have h01:1<=((0,1):Q2).2:=by decide
 have b01:Bd 1 (0,1):=⟨show (0:Nat) < 2 ^ 1 by decide,show (1:Nat) < 2 ^ 1 by decide⟩
 refine⟨gO h01 la.pos,(kG b01 ba h01 la.pos).mono (),?_⟩;rw[iF h01 la.pos,tJ];grind
theorem Fe (b:MxB M h w n)(pt:dD (h:Int) d.2.1 d.2.2.1)(hc:c < w)(la:Low a)(ba:Bd k a):MxB (en M d c a) h w (n+2*k+4)/\∀x y,Mq.val (jS (en M d c a) x y)=Mq.val (jS M x y)+dl d.2.1.toNat d.2.2.1.toNat x*(if c=y then 1 else 0)*Mq.val a:=by
 obtain⟨i0,i1,j0,j1⟩:=pt;obtain⟨ln,bn,vn⟩:=mU la ba;have b1:=b.rz (i:=d.2.1.toNat) () hc la ba;have b2:=b1.rz (i:=d.2.2.1.toNat) () hc ln bn;refine⟨b2.mono (),λx y=>?_⟩;unfold en;rw[Bj b1 () hc ln,Bj b () hc la,vn];unfold dl
 by_cases c1:d.2.1.toNat=x<;>by_cases c2:d.2.2.1.toNat=x<;>by_cases c3:c=y<;>simp only[c1,c2,c3,true_and,and_true,false_and,and_false,and_self,if_true,if_false]<;>grind
def hM (M:List (List Q2))(d:RD)(c:Nat):List (List Q2):=rz (rz (en M d c (1,1)) c d.2.1.toNat (1,1)) c d.2.2.1.toNat (Mq.minus (0,1) (1,1))
def pM (M:List (List Q2))(d:RD):List (List Q2):=en (en M d d.2.1.toNat (lH (1,1) d.2.2.2)) d d.2.2.1.toNat (Mq.minus (0,1) (lH (1,1) d.2.2.2))
def pR (rs:List Q2)(d:RD):List Q2:=rzl (rzl rs d.2.1.toNat (Mq.minus (0,1) d.2.2.2)) d.2.2.1.toNat d.2.2.2
theorem iE:Bd 1 (1,1):=⟨show (1:Nat) < 2 ^ 1 by decide,show (1:Nat) < 2 ^ 1 by decide⟩
theorem h11:1<=((1,1):Q2).2:=by decide
theorem El (l:Low p)(h0:0 < p.1)(b:Bd k p):Low (lH (1,1) p)/\Bd (k+1) (lH (1,1) p)/\Mq.val (lH (1,1) p)=1 / Mq.val p:=by
 refine⟨qI h11 (),(uO iE b h11 ()).mono (),?_⟩;rw[qD h11 l.pos (),Mq.vY]
theorem qk8 {w n k m h:Nat}(b:MxB M w w n)(pt:dD (m:Int) d.2.1 d.2.2.1)(hm:m<=w)(hk:d.1=.pc)(l:Low d.2.2.2)(h0:0 < d.2.2.2.1)(bk:Bd k d.2.2.2):MxB (pM M d) w w (n+4*k+20)/\∀x y,Mq.val (jS (pM M d) x y)=Mq.val (jS M x y)+cM d h x y:=by
 obtain⟨i0,i1,j0,j1⟩:=pt;obtain⟨ls,bs,vs⟩:=El l h0 bk;obtain⟨ln,bn,vn⟩:=mU ls bs;have pt':dD (w:Int) d.2.1 d.2.2.1:=⟨i0,(),j0,()⟩
 obtain⟨b1,v1⟩:=Fe b pt' (c:=d.2.1.toNat) () ls bs;obtain⟨b2,v2⟩:=Fe b1 pt' (c:=d.2.2.1.toNat) () ln bn;refine⟨b2.mono (),λx y=>?_⟩;unfold pM;rw[v2,v1,vn,vs];unfold cM;rw[hk];show _=_+dl d.2.1.toNat d.2.2.1.toNat x*dl d.2.1.toNat d.2.2.1.toNat y*(1 / Mq.val d.2.2.2)
 generalize 1 / Mq.val d.2.2.2=v;generalize dl d.2.1.toNat d.2.2.1.toNat x=u;unfold dl
 by_cases c1:d.2.1.toNat=y<;>by_cases c2:d.2.2.1.toNat=y<;>simp only[c1,c2,if_true,if_false]<;>grind
theorem ql6 {w n m c:Nat}(b:MxB M w w n)(pt:dD (m:Int) d.2.1 d.2.2.1)(hm:m<=w)(hc:c < w)(hk:d.1=.ho):MxB (hM M d c) w w (n+20)/\∀x y,Mq.val (jS (hM M d c) x y)=Mq.val (jS M x y)+cM d c x y:=by
 obtain⟨i0,i1,j0,j1⟩:=pt;have pt':dD (w:Int) d.2.1 d.2.2.1:=⟨i0,(),j0,()⟩
 obtain⟨ln,bn,vn⟩:=mU hJ iE;obtain⟨b1,v1⟩:=Fe b pt' hc hJ iE;have b2:=b1.rz (i:=c) (j:=d.2.1.toNat) hc () hJ iE;have b3:=b2.rz (i:=c) (j:=d.2.2.1.toNat) hc () ln bn;refine⟨b3.mono (),λx y=>?_⟩;unfold hM;rw[Bj b2 hc () ln,Bj b1 hc () hJ,v1,vn,Mq.vY];unfold cM;rw[hk];show _=_+(dl d.2.1.toNat d.2.2.1.toNat x*(if c=y then 1 else 0)+(if c=x then 1 else 0)*dl d.2.1.toNat d.2.2.1.toNat y)
 generalize dl d.2.1.toNat d.2.2.1.toNat x=u;unfold dl
 by_cases c1:d.2.1.toNat=y<;>by_cases c2:d.2.2.1.toNat=y<;>by_cases c3:c=x<;>by_cases c4:c=y<;>simp only[c1,c2,c3,c4,true_and,and_true,false_and,and_false,and_self,if_true,if_false]<;>grind
theorem Yw {w n k m h:Nat}(b:LnB rs w n)(pt:dD (m:Int) d.2.1 d.2.2.1)(hm:m<=w)(hk:d.1=.pu)(l:Low d.2.2.2)(bk:Bd k d.2.2.2):LnB (pR rs d) w (n+4*k+20)/\∀x,Mq.val ((pR rs d).getD x (0,1))=Mq.val (rs.getD x (0,1))+cR d h x:=by
 obtain⟨i0,i1,j0,j1⟩:=pt;obtain⟨ln,bn,vn⟩:=mU l bk;have b1:=b.rz (j:=d.2.1.toNat) () ln bn;have b2:=b1.rz (j:=d.2.2.1.toNat) () l bk;refine⟨b2.mono (),λx=>?_⟩;unfold pR;rw[Jx b1 () l,Jx b () ln,vn];unfold cR;rw[hk];show _=_ + - dl d.2.1.toNat d.2.2.1.toNat x*Mq.val d.2.2.2;unfold dl
 by_cases c1:d.2.1.toNat=x<;>by_cases c2:d.2.2.1.toNat=x<;>simp only[c1,c2,if_true,if_false]<;>grind
theorem zG {m:Nat}:∀(ds:List RD) (h x:Nat),(∀d∈ds,dD (m:Int) d.2.1 d.2.2.1)->m<=h->h+bO ds<=x->eqR h ds x=0
 | [],_,_,_,_,_=>rfl
 |d :: ds,h,x,pt,hm,hx=>by
  rw[fE] at hx;have ih:=zG ds (h+bY d.1) x (λe he=>pt e (mem_cons_of_mem _ he)) () ();obtain⟨i0,i1,j0,j1⟩:=pt d ⋯;show cR d h x+eqR (h+bY d.1) ds x=0;rw[ih];have z:dl d.2.1.toNat d.2.2.1.toNat x=0:=by unfold dl;rw[if_neg (),if_neg ()];grind
  unfold cR
  cases hk:d.1 with
  |pc=>show (0:Rat)+0=0;grind
  |pu=>show - dl d.2.1.toNat d.2.2.1.toNat x*Mq.val d.2.2.2+0=0;rw[z];grind
  |ho=>
   have:bY d.1=1:=by unfold bY;rw[if_pos hk]
   show (if h=x then Mq.val d.2.2.2 else 0)+0=0;rw[if_neg ()];grind
theorem qq9 {rs:List Q2}{w n k m c:Nat}{d:RD}(b:LnB rs w n)(hc:c < w)(hk:d.1=.ho)(l:Low d.2.2.2)(bk:Bd k d.2.2.2)(h0:Mq.val (rs.getD c (0,1))=0):LnB (rs.set c d.2.2.2) w (n+k)/\∀x,Mq.val ((rs.set c d.2.2.2).getD x (0,1))=Mq.val (rs.getD x (0,1))+cR d c x:=by
 refine⟨(b.mono ()).set l (bk.mono ()),λx=>?_⟩;rw[zQ (by rw[b.w];exact hc)];unfold cR;rw[hk];show _=_+if c=x then Mq.val d.2.2.2 else 0
 by_cases e:c=x
 .subst e;rw[if_pos rfl,if_pos rfl,h0];grind
 .rw[if_neg e,if_neg e];grind
inductive pW (K:Frag) (vs:List V) (H:Hp) (Q:VK) (E:XK):Prop where
 |mk (l z:Addr) (j:Nat) (xs:List V) (ps:List Q2) (a:Q2) (n m:Nat):vs=[.ref l,.int (j:Int),.ref z]->H l=some (.lst xs)->Fqs K H xs ps->j < ps.length->1<=(ps.getD j (0,1)).2->Bd n (ps.getD j (0,1))->Fq K H z a->1<=a.2->Bd m a->n+m+1<=9000->(∀v H1,aV H H1->Fq K H1 v (kT (ps.getD j (0,1)) a)->Q .non (upd H1 l (.lst (xs.set j (.ref v)))))->pW K vs H Q E
inductive uZ (K:Frag) (CK:Kd->Addr) (vs:List V) (H:Hp) (Q:VK) (E:XK):Prop where
 |mk (D x z:Addr) (zz:V) (as:List Addr) (M:List (List Q2)) (d:RD) (w n k c:Nat) (a:Q2):vs=[.ref D,.ref x,.int (c:Int),.ref z]->Mx K H D as M->MxB M w w n->Rw CK H x d.1 (.int d.2.1) (.int d.2.2.1) zz->dD (w:Int) d.2.1 d.2.2.1->c < w->Fq K H z a->Low a->Bd k a->n+2*k+4<=9000->(∀H',SX as H H'->Mx K H' D as (en M d c a)->Q .non H')->uZ K CK vs H Q E
inductive xQ (K:Frag) (CK:Kd->Addr) (vs:List V) (H:Hp) (Q:VK) (E:XK):Prop where
 |mk (D x zz:Addr) (as:List Addr) (M:List (List Q2)) (d:RD) (w n k:Nat):vs=[.ref D,.ref x]->Mx K H D as M->MxB M w w n->Rw CK H x d.1 (.int d.2.1) (.int d.2.2.1) (.ref zz)->Fq K H zz d.2.2.2->dD (w:Int) d.2.1 d.2.2.1->Low d.2.2.2->0 < d.2.2.2.1->Bd k d.2.2.2->n+4*k+20<=9000->(∀H',SX as H H'->Mx K H' D as (pM M d)->Q .non H')->xQ K CK vs H Q E
inductive qV (K:Frag) (CK:Kd->Addr) (vs:List V) (H:Hp) (Q:VK) (E:XK):Prop where
 |mk (R x zz:Addr) (ys:List V) (rs:List Q2) (d:RD) (w n k:Nat):vs=[.ref R,.ref x]->H R=some (.lst ys)->Fqs K H ys rs->LnB rs w n->Rw CK H x d.1 (.int d.2.1) (.int d.2.2.1) (.ref zz)->Fq K H zz d.2.2.2->dD (w:Int) d.2.1 d.2.2.1->Low d.2.2.2->Bd k d.2.2.2->n+4*k+20<=9000->(∀ys' H',SX [R] H H'->H' R=some (.lst ys')->Fqs K H' ys' (pR rs d)->Q .non H')->qV K CK vs H Q E
inductive vG (K:Frag) (CK:Kd->Addr) (vs:List V) (H:Hp) (Q:VK) (E:XK):Prop where
 |mk (D R x zz:Addr) (as:List Addr) (M:List (List Q2)) (ys:List V) (rs:List Q2) (d:RD) (w n c:Nat):vs=[.ref D,.ref R,.ref x,.int (c:Int)]->Mx K H D as M->MxB M w w n->H R=some (.lst ys)->Fqs K H ys rs->rs.length=w->R≠D->R∉as->Rw CK H x d.1 (.int d.2.1) (.int d.2.2.1) (.ref zz)->Fq K H zz d.2.2.2->dD (w:Int) d.2.1 d.2.2.1->c < w->n+20<=9000->(∀ys' H',SX (R :: as) H H'->Mx K H' D as (hM M d c)->H' R=some (.lst ys')->Fqs K H' ys' (rs.set c d.2.2.2)->Q .non H')->vG K CK vs H Q E
structure Fms (K:Frag) (H0 H:Hp) (us:List V) (X:List (List Q2)):Prop where
 l:us.length=X.length
 r:∀(i:Nat) (x:V) (ps:List Q2),us[i]?=some x->X[i]?=some ps->∃(a:Addr) (xs:List V),x=.ref a/\H0 a=none/\H a=some (.lst xs)/\Fqs K H xs ps
structure tQ (m:Nat) (ds:List RD) (N:Nat) (X:List (List Q2)) (Y:List Q2):Prop where
 x:MxB X (m - 1+bO ds) (m - 1+bO ds) N
 y:LnB Y (m - 1+bO ds) N
 vx:∀i j,Mq.val (jS X i j)=eqM m ds (i+1) (j+1)
 vy:∀i,Mq.val (Y.getD i (0,1))=eqR m ds (i+1)
def kL (kb:Nat->Nat):Nat->Nat
 |0=>0
 |i+1=>kL kb i+(4*kb i+20)
theorem zM (kb:Nat->Nat):∀{j:Nat},i<=j->kL kb i<=kL kb j
 |0,h=>by rw[Nat.le_zero.mp h];exact Nat.le_refl _
 |j+1,h=>by
  rcases Nat.eq_or_lt_of_le h with z | z
  .rw[z];exact Nat.le_refl _
  .have:=zM kb (i:=i) (j:=j) ();show _<=kL kb j+(4*kb j+20)
   lia
inductive vI (CN:Addr) (K:Frag) (vs:List V) (H:Hp) (Q:VK) (E:XK):Prop where
 |mk (n l:Addr) (m:Nat) (kb:Nat->Nat) (ds:List RD):vs=[.ref n]->dG CN K H n l (m:Int) ds->(∀i d,ds[i]?=some d->Ag (m:Int) d/\Bd (kb i) d.2.2.2)->1<=m->m<=20->ds.length<=40->kL kb ds.length+30<=8900->(∀t p r us ys X Y H',aV H H'->H' t=some (.tup [.ref p,.ref r])->H p=none->H r=none->H' p=some (.lst us)->H' r=some (.lst ys)->Fms K H H' us X->Fqs K H' ys Y->(∀x∈us,x≠.ref p/\x≠.ref r)->tQ m ds (kL kb ds.length+1) X Y->Q (.ref t) H')->vI CN K vs H Q E
def Wr (ta:TA):TE:=λσ H Q=>ta σ H λvs H1=>∃n:Nat,vs=[.int (n:Int)]/\n<=1000/\∀l,H1 l=none->Q (.ref l) (upd H1 l (.lst ((List.range n).map λ(i:Nat)=>V.int (i:Int))))
theorem wZ:∀{n:Nat} {acc:List Value},acc.length=n->(∀(j:Nat) (v:Value),acc[j]?=some v->∃t,v=Value.int (j:Int) t)->cE ((List.range n).map λ(i:Nat)=>V.int (i:Int)) acc
 |0,[],_,_=>.nil
 |n+1,acc,hl,h=>by
  have e:acc=acc.take n++[acc[n]'()]:=by
   have h1:acc.take (n+1)=acc:=take_of_length_le ();have h2:acc.take (n+1)=acc.take n++[acc[n]'()]:=by rw[take_add_one,getElem?_eq_getElem ()];rfl
   rw[h1] at h2;exact h2
  rw[range_succ,map_append,e];refine cE.append (wZ (by rw[length_take];lia) λj v hj=>?_) (.cons ?_ .nil)
  .have hjn:j < n:=by
    have:=(List.getElem?_eq_some_iff.mp hj).1;rw[length_take] at this;lia
   rw[getElem?_take,if_pos hjn] at hj;exact h j v hj
  .obtain⟨t,ht⟩:=h n _ (getElem?_eq_getElem ());rw[ht];exact⟨t,rfl⟩
section
variable {X:Cx} {a:Expr} {p p2 pos pos2:Pos} {ta:TA}
theorem Bs (hc:X.calm=true)(hgl:Gl X "list")(hml:X.mg "list"=none)(hg:Gl X "range")(hm:X.mg "range"=none)(ha:PA X [a] ta)(hs:starEach [a] X.env=[(false,eval a X.env)]:=by rfl)(he:starEach [.Call (.Name "range" p2) [a] [] pos2] X.env=(false,eval (.Call (.Name "range" p2) [a] [] pos2) X.env) :: starEach [] X.env:=by rfl)(hpl:(backTo pos (starEach [] X.env)).any (·.1)=false:=by rfl) :
  PE X (.Call (.Name "list" p) [.Call (.Name "range" p2) [a] [] pos2] [] pos) (Wr ta):=by
 intro pins s σ H Q I h;refine wpAny_Call_Name_kw (jR I hgl hml PyProof.Rows.boot_list ?_);refine PyProof.Rows.callWith_type1 ?_ he hpl;rw[he];show wpAny _ _ (spliced ((false,eval (.Call (.Name "range" p2) [a] [] pos2) X.env) :: backTo pos (starEach [] X.env))) _ _ s;refine Calls.spliced_cons ?_;refine wpAny_Call_Name_kw (jR I hg hm boot_range (PyProof.Rows.callWith_type1 (thn (ha pos2 pins s σ H _ I h) λus s1 ⟨vs,H1,I1,r1,q1⟩=>?_) hs rfl));obtain⟨n,e,hn,q⟩:=q1;subst e
 cases r1 with
 |cons r rr=>
  cases rr
  obtain⟨t,rfl⟩:=r;refine call_range_1 ?_;refine Calls.spliced_nil ?_;have I2:∀(ob:Obj) (tk:Nat),Inv X pins σ H1 { s1 with heap:=s1.heap.push ob,toks:=tk }:=λob tk=>I1.kept (t':=tk) (λb ob e=>Heap.get?_push_of_some _ e);have hn24:(n:Nat)<=2 ^ 24:=by lia
  refine call_list_range (n:=n) (I1.ok.hd hc) (IsRange.new ..) (small_one () () () ()) (by rw[rangeSize_one];split<;>lia) hn24 (λh' tk acc' c' kp e items=>?_);have rl:cE ((List.range n).map λ(i:Nat)=>V.int (i:Int)) acc'.toList:=wZ (by rw[Array.length_toList];exact items.1) (λj v hj=>by
   obtain⟨t,ht⟩:=items.2 j v (by rw[<- Array.getElem?_toList];exact hj);exact⟨t,by rw[ht];congr 1;lia⟩)
  have hz:((List.range n).map λ(i:Nat)=>V.int (i:Int)).length<=sizeLine:=by rw[length_map,length_range,sizeLine_eq];lia
  exact⟨.ref _,_,(I2 _ _).laid (t':=tk) kp (Nat.le_refl _) (show dP X.prog X.w _ h' _ (.lst ((List.range n).map λ(i:Nat)=>V.int (i:Int))) from ⟨hz,acc'.toList,c',rl,e⟩),rfl,q _ ((I2 _ _).hok.fresh (Nat.le_refl _))⟩
end
def jn (ms:List Int)(s g:Nat):List Int:=ms.map λx=>if x=ms.getD g 0 then ms.getD s 0 else x
def Ml (m:Nat):List Int:=(List.range m).map λ(i:Nat)=>(i:Int)
def iX (ms:List Int)(d:RD):List Int:=if d.1=.pu then ms else jn ms d.2.1.toNat d.2.2.1.toNat
def mks (m:Nat)(ds:List RD):List Int:=ds.foldl iX (Ml m)
def mk (m:Nat)(ds:List RD)(p:Nat):Int:=(mks m ds).getD p 0
theorem pO (m:Nat)(ds:List RD)(d:RD):mks m (ds++[d])=iX (mks m ds) d:=by unfold mks;rw[foldl_append];rfl
theorem Np (ms:List Int)(d:RD):(iX ms d).length=ms.length:=by
 unfold iX;split
 .rfl
 .unfold jn;rw[length_map]
theorem zO:∀(ds:List RD) (ms:List Int),(ds.foldl iX ms).length=ms.length
 | [],_=>rfl
 |d :: ds,ms=>by show (ds.foldl iX (iX ms d)).length=_;rw[zO ds,Np]
theorem pQ (m:Nat)(ds:List RD):(mks m ds).length=m:=by unfold mks Ml;rw[zO,length_map,length_range]
theorem Ul {ms:List Int}{f:Int->Int}(h:p < ms.length):(ms.map f).getD p 0=f (ms.getD p 0):=by
 rw[getD_eq_getElem?_getD,getElem?_map,getD_eq_getElem?_getD,getElem?_eq_getElem h];rfl
theorem Qy (h:p < m):mk m [] p=(p:Int):=by
 show (Ml m).getD p 0=_;unfold Ml;rw[getD_eq_getElem?_getD,getElem?_map,getElem?_range h];rfl
theorem uQ (hk:d.1=.pu)(p:Nat):mk m (ds++[d]) p=mk m ds p:=by
 unfold mk;rw[pO];unfold iX;rw[if_pos hk]
theorem uW (hk:d.1≠.pu)(hp:p < m):mk m (ds++[d]) p=if mk m ds p=mk m ds d.2.2.1.toNat then mk m ds d.2.1.toNat else mk m ds p:=by
 unfold mk;rw[pO];unfold iX;rw[if_neg hk];unfold jn;rw[Ul (by rw[pQ];exact hp)]
inductive Cn (ds:List RD):Nat->Nat->Prop where
 |refl (p:Nat):Cn ds p p
 |row {d:RD} (h:d∈ds) (hk:d.1≠.pu):Cn ds d.2.1.toNat d.2.2.1.toNat
 |symm {p q:Nat} (h:Cn ds p q):Cn ds q p
 |trans {p q r:Nat} (h:Cn ds p q) (g:Cn ds q r):Cn ds p r
theorem Cn.mono (h:∀d∈ds,d∈es)(c:Cn ds p q):Cn es p q:=by
 induction c with
 |refl p=>exact .refl p
 |row hd hk=>exact .row (h _ hd) hk
 |symm _ ih=>exact .symm ih
 |trans _ _ a b=>exact .trans a b
theorem Df {m:Nat}:∀(n:Nat) (ds:List RD),ds.length=n->(∀d∈ds,dD (m:Int) d.2.1 d.2.2.1)->∀p q,p < m->q < m->mk m ds p=mk m ds q->Cn ds p q
 |0,ds,hl,_,p,q,hp,hq,e=>by
  have:ds=[]:=length_eq_zero_iff.mp hl;subst this;rw[Qy hp,Qy hq] at e;have:p=q:=by lia
  subst this;exact .refl p
 |n+1,ds,hl,pt,p,q,hp,hq,e=>by
  obtain⟨es,d,rfl⟩:∃es d,ds=es++[d]:=⟨ds.dropLast,ds.getLast (by intro z;rw[z] at hl;cases hl),(dropLast_concat_getLast _).symm⟩
  have le:es.length=n:=by rw[List.length_append] at hl;simpa using hl
  have ih:=Df n es le (λx hx=>pt x (mem_append_left _ hx));have up:∀{a b:Nat},Cn es a b->Cn (es++[d]) a b:=λc=>c.mono λx hx=>mem_append_left _ hx
  by_cases hk:d.1=.pu
  .rw[uQ hk,uQ hk] at e;exact up (ih p q hp hq e)
  .obtain⟨i0,i1,j0,j1⟩:=pt d ⋯;have hs:d.2.1.toNat < m:=by lia
   have hg:d.2.2.1.toNat < m:=by lia
   have rw':Cn (es++[d]) d.2.1.toNat d.2.2.1.toNat:=.row ⋯ hk;rw[uW hk hp,uW hk hq] at e
   by_cases a:mk m es p=mk m es d.2.2.1.toNat
   .have cp:=up (ih _ _ hp hg a);rw[if_pos a] at e
    by_cases b:mk m es q=mk m es d.2.2.1.toNat
    .exact cp.trans (up (ih _ _ hq hg b)).symm
    .rw[if_neg b] at e;exact cp.trans (rw'.symm.trans (up (ih _ _ hs hq e)))
   .rw[if_neg a] at e
    by_cases b:mk m es q=mk m es d.2.2.1.toNat
    .rw[if_pos b] at e;exact(up (ih _ _ hp hs e)).trans (rw'.trans (up (ih _ _ hq hg b)).symm)
    .rw[if_neg b] at e;exact up (ih _ _ hp hq e)
theorem uI {m:Nat}:∀(n:Nat) (ds:List RD),ds.length=n->(∀d∈ds,dD (m:Int) d.2.1 d.2.2.1)->∀d∈ds,d.1≠.pu->mk m ds d.2.1.toNat=mk m ds d.2.2.1.toNat
 |0,ds,hl,_,d,hd,_=>by
  have:ds=[]:=length_eq_zero_iff.mp hl;rw[this] at hd;cases hd
 |n+1,ds,hl,pt,x,hx,hkx=>by
  obtain⟨es,d,rfl⟩:∃es d,ds=es++[d]:=⟨ds.dropLast,ds.getLast (by intro z;rw[z] at hl;cases hl),(dropLast_concat_getLast _).symm⟩
  have le:es.length=n:=by rw[List.length_append] at hl;simpa using hl
  obtain⟨i0,i1,j0,j1⟩:=pt x hx;have hs:x.2.1.toNat < m:=by lia
  have hg:x.2.2.1.toNat < m:=by lia
  by_cases hk:d.1=.pu
  .rw[uQ hk,uQ hk];rcases mem_append.mp hx with z | z
   .exact uI n es le (λy hy=>pt y (mem_append_left _ hy)) x z hkx
   .have:x=d:=by simpa using z
    rw[this] at hkx;exact absurd hk hkx
  .rw[uW hk hs,uW hk hg];rcases mem_append.mp hx with z | z
   .have ih:=uI n es le (λy hy=>pt y (mem_append_left _ hy)) x z hkx;rw[ih]
   .have:x=d:=by simpa using z
    subst this;rw[if_pos rfl]
    by_cases c:mk m es x.2.1.toNat=mk m es x.2.2.1.toNat
    .rw[if_pos c]
    .rw[if_neg c]
theorem Cn.ind {R:Nat->Nat->Prop}(r:∀p,R p p)(s:∀p q,R p q->R q p)(t:∀p q x,R p q->R q x->R p x)(h:∀d∈ds,d.1≠.pu->R d.2.1.toNat d.2.2.1.toNat)(c:Cn ds p q):R p q:=by
 induction c with
 |refl p=>exact r p
 |row hd hk=>exact h _ hd hk
 |symm _ ih=>exact s _ _ ih
 |trans _ _ a b=>exact t _ _ _ a b
theorem Uj {m:Nat}(pt:∀d∈ds,dD (m:Int) d.2.1 d.2.2.1)(hp:p < m)(hq:q < m):mk m ds p=mk m ds q↔Cn ds p q:=
 ⟨Df _ ds rfl pt p q hp hq,λc=>Cn.ind (R:=λa b=>mk m ds a=mk m ds b) (λ_=>rfl) (λ_ _ e=>e.symm) (λ_ _ _ a b=>a.trans b) (λd hd hk=>uI _ ds rfl pt d hd hk) c⟩
theorem Kw:∀{m:Nat} {S:List Nat},S.Nodup->(∀p∈S,p < m)->S.length<=m
 |0,[],_,_=>Nat.le_refl _
 |0,p :: S,_,h=>absurd (h p (mem_cons_self ..)) (Nat.not_lt_zero _)
 |m+1,S,nd,h=>by
  have e:=Kw (m:=m) (S:=S.erase m) (nd.erase m) (λp hp=>by
   have h1:=h p (mem_of_mem_erase hp);have h2:p≠m:=λz=>by rw[z] at hp;exact(Nodup.not_mem_erase nd) hp
   lia)
  have:=length_erase_le (a:=m) (l:=S);have h3:S.length<=(S.erase m).length+1:=by
   rw[length_erase];split<;>lia
  lia
theorem Nx {m:Nat}{S:List Nat}(pt:∀d∈ds,dD (m:Int) d.2.1 d.2.2.1)(hf:f < m)(h1:f∈S)(h2:∀p∈S,p < m/\mk m ds p=mk m ds f)(h3:∀d∈ds,d.1≠.pu->(d.2.1.toNat∈S↔d.2.2.1.toNat∈S))(hp:p < m):p∈S↔mk m ds p=mk m ds f:=by
 refine⟨λh=>(h2 p h).2,λh=>?_⟩;exact(Cn.ind (R:=λa b=>a∈S↔b∈S) (λ_=>Iff.rfl) (λ_ _ e=>e.symm) (λ_ _ _ a b=>a.trans b) h3 ((Uj pt hf hp).mp h.symm)).mp h1
abbrev Stp:=Nat × Int
abbrev Br:=Nat × Nat × Nat
def stF (es:List Br)(p:Nat):List (Stp × Nat):=es.filterMap λe=>if e.2.1=p then some ((e.1,1),e.2.2) else if e.2.2=p then some ((e.1,-1),e.2.1) else none
abbrev WS:=List (Nat × List Stp)
def cH (w:WS):List Nat:=w.map (·.1)
def tF:WS->Nat->Option (List Stp)
 | [],_=>none
 |e :: w,p=>if e.1=p then some e.2 else tF w p
theorem iD {st:List Stp}:∀{w:WS},tF w p=some st->(p,st)∈w
 | [],h=>by cases h
 |e :: w,h=>by
  unfold tF at h
  by_cases c:e.1=p
  .rw[if_pos c] at h
   cases h
   obtain⟨a,b⟩:=e;have c:a=p:=c;subst c;exact mem_cons_self ..
  .rw[if_neg c] at h;exact mem_cons_of_mem _ (iD h)
theorem rD:∀{w:WS},p∈cH w->∃st,tF w p=some st
 | [],h=>by cases h
 |e :: w,h=>by
  unfold tF
  by_cases c:e.1=p
  .rw[if_pos c];exact⟨_,rfl⟩
  .rw[if_neg c];rcases mem_cons.mp h with z | z
   .exact absurd z.symm c
   .exact rD z
theorem rS:∀{w:WS},p∉cH w->tF w p=none
 | [],_=>rfl
 |e :: w,h=>by
  unfold tF;rw[if_neg (λz=>h (by rw[<- z];exact mem_cons_self ..))];exact rS λz=>h (mem_cons_of_mem _ z)
theorem Qg:(tF w p).isSome=true↔p∈cH w:=by
 by_cases c:p∈cH w
 .obtain⟨st,e⟩:=rD c;rw[e];exact⟨λ_=>c,λ_=>rfl⟩
 .rw[rS c];exact⟨λz=>(by cases z),λz=>absurd z c⟩
def inF (p:Nat)(s:WS × List Nat)(t:Stp × Nat):WS × List Nat:=if t.2∈cH s.1 then s else (s.1++[(t.2,(tF s.1 p).getD []++[t.1])],s.2++[t.2])
def lD (es:List Br)(s:WS × List Nat):WS × List Nat:=if s.2=[] then s else (stF es (s.2.getLastD 0)).foldl (inF (s.2.getLastD 0)) (s.1,s.2.dropLast)
def cJ (es:List Br)(b:Nat):Nat->WS × List Nat
 |0=>([(b,[])],[b])
 |n+1=>lD es (cJ es b n)
def xX (es:List Br)(b e:Nat):Option (List Stp):=tF (cJ es b 60).1 e
def qA (es:List Br)(s:Stp)(p q:Nat):Prop:=∃u v,(s.1,u,v)∈es/\((s.2=1/\p=u/\q=v)\/(s.2=-1/\p=v/\q=u))
inductive Pt (es:List Br) (b:Nat):List Stp->Nat->List Nat->Prop where
 |nil:Pt es b [] b [b]
 |snoc {st:List Stp} {p q:Nat} {pts:List Nat} {s:Stp} (h:Pt es b st p pts) (g:qA es s p q) (n:q∉pts):Pt es b (st++[s]) q (pts++[q])
theorem lL (h:t∈stF es p):qA es t.1 p t.2:=by
 unfold stF at h;obtain⟨e,he,ht⟩:=mem_filterMap.mp h
 by_cases c1:e.2.1=p
 .rw[if_pos c1] at ht
  cases ht
  exact⟨e.2.1,e.2.2,he,.inl ⟨rfl,c1.symm,rfl⟩⟩
 .rw[if_neg c1] at ht
  by_cases c2:e.2.2=p
  .rw[if_pos c2] at ht
   cases ht
   exact⟨e.2.1,e.2.2,he,.inr ⟨rfl,c2.symm,rfl⟩⟩
  .rw[if_neg c2] at ht;cases ht
theorem Tr (h:qA es s p q):q=p\/∃t∈stF es p,t.2=q:=by
 obtain⟨u,v,he,h⟩:=h
 by_cases c:q=p
 .exact .inl c
 refine .inr ?_;rcases h with ⟨_,rfl,rfl⟩ | ⟨_,rfl,rfl⟩
 .refine⟨((s.1,1),q),mem_filterMap.mpr ⟨_,he,?_⟩,rfl⟩;rw[if_pos rfl]
 .refine⟨((s.1,-1),q),mem_filterMap.mpr ⟨_,he,?_⟩,rfl⟩;rw[if_neg c,if_pos rfl]
structure WI (es:List Br) (b:Nat) (s:WS × List Nat):Prop where
 nd:(cH s.1).Nodup
 kb:b∈cH s.1
 pt:∀x st,(x,st)∈s.1->∃pts,Pt es b st x pts/\∀y∈pts,y∈cH s.1
 q:∀x∈s.2,x∈cH s.1
 cl:∀x∈cH s.1,x∉s.2->∀t y,qA es t x y->y∈cH s.1
theorem Og (es:List Br)(b:Nat):WI es b ([(b,[])],[b]):=by
 refine⟨by simp[cH],by simp[cH],λx st h=>?_,λx h=>?_,λx h n=>?_⟩
 .have:(x,st)=(b,[]):=by simpa using h
  cases this
  exact⟨[b],.nil,λy hy=>by simpa[cH] using hy⟩
 .simpa[cH] using h
 .have:x=b:=by simpa[cH] using h
  exact absurd (by simp[this]) n
theorem Ak (w:WS)(x:Nat)(st:List Stp):cH (w++[(x,st)])=cH w++[x]:=by unfold cH;rw[map_append];rfl
structure WJ (es:List Br) (b p:Nat) (T:List (Stp × Nat)) (s:WS × List Nat):Prop where
 nd:(cH s.1).Nodup
 kb:b∈cH s.1
 kp:p∈cH s.1
 pt:∀x st,(x,st)∈s.1->∃pts,Pt es b st x pts/\∀y∈pts,y∈cH s.1
 q:∀x∈s.2,x∈cH s.1
 cl:∀x∈cH s.1,x∉s.2->x≠p->∀t y,qA es t x y->y∈cH s.1
 t:∀t∈T,t.2∈cH s.1
theorem Jm (h:WJ es b p T s)(g:qA es t.1 p t.2):WJ es b p (T++[t]) (inF p s t):=by
 unfold inF
 by_cases c:t.2∈cH s.1
 .rw[if_pos c];refine { h with t:=λu hu=>?_ };rcases mem_append.mp hu with z | z
  .exact h.t u z
  .have:u=t:=by simpa using z
   rw[this];exact c
 .rw[if_neg c];obtain⟨sp,ep⟩:=rD h.kp;rw[ep];have up:∀{x:Nat},x∈cH s.1->x∈cH (s.1++[(t.2,sp++[t.1])]):=λhx=>by rw[Ak];exact mem_append_left _ hx
  have me:t.2∈cH (s.1++[(t.2,sp++[t.1])]):=by rw[Ak];simp
  refine⟨?_,up h.kb,up h.kp,λx st hx=>?_,λx hx=>?_,λx hx nx np=>?_,λu hu=>?_⟩
  .show (cH (s.1++[(t.2,sp++[t.1])])).Nodup;rw[Ak,nodup_append];refine⟨h.nd,⋯,λx hx y hy z=>?_⟩;have:y=t.2:=by simpa using hy
   exact c (by rw[<- this,<- z];exact hx)
  .rcases mem_append.mp hx with z | z
   .obtain⟨pts,h1,h2⟩:=h.pt x st z;exact⟨pts,h1,λy hy=>up (h2 y hy)⟩
   .have:(x,st)=(t.2,sp++[t.1]):=by simpa using z
    cases this
    obtain⟨pts,h1,h2⟩:=h.pt p sp (iD ep);refine⟨pts++[t.2],.snoc h1 g (λz=>c (h2 _ z)),λy hy=>?_⟩;rcases mem_append.mp hy with z | z
    .exact up (h2 y z)
    .have:y=t.2:=by simpa using z
     rw[this];exact me
  .rcases mem_append.mp hx with z | z
   .exact up (h.q x z)
   .have:x=t.2:=by simpa using z
    rw[this];exact me
  .have hx':x∈cH s.1:=by
    have hx2:x∈cH (s.1++[(t.2,sp++[t.1])]):=hx;rw[Ak] at hx2;rcases mem_append.mp hx2 with z | z
    .exact z
    .exact absurd (mem_append_right _ z) nx
   intro t' y hg;exact up (h.cl x hx' (λz=>nx (mem_append_left _ z)) np t' y hg)
  .rcases mem_append.mp hu with z | z
   .exact up (h.t u z)
   .have:u=t:=by simpa using z
    rw[this];exact me
theorem Be:∀(U T:List (Stp × Nat)) {s:WS × List Nat},WJ es b p T s->(∀t∈U,qA es t.1 p t.2)->WJ es b p (T++U) (U.foldl (inF p) s)
 | [],T,s,h,_=>by rw[append_nil];exact h
 |u :: U,T,s,h,g=>by
  have:=Be U (T++[u]) (Jm h (g u ⋯)) λt ht=>g t (mem_cons_of_mem _ ht);rw[List.append_assoc] at this;exact this
theorem Kr (h:q≠[]):q.getLastD 0∈q/\q=q.dropLast++[q.getLastD 0]:=by
 have e:q.getLastD 0=q.getLast h:=by rw[getLastD_eq_getLast?,getLast?_eq_some_getLast h];rfl
 rw[e];exact⟨getLast_mem h,(dropLast_concat_getLast h).symm⟩
theorem xE (h:WI es b s)(hq:s.2≠[]):WJ es b (s.2.getLastD 0) [] (s.1,s.2.dropLast):=by
 obtain⟨m,e⟩:=Kr hq;refine⟨h.nd,h.kb,h.q _ m,h.pt,λx hx=>h.q x (dropLast_subset _ hx),λx hx nx np=>h.cl x hx λz=>?_,λt ht=>by cases ht⟩;rw[e] at z;rcases mem_append.mp z with z | z
 .exact nx z
 .exact np (by simpa using z)
theorem Zm (h:WJ es b p (stF es p) s):WI es b s:=by
 refine⟨h.nd,h.kb,h.pt,h.q,λx hx nx t y hg=>?_⟩
 by_cases c:x=p
 .subst c;rcases Tr hg with z | ⟨u,hu,e⟩
  .rw[z];exact hx
  .rw[<- e];exact h.t u hu
 .exact h.cl x hx nx c t y hg
theorem Xt (h:WI es b s):WI es b (lD es s):=by
 unfold lD
 by_cases c:s.2=[]
 .rw[if_pos c];exact h
 .rw[if_neg c];have:=Be (stF es (s.2.getLastD 0)) [] (xE h c) λt ht=>lL ht;rw[nil_append] at this;exact Zm this
theorem kQ (es:List Br)(b:Nat):∀n,WI es b (cJ es b n)
 |0=>Og es b
 |n+1=>Xt (kQ es b n)
def muF (s:WS × List Nat):Nat:=2*(20 - s.1.length)+s.2.length
structure Ptm (m:Nat) (es:List Br):Prop where
 p:∀e∈es,e.2.1 < m/\e.2.2 < m
theorem qm1 (h:Ptm m es)(hb:b < m){st:List Stp}(p:Pt es b st x pts):x < m:=by
 cases p with
 |nil=>exact hb
 |snoc _ g _=>
  obtain⟨u,v,he,g⟩:=g;have:=h.p _ he;rcases g with ⟨_,_,rfl⟩ | ⟨_,_,rfl⟩
  .exact this.2
  .exact this.1
theorem Ax (h:Ptm m es)(hb:b < m)(pt:∀x st,(x,st)∈w->∃pts,Pt es b st x pts/\∀y∈pts,y∈cH w):∀x∈cH w,x < m:=λx hx=>by
 obtain⟨st,e⟩:=rD hx;obtain⟨pts,p,_⟩:=pt x st (iD e);exact qm1 h hb p
theorem Sg (h:Ptm m es)(hb:b < m)(nd:(cH w).Nodup)(pt:∀x st,(x,st)∈w->∃pts,Pt es b st x pts/\∀y∈pts,y∈cH w):w.length<=m:=by
 have:=Kw nd (Ax h hb pt);unfold cH at this
 rwa [length_map] at this
theorem qq8 (hm:Ptm m es)(hb:b < m)(h20:m<=20)(h:WJ es b p T s)(g:qA es t.1 p t.2):muF (inF p s t)<=muF s:=by
 have h':=Jm h g;have le:=Sg hm hb h'.nd h'.pt;unfold inF at le ⊢
 by_cases c:t.2∈cH s.1
 .rw[if_pos c];exact Nat.le_refl _
 .rw[if_neg c] at le ⊢;unfold muF;simp only[List.length_append,length_cons,length_nil] at le ⊢;lia
theorem Av (hm:Ptm m es)(hb:b < m)(h20:m<=20):∀(U T:List (Stp × Nat)) {s:WS × List Nat},WJ es b p T s->(∀t∈U,qA es t.1 p t.2)->muF (U.foldl (inF p) s)<=muF s
 | [],_,_,_,_=>Nat.le_refl _
 |u :: U,T,s,h,g=>Nat.le_trans (Av hm hb h20 U (T++[u]) (Jm h (g u ⋯)) λt ht=>g t (mem_cons_of_mem _ ht)) (qq8 hm hb h20 h (g u ⋯))
theorem Dx (h:s.2≠[]):muF (s.1,s.2.dropLast)+1=muF s:=by
 have:0 < s.2.length:=length_pos_iff.mpr h;show 2*(20 - s.1.length)+s.2.dropLast.length+1=2*(20 - s.1.length)+s.2.length;rw[length_dropLast];lia
theorem Jd (hm:Ptm m es)(hb:b < m)(h20:m<=20)(h:WI es b s)(hq:s.2≠[]):muF (lD es s)+1<=muF s:=by
 unfold lD;rw[if_neg hq];have:=Av hm hb h20 (stF es (s.2.getLastD 0)) [] (xE h hq) λt ht=>lL ht;have e:=Dx hq;lia
theorem zK (h:(cJ es b i).2=[]):∀n,cJ es b (i+n)=cJ es b i
 |0=>rfl
 |n+1=>by
  show lD es (cJ es b (i+n))=_;rw[zK h n];unfold lD;rw[if_pos h]
theorem Xu (h:(cJ es b i).2=[])(hi:i<=60):(cJ es b 60).1=(cJ es b i).1:=by
 have:=zK h (60 - i);rw[show i+(60 - i)=60 by lia] at this;rw[this]
theorem rY (hm:Ptm m es)(hb:b < m)(h20:m<=20):∀n,(cJ es b n).2=[]\/n+muF (cJ es b n)<=39
 |0=>.inr (by show 0+(2*(20 - 1)+1)<=39;lia)
 |n+1=>by
  by_cases c:(cJ es b n).2=[]
  .refine .inl ?_;show (lD es (cJ es b n)).2=[]
   unfold lD;rw[if_pos c];exact c
  .rcases rY hm hb h20 n with z | z
   .exact absurd z c
   .have:=Jd hm hb h20 (kQ es b n) c;refine .inr ?_;show n+1+muF (lD es (cJ es b n))<=39;lia
theorem Uo (hm:Ptm m es)(hb:b < m)(h20:m<=20):(cJ es b 60).2=[]:=by
 rcases rY hm hb h20 60 with z | z
 .exact z
 .lia
def tL (es:List Br):List RD:=es.map λe=>(.pc,(e.2.1:Int),(e.2.2:Int),(0,1))
theorem vL (h:Ptm m es):∀d∈tL es,dD (m:Int) d.2.1 d.2.2.1:=λd hd=>by
 obtain⟨e,he,rfl⟩:=mem_map.mp hd;have:=h.p e he;exact⟨by show (0:Int)<=(e.2.1:Int);lia,by show ((e.2.1:Nat):Int) < m;lia,by show (0:Int)<=(e.2.2:Int);lia,by show ((e.2.2:Nat):Int) < m;lia⟩
theorem Wi (h:Ptm m es)(g:qA es s p q):mk m (tL es) q=mk m (tL es) p:=by
 obtain⟨u,v,he,g⟩:=g;have e:=uI _ (tL es) rfl (vL h) (.pc,(u:Int),(v:Int),(0,1)) (mem_map.mpr ⟨_,he,rfl⟩) (by intro z;cases z);rw[Int.toNat_natCast,Int.toNat_natCast] at e;rcases g with ⟨_,rfl,rfl⟩ | ⟨_,rfl,rfl⟩
 .exact e.symm
 .exact e
theorem ql9 (h:Ptm m es){st:List Stp}(p:Pt es b st x pts):mk m (tL es) x=mk m (tL es) b:=by
 induction p with
 |nil=>rfl
 |snoc _ g _ ih=>rw[Wi h g,ih]
theorem Xc (h:Ptm m es)(h20:m<=20)(hb:b < m)(he:e < m):(xX es b e).isSome=true↔mk m (tL es) e=mk m (tL es) b:=by
 have wi:=kQ es b 60;have q0:=Uo h hb h20;unfold xX;rw[Qg];refine Nx (vL h) hb wi.kb (λp hp=>⟨Ax h hb wi.pt p hp,?_⟩) (λd hd _=>?_) he
 .obtain⟨st,e'⟩:=rD hp;obtain⟨pts,pp,_⟩:=wi.pt p st (iD e');exact ql9 h pp
 .obtain⟨a,ha,rfl⟩:=mem_map.mp hd;show ((a.2.1:Int).toNat∈_↔(a.2.2:Int).toNat∈_);rw[Int.toNat_natCast,Int.toNat_natCast];exact⟨λz=>wi.cl _ z (by rw[q0];simp) (a.1,1) _ ⟨a.2.1,a.2.2,ha,.inl ⟨rfl,rfl,rfl⟩⟩,λz=>wi.cl _ z (by rw[q0];simp) (a.1,-1) _ ⟨a.2.1,a.2.2,ha,.inr ⟨rfl,rfl,rfl⟩⟩⟩
structure xJ (es:List Br) (b e:Nat) (st:List Stp) (pts:List Nat):Prop where
 l:pts.length=st.length+1
 hb:pts[0]?=some b
 he:pts[st.length]?=some e
 g:∀i s,st[i]?=some s->∃p q,pts[i]?=some p/\pts[i+1]?=some q/\qA es s p q
 n:(st.map (·.1)).Nodup
theorem Ye {st:List Stp}(p:Pt es b st x pts):∀s∈st,∃y z,y∈pts/\z∈pts/\qA es s y z:=by
 induction p with
 |nil=>intro s h;cases h
 | @snoc st p q pts s h g n ih=>
  intro t ht;rcases mem_append.mp ht with z | z
  .obtain⟨y,z',h1,h2,h3⟩:=ih t z;exact⟨y,z',mem_append_left _ h1,mem_append_left _ h2,h3⟩
  .have:t=s:=by simpa using z
   subst this;refine⟨p,q,mem_append_left _ ?_,⋯,g⟩
   cases h with
   |nil=>simp
   |snoc _ _ _=>simp
theorem Mw {st:List Stp}(ne:(es.map (·.1)).Nodup)(p:Pt es b st x pts):xJ es b x st pts:=by
 induction p with
 |nil=>exact⟨rfl,rfl,rfl,λi s h=>by simp at h,⋯⟩
 | @snoc st p q pts s h g n ih=>
  have l:=ih.l;refine⟨by rw[List.length_append,List.length_append,l];rfl,?_,?_,λi t ht=>?_,?_⟩
  .rw[getElem?_append_left ()];exact ih.hb
  .rw[List.length_append,getElem?_append_right (by simp;lia)];simp only[length_cons,length_nil];rw[show st.length+(0+1) - pts.length=0 by lia];rfl
  .by_cases c:i < st.length
   .rw[getElem?_append_left c] at ht;obtain⟨y,z,h1,h2,h3⟩:=ih.g i t ht;exact⟨y,z,by rw[getElem?_append_left ()];exact h1,by rw[getElem?_append_left ()];exact h2,h3⟩
   .have hi:i=st.length:=by
     have:=(List.getElem?_eq_some_iff.mp ht).1;simp only[List.length_append,length_cons,length_nil] at this;lia
    subst hi;rw[getElem?_append_right (Nat.le_refl _),Nat.sub_self] at ht;have:s=t:=by simpa using ht
    subst this;refine⟨p,q,by rw[getElem?_append_left ()];exact ih.he,?_,g⟩;rw[getElem?_append_right (),show st.length+1 - pts.length=0 by lia];rfl
  .rw[map_append,nodup_append];refine⟨ih.n,⋯,λa ha c hc z=>?_⟩;have hc:c=s.1:=by simpa using hc
   obtain⟨t,ht,et⟩:=mem_map.mp ha;obtain⟨y,w,h1,h2,u',v',he',g'⟩:=Ye h t ht;obtain⟨u,v,he,g⟩:=g;have same:(t.1,u',v')=(s.1,u,v):=by
    have key:∀{l:List Br},(l.map (·.1)).Nodup->∀{a c:Br},a∈l->c∈l->a.1=c.1->a=c:=λ{l}=>by
     induction l with
     |nil=>intro _ a c h;cases h
     |cons x l ih=>
      intro nd a c ha hc e;rw[map_cons,nodup_cons] at nd;rcases mem_cons.mp ha with rfl | z1<;>rcases mem_cons.mp hc with rfl | z2
      .rfl
      .exact absurd (mem_map.mpr ⟨c,z2,e.symm⟩) nd.1
      .exact absurd (mem_map.mpr ⟨a,z1,e⟩) nd.1
      .exact ih nd.2 z1 z2 e
    exact key ne he' he (by show t.1=s.1;rw[et,z,hc])
   have e1:u'=u:=by injection same with _ e;injection e
   have e2:v'=v:=by injection same with _ e;injection e
   subst e1;subst e2;rcases g with ⟨_,rfl,rfl⟩ | ⟨_,rfl,rfl⟩<;>rcases g' with ⟨_,rfl,rfl⟩ | ⟨_,rfl,rfl⟩
   .exact n h2
   .exact n h1
   .exact n h1
   .exact n h2
theorem Mr {st:List Stp}(ne:(es.map (·.1)).Nodup)(h:xX es b e=some st):∃pts,xJ es b e st pts:=by
 obtain⟨pts,p,_⟩:=(kQ es b 60).pt e st (iD h);exact⟨pts,Mw ne p⟩
theorem yV {st:List Stp}(hm:Ptm m es)(hb:b < m)(h:xX es b e=some st):st.length < m:=by
 obtain⟨pts,p,k⟩:=(kQ es b 60).pt e st (iD h);have l:pts.length=st.length+1:=by
  clear h
  induction p with
  |nil=>rfl
  |snoc h g n ih=>rw[List.length_append,List.length_append,ih λy hy=>k y (mem_append_left _ hy)];rfl
 have nd:pts.Nodup:=by
  clear h k l
  induction p with
  |nil=>simp
  |snoc h g n ih=>
   rw[nodup_append];refine⟨ih,⋯,λx hx y hy z=>n ?_⟩;rw[mem_singleton] at hy;rw[<- hy,<- z];exact hx
 have:=Kw nd λy hy=>Ax hm hb (kQ es b 60).pt y (k y hy);lia
abbrev Sk:=Kd × Nat × Nat
def skl (ds:List RD):List Sk:=ds.map λd=>(d.1,d.2.1.toNat,d.2.2.1.toNat)
abbrev RS:=List Br × List (Nat × List Stp)
def iV (W:Kd->Bool)(s:RS)(k:Nat)(d:Sk):RS:=if W d.1 then (match xX s.1 d.2.2 d.2.1 with
 |none=>(s.1++[(k,d.2.1,d.2.2)],s.2)
 |some st=>(s.1,s.2++[(k,(k,1) :: st)])) else s
def fF (W:Kd->Bool)(sk:List Sk):Nat->RS
 |0=>([],[])
 |n+1=>match sk[n]? with
  |none=>fF W sk n
  |some d=>iV W (fF W sk n) n d
theorem jG (h:sk[n]?=some d):fF W sk (n+1)=iV W (fF W sk n) n d:=by
 show (match sk[n]? with | none=>fF W sk n | some d=>iV W (fF W sk n) n d)=_;rw[h]
structure RI (W:Kd->Bool) (sk:List Sk) (m n:Nat) (s:RS):Prop where
 pt:Ptm m s.1
 nd:(s.1.map (·.1)).Nodup
 lt:∀e∈s.1,e.1 < n
 at_:∀e∈s.1,∃k,sk[e.1]?=some (k,e.2.1,e.2.2)
 rl:s.2.length<=n
 r:∀c∈s.2,c.1 < n/\∃k u v st pts,sk[c.1]?=some (k,u,v)/\c.2=(c.1,1) :: st/\(∀t∈st,t.1 < c.1/\t.1∈s.1.map (·.1))/\xJ s.1 v u st pts/\st.length < m
theorem xJ.mono {st:List Stp}(h:xJ es b e st pts)(hs:∀x∈es,x∈es'):xJ es' b e st pts:=
 { h with g:=λi s hi=>let ⟨p,q,h1,h2,u,v,h3,h4⟩:=h.g i s hi;⟨p,q,h1,h2,u,v,hs _ h3,h4⟩ }
theorem Sm {st:List Stp}(h:xJ es b e st pts):∀t∈st,t.1∈es.map (·.1):=λt ht=>by
 obtain⟨i,hi⟩:=getElem?_of_mem ht;obtain⟨p,q,_,_,u,v,h3,_⟩:=h.g i t hi;exact mem_map.mpr ⟨_,h3,rfl⟩
theorem wJ (hm:∀d∈sk,d.2.1 < m/\d.2.2 < m):∀n,n<=sk.length->RI W sk m n (fF W sk n)
 |0,_=>⟨⟨λe h=>(by cases h)⟩,(by show ([]:List Nat).Nodup;simp),λe h=>(by cases h),λe h=>(by cases h),Nat.le_refl _,λc h=>(by cases h)⟩
 |n+1,hn=>by
  have ih:=wJ (W:=W) hm n ();have hd:sk[n]?=some sk[n]:=getElem?_eq_getElem ();rw[jG hd];have pm:=hm _ (mem_of_getElem? hd);generalize sk[n]=d at hd pm;generalize fF W sk n=s at ih;unfold iV
  by_cases hw:W d.1=true
  .rw[if_pos hw]
   cases hy:xX s.1 d.2.2 d.2.1 with
   |none=>
    show RI W sk m (n+1) (s.1++[(n,d.2.1,d.2.2)],s.2);refine⟨⟨λe he=>?_⟩,?_,λe he=>?_,λe he=>?_,by have:=ih.rl;show s.2.length<=n+1;lia,λc hc=>?_⟩
    .rcases mem_append.mp he with z | z
     .exact ih.pt.p e z
     .have:e=(n,d.2.1,d.2.2):=by simpa using z
      rw[this];exact pm
    .show ((s.1++[(n,d.2.1,d.2.2)]).map (·.1)).Nodup;rw[map_append,nodup_append];refine⟨ih.nd,⋯,λx hx y hy z=>?_⟩;have:y=n:=by simpa using hy
     obtain⟨e,he,ee⟩:=mem_map.mp hx;have:=ih.lt e he;lia
    .rcases mem_append.mp he with z | z
     .have:=ih.lt e z;lia
     .have:e=(n,d.2.1,d.2.2):=by simpa using z
      rw[this];exact Nat.lt_succ_self n
    .rcases mem_append.mp he with z | z
     .exact ih.at_ e z
     .have:e=(n,d.2.1,d.2.2):=by simpa using z
      rw[this];exact⟨d.1,hd⟩
    .obtain⟨h1,k,u,v,st,pts,h2,h3,h4,h5,h6⟩:=ih.r c hc;refine⟨(),k,u,v,st,pts,h2,h3,λt ht=>⟨(h4 t ht).1,?_⟩,h5.mono λx hx=>mem_append_left _ hx,h6⟩;show t.1∈(s.1++[(n,d.2.1,d.2.2)]).map (·.1);rw[map_append];exact mem_append_left _ (h4 t ht).2
   |some st=>
    show RI W sk m (n+1) (s.1,s.2++[(n,(n,1) :: st)]);refine⟨ih.pt,ih.nd,λe he=>Nat.lt_succ_of_lt (ih.lt e he),ih.at_,by have:=ih.rl;show (s.2++[(n,(n,1) :: st)]).length<=n+1;rw[List.length_append];simp only[length_cons,length_nil];lia,λc hc=>?_⟩;rcases mem_append.mp hc with z | z
    .obtain⟨h1,r⟩:=ih.r c z;exact⟨(),r⟩
    .have:c=(n,(n,1) :: st):=by simpa using z
     subst this;obtain⟨pts,ch⟩:=Mr ih.nd hy;refine⟨Nat.lt_succ_self n,d.1,d.2.1,d.2.2,st,pts,hd,rfl,λt ht=>?_,ch,yV ih.pt pm.2 hy⟩;have ti:=Sm ch t ht;obtain⟨e,he,ee⟩:=mem_map.mp ti;have:=ih.lt e he;exact⟨by show t.1 < n;lia,ti⟩
  .rw[if_neg hw];exact⟨ih.pt,ih.nd,λe he=>Nat.lt_succ_of_lt (ih.lt e he),ih.at_,by have:=ih.rl;lia,λc hc=>let ⟨h1,r⟩:=ih.r c hc;⟨(),r⟩⟩
theorem SqT.updD {K:Frag}(h:SqT K H a xs)(hl:H l=some (.dK kvs)):SqT K (L2.upd H l o) a xs:=by
 rcases h with (h | ⟨u,h⟩) | h
 .exact .inl (.inl (by rw[aX (cZ h hl (λz=>by cases z))];exact h))
 .exact .inl (.inr ⟨u,by rw[aX (cZ h hl (λz=>by cases z))];exact h⟩)
 .exact .inr h
inductive Sts (K:Frag) (H:Hp):List V->List Stp->Prop where
 |nil:Sts K H [] []
 |cons {t:Addr} {n:Nat} {w:Int} {xs:List V} {st:List Stp} (h:SqT K H t [.int (n:Int),.int w]) (q:Sts K H xs st):Sts K H (.ref t :: xs) ((n,w) :: st)
section
variable {K:Frag} {H H':Hp}
theorem Sts.same (e:aV H H'):∀{xs:List V} {st:List Stp},Sts K H xs st->Sts K H' xs st
 |_,_,.nil=>.nil
 |_,_,.cons h q=>.cons (e.seqT h) (Sts.same e q)
theorem Sts.length:∀{xs:List V} {st:List Stp},Sts K H xs st->xs.length=st.length
 |_,_,.nil=>rfl
 |_,_,.cons _ q=>by simp[Sts.length q]
theorem Sts.app:∀{xs ys:List V} {st su:List Stp},Sts K H xs st->Sts K H ys su->Sts K H (xs++ys) (st++su)
 |_,_,_,_,.nil,r=>r
 |_,_,_,_,.cons h q,r=>.cons h (Sts.app q r)
theorem Sts.upd (hl:H l=some (.lst ys)):∀{xs:List V} {st:List Stp},Sts K H xs st->Sts K (L2.upd H l o) xs st
 |_,_,.nil=>.nil
 |_,_,.cons h q=>.cons (SqT.upd h hl) (Sts.upd hl q)
theorem Sts.updD (hl:H l=some (.dK kvs)):∀{xs:List V} {st:List Stp},Sts K H xs st->Sts K (L2.upd H l o) xs st
 |_,_,.nil=>.nil
 |_,_,.cons h q=>.cons (SqT.updD h hl) (Sts.updD hl q)
end
inductive Sds (K:Frag) (H:Hp):List V->List (Stp × Nat)->Prop where
 |nil:Sds K H [] []
 |cons {t s:Addr} {n x:Nat} {w:Int} {xs:List V} {st:List (Stp × Nat)} (h:SqT K H t [.ref s,.int (x:Int)]) (g:SqT K H s [.int (n:Int),.int w]) (q:Sds K H xs st):Sds K H (.ref t :: xs) (((n,w),x) :: st)
section
variable {K:Frag} {H H':Hp}
theorem Sds.same (e:aV H H'):∀{xs:List V} {st:List (Stp × Nat)},Sds K H xs st->Sds K H' xs st
 |_,_,.nil=>.nil
 |_,_,.cons h g q=>.cons (e.seqT h) (e.seqT g) (Sds.same e q)
theorem Sds.length:∀{xs:List V} {st:List (Stp × Nat)},Sds K H xs st->xs.length=st.length
 |_,_,.nil=>rfl
 |_,_,.cons _ _ q=>by simp[Sds.length q]
theorem Sds.app:∀{xs ys:List V} {st su:List (Stp × Nat)},Sds K H xs st->Sds K H ys su->Sds K H (xs++ys) (st++su)
 |_,_,_,_,.nil,r=>r
 |_,_,_,_,.cons h g q,r=>.cons h g (Sds.app q r)
theorem Sds.get:∀{xs:List V} {st:List (Stp × Nat)} {i:Nat} {x:V},Sds K H xs st->xs[i]?=some x->∃t u s,x=.ref t/\st[i]?=some s/\SqT K H t [.ref u,.int (s.2:Int)]/\SqT K H u [.int (s.1.1:Int),.int s.1.2]
 |_,_,_,_,.nil,h=>by simp at h
 |_,_,0,_,.cons h g _,e=>by simp at e;subst e;exact⟨_,_,_,rfl,rfl,h,g⟩
 |_,_,i+1,_,.cons _ _ q,e=>by simpa using Sds.get q (by simpa using e)
theorem Sds.upd (hl:H l=some (.lst ys)):∀{xs:List V} {st:List (Stp × Nat)},Sds K H xs st->Sds K (L2.upd H l o) xs st
 |_,_,.nil=>.nil
 |_,_,.cons h g q=>.cons (SqT.upd h hl) (SqT.upd g hl) (Sds.upd hl q)
theorem Sds.updD (hl:H l=some (.dK kvs)):∀{xs:List V} {st:List (Stp × Nat)},Sds K H xs st->Sds K (L2.upd H l o) xs st
 |_,_,.nil=>.nil
 |_,_,.cons h g q=>.cons (SqT.updD h hl) (SqT.updD g hl) (Sds.updD hl q)
end
inductive Wys (K:Frag) (H0:Hp) (W:Addr) (H:Hp):List (Key × V)->WS->Prop where
 |nil:Wys K H0 W H [] []
 |cons {a:Addr} {x:Nat} {xs:List V} {st:List Stp} {kvs:List (Key × V)} {w:WS} (n:H0 a=none) (nw:a≠W) (h:H a=some (.lst xs)) (f:Sts K H xs st) (q:Wys K H0 W H kvs w):Wys K H0 W H ((Sum.inl (x:Int),.ref a) :: kvs) ((x,st) :: w)
section
variable {K:Frag} {H0 H H':Hp} {W:Addr}
theorem Wys.same (e:aV H H'):∀{kvs:List (Key × V)} {w:WS},Wys K H0 W H kvs w->Wys K H0 W H' kvs w
 |_,_,.nil=>.nil
 |_,_,.cons n nw h f q=>.cons n nw (e _ _ h) (f.same e) (Wys.same e q)
theorem Wys.updW (hl:H W=some (.lst ys)):∀{kvs:List (Key × V)} {w:WS},Wys K H0 W H kvs w->Wys K H0 W (L2.upd H W o) kvs w
 |_,_,.nil=>.nil
 |_,_,.cons n nw h f q=>.cons n nw (by rw[aX nw];exact h) (f.upd hl) (Wys.updW hl q)
theorem Wys.updD (hl:H D=some (.dK kv)):∀{kvs:List (Key × V)} {w:WS},Wys K H0 W H kvs w->Wys K H0 W (L2.upd H D o) kvs w
 |_,_,.nil=>.nil
 |_,_,.cons n nw h f q=>.cons n nw (by rw[aX (cZ h hl (λz=>by cases z))];exact h) (f.updD hl) (Wys.updD hl q)
theorem Wys.length:∀{kvs:List (Key × V)} {w:WS},Wys K H0 W H kvs w->kvs.length=w.length
 |_,_,.nil=>rfl
 |_,_,.cons _ _ _ _ q=>by simp[Wys.length q]
theorem Wys.snoc {x:Nat}{st:List Stp}(n:H0 a=none)(nw:a≠W)(h:H a=some (.lst xs))(f:Sts K H xs st):∀{kvs:List (Key × V)} {w:WS},Wys K H0 W H kvs w->Wys K H0 W H (kvs++[(Sum.inl (x:Int),.ref a)]) (w++[(x,st)])
 |_,_,.nil=>.cons n nw h f .nil
 |_,_,.cons n' nw' h' f' q=>.cons n' nw' h' f' (Wys.snoc n nw h f q)
theorem Wys.none_:∀{kvs:List (Key × V)} {w:WS},Wys K H0 W H kvs w->p∉cH w->qF kvs (Sum.inl (p:Int))=none/\(kvs.any λkv=>decide (kv.1=Sum.inl (p:Int)))=false
 |_,_,.nil,_=>⟨rfl,rfl⟩
 |_,_,.cons (x:=x) (kvs:=kvs) (w:=w) n nw h f q,hp=>by
  have hx:x≠p:=λz=>hp (by rw[<- z];exact mem_cons_self ..);obtain⟨h1,h2⟩:=Wys.none_ q λz=>hp (mem_cons_of_mem _ z);refine⟨by rw[mL (λz=>hx (Int.ofNat.inj (Sum.inl.inj z)))];exact h1,?_⟩;rw[any_cons,h2];have e:decide ((Sum.inl (x:Int):Key)=Sum.inl (p:Int))=false:=decide_eq_false λz=>hx (Int.ofNat.inj (Sum.inl.inj z));show (decide ((Sum.inl (x:Int):Key)=Sum.inl (p:Int)) || false)=false;rw[e];rfl
theorem Wys.some_:∀{kvs:List (Key × V)} {w:WS},Wys K H0 W H kvs w->p∈cH w->∃a xs st,qF kvs (Sum.inl (p:Int))=some (.ref a)/\tF w p=some st/\H0 a=none/\a≠W/\H a=some (.lst xs)/\Sts K H xs st
 |_,_,.nil,h=>by cases h
 |_,_,.cons (a:=a) (x:=x) (xs:=xs) (st:=st) (kvs:=kvs) (w:=w) n nw h f q,hp=>by
  by_cases c:x=p
  .subst c;exact⟨a,xs,st,by rw[rE rfl],by unfold tF;rw[if_pos rfl],n,nw,h,f⟩
  .have hp':p∈cH w:=by
    rcases mem_cons.mp hp with z | z
    .exact absurd z.symm c
    .exact z
   obtain⟨a',xs',st',h1,h2,r⟩:=Wys.some_ q hp';exact⟨a',xs',st',by rw[mL (λz=>c (Int.ofNat.inj (Sum.inl.inj z)))];exact h1,by unfold tF;rw[if_neg c];exact h2,r⟩
theorem Wys.isSome {p:Nat}(h:Wys K H0 W H kvs w):(qF kvs (Sum.inl (p:Int))).isSome=decide (p∈cH w):=by
 by_cases c:p∈cH w
 .obtain⟨a,xs,st,e,_⟩:=h.some_ c;rw[e,decide_eq_true c];rfl
 .rw[(h.none_ c).1,decide_eq_false c];rfl
end
structure Rgs (K:Frag) (H0 H:Hp) (us:List V) (X:List (List Stp)):Prop where
 l:us.length=X.length
 r:∀(i:Nat) (x:V) (st:List Stp),us[i]?=some x->X[i]?=some st->∃(a:Addr) (xs:List V),x=.ref a/\H0 a=none/\H a=some (.lst xs)/\Sts K H xs st
theorem Rgs.nil {K:Frag}:Rgs K H0 H [] []:=⟨rfl,λi x st h=>by simp at h⟩
theorem Rgs.same {K:Frag}(e:aV H H')(f:Rgs K H0 H us X):Rgs K H0 H' us X:=⟨f.l,λi x st h1 h2=>let ⟨a,xs,e1,n,h,s⟩:=f.r i x st h1 h2;⟨a,xs,e1,n,e _ _ h,s.same e⟩⟩
theorem Rgs.snoc {K:Frag}{st:List Stp}(f:Rgs K H0 H us X)(n:H0 a=none)(h:H a=some (.lst xs))(s:Sts K H xs st):Rgs K H0 H (us++[.ref a]) (X++[st]):=by
 refine⟨by rw[List.length_append,List.length_append,f.l];rfl,λi x qs h1 h2=>?_⟩;have l:=f.l
 by_cases c:i < us.length
 .rw[getElem?_append_left c] at h1;rw[getElem?_append_left ()] at h2;exact f.r i x qs h1 h2
 .have hi:i=us.length:=by
   have:=(List.getElem?_eq_some_iff.mp h1).1;rw[List.length_append] at this;simp only[length_cons,length_nil] at this;lia
  subst hi;rw[getElem?_append_right (Nat.le_refl _),Nat.sub_self] at h1;rw[getElem?_append_right (),show us.length - X.length=0 by lia] at h2
  cases h1
  cases h2
  exact⟨a,xs,rfl,n,h,s⟩
theorem Rgs.updO {K:Frag}{l:Addr}(f:Rgs K H0 H us X)(hl:H l=some (.lst ys))(n:∀x∈us,x≠.ref l):Rgs K H0 (upd H l o) us X:=⟨f.l,λi x st h1 h2=>let ⟨a,xs,e1,n1,h,s⟩:=f.r i x st h1 h2;⟨a,xs,e1,n1,by rw[aX (λz=>n x (mem_of_getElem? h1) (by rw[e1,z]))];exact h,s.upd hl⟩⟩
def qk6 (ds:List RD)(es:List Br):Prop:=∀e∈es,∃d,ds[e.1]?=some d/\d.2.1=(e.2.1:Int)/\d.2.2.1=(e.2.2:Int)
inductive Bg (K:Frag) (CK:Kd->Addr) (vs:List V) (H:Hp) (Q:VK) (E:XK):Prop where
 |mk (a b:Addr) (xs:List V) (ds:List RD) (es:List Br) (p:Nat):vs=[.ref a,.ref b,.int (p:Int)]->SqL K H a xs->hV CK K H xs ds->(SqL K H b (es.map λe=>V.int (e.1:Int)))->qk6 ds es->es.length<=100->(∀l ys H',aV H H'->H l=none->H' l=some (.lst ys)->Sds K H' ys (stF es p)->Q (.ref l) H')->Bg K CK vs H Q E
inductive Pb (K:Frag) (CK:Kd->Addr) (vs:List V) (H:Hp) (Q:VK) (E:XK):Prop where
 |mk (a b:Addr) (xs:List V) (ds:List RD) (es:List Br) (m f t:Nat):vs=[.ref a,.ref b,.int (f:Int),.int (t:Int)]->SqL K H a xs->hV CK K H xs ds->(SqL K H b (es.map λe=>V.int (e.1:Int)))->qk6 ds es->es.length<=100->Ptm m es->m<=20->f < m->(xX es f t=none->∀H',aV H H'->Q .non H')->(∀st,xX es f t=some st->∀l ys H',aV H H'->H l=none->H' l=some (.lst ys)->Sts K H' ys st->Q (.ref l) H')->Pb K CK vs H Q E
inductive Wds (K:Frag) (H:Hp):V->(Kd->Bool)->Prop where
 |non:Wds K H .non (λk=>decide (k≠.pu))
 |seq {a:Addr} {ws:List V} (h:SqL K H a ws) (f:ws.all oS=true):Wds K H (.ref a) (λk=>inV (.str k.wd) ws)
inductive Cu (CN:Addr) (K:Frag) (vs:List V) (H:Hp) (Q:VK) (E:XK):Prop where
 |mk (n l:Addr) (v:V) (m:Nat) (ds:List RD) (W:Kd->Bool):vs=[.ref n,v]->dG CN K H n l (m:Int) ds->(∀d∈ds,dD (m:Int) d.2.1 d.2.2.1)->m<=20->ds.length<=40->Wds K H v W->(∀r us H',aV H H'->H r=none->H' r=some (.lst us)->Rgs K H H' us ((fF W (skl ds) ds.length).2.map (·.2))->(∀x∈us,x≠.ref r)->Q (.ref r) H')->Cu CN K vs H Q E
end L2
namespace Mq
def KJ (m:Nat)(A1:Mat)(R:List (List Int)):Prop:=∀Φ,Lin Φ->(∀i,i < m->Φ (A1 i)=0)->∀k,k < m->Φ (at2 R k)=0
theorem KJ.swap (h:KJ m A1 R)(hl:R.length=m)(hp:p < m)(hr:r < m):KJ m A1 (fQ R p r):=λΦ lin hz k hk=>by
 have e:at2 (fQ R p r) k=at2 R (sw p r k):=by
  funext x
  rw[rJ () ()]
 rw[e];exact h Φ lin hz _ (zW hp hr hk)
theorem KJ.clear (h:KJ m A1 R)(s:SI m w A0 R r col d sg)(hr:r < m)(hc:col < w)(he:ent R r col≠0):KJ m A1 (cN R r col d):=λΦ lin hz k hk=>by
 have cl:=λ(x:Nat)=>vB s hr hc he hk x;have z:=h Φ lin hz
 by_cases e:k=r
 .have e2:at2 (cN R r col d) k=at2 R k:=by funext x;rw[cl x,if_pos e]
  rw[e2];exact z k hk
 .have e2:at2 (cN R r col d) k=λx=>(λx=>(at2 R r col / (d:Rat))*at2 R k x) x+(-(at2 R k col / (d:Rat)))*at2 R r x:=by
   funext x
   show _=(at2 R r col / (d:Rat))*at2 R k x+_;rw[cl x,if_neg e];grind
  rw[e2,lin,lin.mul,z k hk,z r hr];grind
theorem KJ.whole (h:KJ m A1 R)(s:SI m w A0 R m m d sg){v:Nat->Rat}(hv:∀i,i < m->(rs m λk=>A1 i k*v k)=A1 i m)(hk:k < m):at2 R k m / (d:Rat)=v k:=by
 obtain⟨A,c,B,e⟩:=s.bar;have dn:=B.dne;have:=h (λf=>(rs m λk=>f k*v k) - f m) (λx y l=>by
  have:(rs m λk=>(x k+l*y k)*v k)=(rs m λk=>x k*v k+l*(y k*v k)):=aP λk _=>by grind
  show (rs m λk=>(x k+l*y k)*v k) - (x m+l*y m)=((rs m λk=>x k*v k) - x m)+l*((rs m λk=>y k*v k) - y m)
  rw[this,dB,dY];grind) (λi hi=>by
  show (rs m λk=>A1 i k*v k) - A1 i m=0;rw[hv i hi];grind) k hk
 have e1:(rs m λj=>at2 R k j*v j)=rs m λj=>if j=k then (d:Rat)*v k else 0:=aP λj hj=>by
  have i2:=B.i2 k j hk hj;rw[B.full rfl j hj] at i2;rw[i2]
  by_cases z:j=k
  .rw[if_pos z,if_pos z,z]
  .rw[if_neg z,if_neg z];grind
 have e2:(rs m λj=>at2 R k j*v j) - at2 R k m=0:=this;rw[e1,mQ m k _ hk] at e2;grind
end Mq
namespace Shp
open PySem L2
theorem Ub:Stp m w A0 (λR=>Mq.KI m A1 R/\Mq.KJ m A1 R):=
 ⟨λR r col d sg p s h1 h2 h=>⟨h.1.swap s.len h2 (),h.2.swap s.len h2 ()⟩,λR r col d sg s h1 h2 h3 h=>⟨h.1.clear s h1 h2 h3,h.2.clear s h1 h2 h3⟩⟩
theorem qi3 (hX:fP X)(hq:Mq.Pos qs)(hl:qs.length=X.length)(hw:∀row∈X,row.length=X.length)(h:Mq.KJ X.length (Mq.at2 (iJ X qs)) R)(s:SI X.length w (Mq.at2 (iJ X qs)) R X.length X.length d sg){v:Nat->Rat}(hv:∀i,i < X.length->(Mq.rs X.length λj=>oR X i j*v j)=Mq.val (qs.getD i Mq.z0))(hk:k < X.length):Mq.at2 R k X.length / (d:Rat)=v k:=by
 refine h.whole s (λi hi=>?_) hk;rw[wL hX hq hl hw hi (),if_neg (),<- hv i hi,<- dY];refine aP λk hk=>?_;rw[wL hX hq hl hw hi (),if_pos hk];grind
structure qh8 (X:List (List Q2)) (qs ps:List Q2):Prop extends Slv X qs ps where
 uni:∀v:Nat->Rat,(∀i,i < X.length->(Mq.rs X.length λj=>oR X i j*v j)=Mq.val (qs.getD i Mq.z0))->∀j,j < X.length->Mq.val (ps.getD j Mq.z0)=v j
end Shp
namespace Mq
theorem Wb.rs5 (hK:K<=32)(h:∀k,k < K->Wb n (f k)):Wb (n+5) (Mq.rs K f):=by
 obtain⟨z,e,b⟩:=Yy K h;refine⟨z,e,?_⟩;have p:2 ^ (n+5)=32*2 ^ n:=by rw[Nat.pow_add];lia
 have q:K*2 ^ n<=32*2 ^ n:=Nat.mul_le_mul_right _ hK;have r:0 < 2 ^ n:=Nat.two_pow_pos n;show z.natAbs < 2 ^ (n+5)
 by_cases k0:K=0
 .subst k0;lia
 .lia
theorem Ao:∀(r:Nat) (M:Mat),r<=32->(∀i j,i < r->Wb n (M i j))->Wb ((n+5)*r+1) (det r M)
 |0,_,_,_=>Wb.one
 |r+1,M,hr,h=>by
  rw[gB];have:=Wb.rs5 (n:=n+((n+5)*r+1)) (K:=r+1) (f:=λj=>sgn (r+j)*M r j*det r λi k=>M i (skip j k)) hr λj _=>((h r j ()).sgn _).mul (Ao r _ () λi k hi=>h i _ ());exact this.mono (by rw[Nat.mul_succ];lia)
section
variable {m:Nat} {A E:Mat} {r col:Nat} {d:Rat} {c:Nat->Nat} {n:Nat}
theorem Bar.wd5 (h:Bar m A E r col d c)(hA:∀i x,i < m->Wb n (A i x))(hm:m<=31):Wb ((n+5)*r+1) d:=by
 have rm:=h.rm;rw[<- h.i5];exact Ao r _ () λi j hi=>hA i _ ()
theorem Bar.wtop5 (h:Bar m A E r col d c)(hA:∀i x,i < m->Wb n (A i x))(hm:m<=31)(hk:k < r)(x:Nat):Wb ((n+5)*r+7) (E k x):=by
 have rm:=h.rm;have hd:=h.dne
 by_cases hx:∃j,j < r/\x=c j
 .obtain⟨j,hj,rfl⟩:=hx;rw[h.i2 k j hk hj];split
  .exact(h.wd5 hA hm).mono ()
  .exact Wb.zero _
 .let c2:Nat->Nat:=λj=>if j=r then x else c j
  let u:Nat->Rat:=λj=>if j=c k then 1 else 0
  have hΦ:=Kp r A c2;have z:=h.i6 _ hΦ (λs hs=>Je r A c2 hs) k hk;have eu:u=λy=>(λy=>u y+(-(1 / d))*E k y) y+(1 / d)*E k y:=by
   funext y
   show u y=u y+(-(1 / d))*E k y+(1 / d)*E k y;grind
  have fb:=Aj r A c2 (λy=>u y+(-(1 / d))*E k y) λj hj=>by
   have ec:c2 j=c j:=by show (if j=r then x else c j)=_;rw[if_neg ()]
   rw[ec];show u (c j)+(-(1 / d))*E k (c j)=0;rw[h.i2 k j hk hj];show (if c j=c k then (1:Rat) else 0)+_=0
   by_cases e:j=k
   .rw[if_pos e,if_pos (by rw[e])];grind
   .rw[if_neg e,if_neg (λq=>e (h.cinj j k hj hk q))];grind
  have dd:(det r λi j=>A i (c2 j))=d:=by
   rw[<- h.i5];exact cS λi j _ hj=>by show A i (if j=r then x else c j)=_;rw[if_neg ()]
  have ux:u x=0:=by show (if x=c k then (1:Rat) else 0)=0;rw[if_neg (λq=>hx ⟨k,hk,q⟩)]
  have cx:c2 r=x:=by show (if r=r then x else _)=x;rw[if_pos rfl]
  rw[dd,cx] at fb;have val:F r A c2 u=- E k x:=by
   rw[eu,hΦ,z,fb];show (u x+(-(1 / d))*E k x)*d+_=_;rw[ux];grind
  have wh:Wb ((n+5)*r+7) (F r A c2 u):=by
   rw[Mg];have:=Wb.rs5 (n:=1+((n+5)*r+1)) (K:=r+1) (f:=λj=>Mq.sgn (r+j)*u (c2 j)*det r λi k=>A i (c2 (Mq.skip j k))) () λj _=>by
    refine Wb.mul (Wb.sgn ?_ _) (Ao r _ () λi k hi=>hA i _ ());show Wb 1 (if c2 j=c k then (1:Rat) else 0);split
    .exact Wb.one
    .exact Wb.zero _
   exact this.mono ()
  rw[val] at wh;have:=wh.neg
  rwa [show - - E k x=E k x by grind] at this
theorem Bar.wall5 (h:Bar m A E r col d c)(hA:∀i x,i < m->Wb n (A i x))(hm:m<=31)(hi:i < m)(x:Nat):Wb ((n+5)*(m+1)+8) (E i x):=by
 have rm:=h.rm;have mono:=Nat.mul_le_mul_left (n+5) rm;have e1:(n+5)*(m+1)=(n+5)*m+(n+5):=Nat.mul_succ ..
 by_cases h1:i < r
 .exact(h.wtop5 hA hm h1 x).mono ()
 .have q:=h.i4 i x hi;rw[if_neg h1] at q;have e:E i x=d*A i x - rs r λk=>A i (c k)*E k x:=by grind
  rw[e];have b1:Wb (n+((n+5)*r+7)+5) (d*A i x):=((h.wd5 hA hm).mul (hA i x hi)).mono ();have b2:Wb (n+((n+5)*r+7)+5) (rs r λk=>A i (c k)*E k x):=Wb.rs5 () λk hk=>(hA i _ hi).mul (h.wtop5 hA hm hk x);exact(b1.sub b2).mono ()
end
theorem SB.bd5 (h:SB n m R r col d)(s:SI m w A0 R r col d sg)(hm:m<=31):BdR ((n+5)*(m+1)+8) R/\B ((n+5)*(m+1)+8) d:=by
 obtain⟨A,c,B,q⟩:=h;refine⟨λi x=>?_,?_⟩
 .by_cases hi:i < m
  .obtain⟨z,e,b⟩:=B.wall5 q hm hi x;have:ent R i x=z:=Rat.intCast_inj.mp e;rw[this];exact b
  .unfold ent;rw[getD_eq_getElem?_getD (l:=R),getElem?_eq_none (by rw[s.len];lia)];exact Nat.two_pow_pos _
 .obtain⟨z,e,b⟩:=B.wd5 q hm;have:d=z:=Rat.intCast_inj.mp e;have mono:=Nat.mul_le_mul_left (n+5) B.rm;rw[this];exact b.mono (by rw[Nat.mul_succ];lia)
theorem Pz (ha:1<=a)(hb:1<=b)(h1:a ∣ L)(h2:b ∣ L):pJ a b ∣ L:=by
 have g1:gc a b ∣ a:=Int.gcd_dvd_left ..;have g0:gc a b≠0:=by have:=xV (a:=a) (b:=b) ();lia
 obtain⟨x,hx⟩:=g1;have e:pJ a b=x*b:=by
  unfold pJ;rw[gD g0 hx]
 have k:(Int.lcm a b:Int) ∣ L:=Int.coe_lcm_dvd h1 h2;have m:(Int.gcd a b:Int)*(Int.lcm a b:Int)=a*b:=by
  have:=Int.gcd_mul_lcm a b;have h:((Int.gcd a b*Int.lcm a b:Nat):Int)=((a*b).natAbs:Nat):=by rw[this,Int.natAbs_mul]
  rw[Int.natCast_mul] at h;rw[h,Int.natAbs_of_nonneg (Int.mul_nonneg () ())]
 have e2:(Int.lcm a b:Int)=x*b:=by
  have hg:(Int.gcd a b:Int)=gc a b:=rfl;rw[hg] at m;have:gc a b*(Int.lcm a b:Int)=gc a b*(x*b):=by
   rw[m,<- Int.mul_assoc,<- hx]
  exact Int.eq_of_mul_eq_mul_left g0 this
 rw[e,<- e2];exact k
theorem sR:∀{ps:List Q2},Pos ps->(∀p∈ps,p.2 ∣ L)->∀i,i<=ps.length->dA (ps.take i) ∣ L/\1<=dA (ps.take i)
 |ps,hp,h,0,_=>⟨Int.one_dvd _,by rw[take_zero];decide⟩
 |ps,hp,h,i+1,hi=>by
  obtain⟨a,b⟩:=sR hp h i ();have hm:ps[i]?=some ps[i]:=getElem?_eq_getElem ();have mem:=mem_of_getElem? hm;rw[nX hm];refine⟨Pz b (hp _ mem) a (h _ mem),?_⟩;have:=uL (ps:=ps.take (i+1)) (λp hp'=>hp p (mem_of_mem_take hp'))
  rwa [nX hm] at this
end Mq
namespace Shp
open PySem L2
abbrev bw (n m:Nat):Nat:=(n+5)*(m+1)+8
inductive uT (K:Frag) (vs:List V) (H:Hp) (Q:VK) (E:XK):Prop where
 |mk (l D:Addr) (zs:List V) (R:List (List Int)) (m w n:Nat) (Pr:List (List Int)->Prop):vs=[.ref l,.int (m:Int)]->SqL K H l zs->Imx D H zs R->R.length=m->(∀i,i < m->(R.getD i []).length=w)->m<=w->w<=100->BdR n R->1<=n->bw n m<=9000->m<=31->Pr R->Stp m w (Mq.at2 R) Pr->(∀d l' zs' R' rank pivot sign H',aV H H'->H d=none->H l'=none->H' d=some (Oq l' rank pivot sign)->H' l'=some (.lst zs')->Imx l' H' zs' R'->SI m w (Mq.at2 R) R' rank m pivot sign->BdR (bw n m) R'->Mq.B (bw n m) pivot->Pr R'->Q (.ref d) H')->uT K vs H Q E
end Shp
namespace L2
open PySem PySem.Spec PyProof.Rows
section
variable (u:Nat->Rat)
def fw (d:RD)(h:Nat):Rat:=match d.1 with
 | .pc=>(u d.2.1.toNat - u d.2.2.1.toNat)*(1 / Mq.val d.2.2.2)
 | .pu=>0
 | .ho=>u h
def nt:Nat->List RD->Nat->Rat
 |_,[],_=>0
 |h,d :: ds,p=>fw u d h*dl d.2.1.toNat d.2.2.1.toNat p+nt (h+bY d.1) ds p
def hw:Nat->List RD->Nat->Rat
 |_,[],_=>0
 |h,d :: ds,y=>(if d.1=.ho/\h=y then u d.2.1.toNat - u d.2.2.1.toNat else 0)+hw (h+bY d.1) ds y
def eg:Nat->List RD->Rat
 |_,[]=>0
 |h,d :: ds=>fw u d h*(u d.2.1.toNat - u d.2.2.1.toNat)+eg (h+bY d.1) ds
end
section
variable {u:Nat->Rat} {m N:Nat}
theorem zN (F:Nat->Rat)(hs:s < n)(hg:g < n):Mq.rs n (λp=>F p*dl s g p)=F s - F g:=by
 have e:∀p,F p*dl s g p=(if s=p then F p else 0) + - (if g=p then F p else 0):=λp=>by
  unfold dl
  by_cases a:s=p<;>by_cases b:g=p<;>simp only[a,b,if_true,if_false]<;>grind
 rw[aP λp _=>e p,dB,iR,wO,wO,if_pos hs,if_pos hg];grind
theorem qf0 (u0:u 0=0)(hs:s<=n)(hg:g<=n):Mq.rs n (λi=>u (i+1)*dl s g (i+1))=u s - u g:=by
 have:=zN u (n:=n+1) (s:=s) (g:=g) () ();rw[qW,u0] at this;grind
theorem qm4 (u0:u 0=0)(pt:dD (m:Int) d.2.1 d.2.2.1)(hm:m<=N+1)(h1:1<=h)(hh:d.1=.ho->h<=N):Mq.rs N (λi=>u (i+1)*cM d h (i+1) y)=fw u d h*dl d.2.1.toNat d.2.2.1.toNat y+(if d.1=.ho/\h=y then u d.2.1.toNat - u d.2.2.1.toNat else 0):=by
 obtain⟨a,b,c,e⟩:=pt;have base:=qf0 (u:=u) (n:=N) (s:=d.2.1.toNat) (g:=d.2.2.1.toNat) u0 () ();unfold cM fw
 cases hk:d.1 with
 |pc=>
  dsimp only;rw[if_neg (λz=>by cases z.1)];have:∀i,u (i+1)*(dl d.2.1.toNat d.2.2.1.toNat (i+1)*dl d.2.1.toNat d.2.2.1.toNat y*(1 / Mq.val d.2.2.2))=(dl d.2.1.toNat d.2.2.1.toNat y*(1 / Mq.val d.2.2.2))*(u (i+1)*dl d.2.1.toNat d.2.2.1.toNat (i+1)):=λi=>by grind
  rw[aP λi _=>this i,dY,base];grind
 |pu=>
  dsimp only;rw[if_neg (λz=>by cases z.1)];have:∀i,u (i+1)*(0:Rat)=0:=λi=>by grind
  rw[aP λi _=>this i,dR];grind
 |ho=>
  dsimp only;have hN:=hh hk;have one:Mq.rs N (λi=>u (i+1)*(if h=i+1 then 1 else 0))=u h:=by
   have:∀i,u (i+1)*(if h=i+1 then (1:Rat) else 0)=if h - 1=i then u (i+1) else 0:=λi=>by
    by_cases z:h=i+1
    .rw[if_pos z,if_pos ()];grind
    .rw[if_neg z,if_neg ()];grind
   rw[aP λi _=>this i,wO,if_pos (),show h - 1+1=h by lia]
  have:∀i,u (i+1)*(dl d.2.1.toNat d.2.2.1.toNat (i+1)*(if h=y then 1 else 0)+(if h=i+1 then 1 else 0)*dl d.2.1.toNat d.2.2.1.toNat y)=(if h=y then 1 else 0)*(u (i+1)*dl d.2.1.toNat d.2.2.1.toNat (i+1))+dl d.2.1.toNat d.2.2.1.toNat y*(u (i+1)*(if h=i+1 then 1 else 0)):=λi=>by grind
  rw[aP λi _=>this i,dB,dY,dY,base,one]
  by_cases z:h=y
  .rw[if_pos z,if_pos ⟨rfl,z⟩];grind
  .rw[if_neg z,if_neg (λq=>z q.2)];grind
theorem Ia (u0:u 0=0)(hm:m<=N+1)(y:Nat):∀(ds:List RD) (h:Nat),(∀d∈ds,dD (m:Int) d.2.1 d.2.2.1)->1<=h->h+bO ds<=N+1->Mq.rs N (λi=>u (i+1)*eqM h ds (i+1) y)=nt u h ds y+hw u h ds y
 | [],h,_,_,_=>by
  have:∀i,u (i+1)*eqM h [] (i+1) y=0:=λi=>by show u (i+1)*(0:Rat)=0;grind
  rw[aP λi _=>this i,dR];show (0:Rat)=0+0;grind
 |d :: ds,h,pt,h1,hN=>by
  rw[fE] at hN;have ih:=Ia u0 hm y ds (h+bY d.1) (λe he=>pt e (mem_cons_of_mem _ he)) () ();have c:=qm4 (u:=u) (N:=N) (h:=h) (y:=y) u0 (pt d ⋯) hm h1 (λz=>by rw[z] at hN;have:bY .ho=1:=rfl;lia);have:∀i,u (i+1)*eqM h (d :: ds) (i+1) y=u (i+1)*cM d h (i+1) y+u (i+1)*eqM (h+bY d.1) ds (i+1) y:=λi=>by
   show u (i+1)*(cM d h (i+1) y+eqM (h+bY d.1) ds (i+1) y)=_;grind
  rw[aP λi _=>this i,dB,ih,c];show _=(fw u d h*dl d.2.1.toNat d.2.2.1.toNat y+nt u (h+bY d.1) ds y)+((if d.1=.ho/\h=y then u d.2.1.toNat - u d.2.2.1.toNat else 0)+hw u (h+bY d.1) ds y)
  grind
theorem Lj:∀(ds:List RD) (h:Nat),y < h->hw u h ds y=0
 | [],_,_=>rfl
 |d :: ds,h,hy=>by
  show (if d.1=.ho/\h=y then u d.2.1.toNat - u d.2.2.1.toNat else 0)+hw u (h+bY d.1) ds y=0;rw[if_neg (λz=>by lia),Lj ds (h+bY d.1) ()];grind
theorem Gg:∀(ds:List RD) (h:Nat),(∀d∈ds,dD (m:Int) d.2.1 d.2.2.1)->m<=y->nt u h ds y=0
 | [],_,_,_=>rfl
 |d :: ds,h,pt,hy=>by
  obtain⟨a,b,c,e⟩:=pt d ⋯;show fw u d h*dl d.2.1.toNat d.2.2.1.toNat y+nt u (h+bY d.1) ds y=0;rw[Gg ds (h+bY d.1) (λe he=>pt e (mem_cons_of_mem _ he)) hy];unfold dl;rw[if_neg (),if_neg ()];grind
theorem Bi:∀(ds:List RD) (h:Nat),(∀y,h<=y->y < h+bO ds->hw u h ds y=0)->∀d∈ds,d.1=.ho->u d.2.1.toNat=u d.2.2.1.toNat
 | [],_,_,_,hd,_=>by cases hd
 |e :: ds,h,all,d,hd,hk=>by
  by_cases he:e.1=.ho
  .have c1:bY e.1=1:=by rw[he];rfl
   have first:=all h (Nat.le_refl _) (by rw[fE];lia)
   have f1:(if e.1=.ho/\h=h then u e.2.1.toNat - u e.2.2.1.toNat else 0)+hw u (h+bY e.1) ds h=0:=first
   rw[if_pos ⟨he,rfl⟩,Lj ds (h+bY e.1) ()] at f1;rcases mem_cons.mp hd with rfl | hd
   .grind
   .refine Bi ds (h+bY e.1) (λy hy hl=>?_) d hd hk;have:=all y () (by rw[fE];lia);have f2:(if e.1=.ho/\h=y then u e.2.1.toNat - u e.2.2.1.toNat else 0)+hw u (h+bY e.1) ds y=0:=this;rw[if_neg (λz=>by lia)] at f2;grind
  .have c0:bY e.1=0:=if_neg he;rcases mem_cons.mp hd with rfl | hd
   .exact absurd hk he
   .refine Bi ds (h+bY e.1) (λy hy hl=>?_) d hd hk;have:=all y () (by rw[fE];lia);have f2:(if e.1=.ho/\h=y then u e.2.1.toNat - u e.2.2.1.toNat else 0)+hw u (h+bY e.1) ds y=0:=this;rw[if_neg (λz=>he z.1)] at f2;grind
theorem Kv (F:Nat->Rat):∀(ds:List RD) (h:Nat),(∀d∈ds,dD (m:Int) d.2.1 d.2.2.1)->(∀d∈ds,d.1≠.pu->F d.2.1.toNat=F d.2.2.1.toNat)->Mq.rs m (λp=>F p*nt u h ds p)=0
 | [],h,_,_=>by
  have:∀p,F p*nt u h [] p=0:=λp=>by show F p*(0:Rat)=0;grind
  rw[aP λp _=>this p,dR]
 |d :: ds,h,pt,hF=>by
  have ih:=Kv F ds (h+bY d.1) (λe he=>pt e (mem_cons_of_mem _ he)) (λe he=>hF e (mem_cons_of_mem _ he));obtain⟨a,b,c,e⟩:=pt d ⋯;have base:=zN F (n:=m) (s:=d.2.1.toNat) (g:=d.2.2.1.toNat) () ();have:∀p,F p*nt u h (d :: ds) p=fw u d h*(F p*dl d.2.1.toNat d.2.2.1.toNat p)+F p*nt u (h+bY d.1) ds p:=λp=>by
   show F p*(fw u d h*dl d.2.1.toNat d.2.2.1.toNat p+nt u (h+bY d.1) ds p)=_;grind
  rw[aP λp _=>this p,dB,dY,base,ih]
  by_cases hk:d.1=.pu
  .have:fw u d h=0:=by unfold fw;rw[hk]
   rw[this];grind
  .rw[hF d ⋯ hk];grind
theorem Rm:∀(ds:List RD) (h:Nat),(∀d∈ds,dD (m:Int) d.2.1 d.2.2.1)->Mq.rs m (λp=>u p*nt u h ds p)=eg u h ds
 | [],h,_=>by
  have:∀p,u p*nt u h [] p=0:=λp=>by show u p*(0:Rat)=0;grind
  rw[aP λp _=>this p,dR];rfl
 |d :: ds,h,pt=>by
  have ih:=Rm ds (h+bY d.1) (λe he=>pt e (mem_cons_of_mem _ he));obtain⟨a,b,c,e⟩:=pt d ⋯;have base:=zN u (n:=m) (s:=d.2.1.toNat) (g:=d.2.2.1.toNat) () ();have:∀p,u p*nt u h (d :: ds) p=fw u d h*(u p*dl d.2.1.toNat d.2.2.1.toNat p)+u p*nt u (h+bY d.1) ds p:=λp=>by
   show u p*(fw u d h*dl d.2.1.toNat d.2.2.1.toNat p+nt u (h+bY d.1) ds p)=_;grind
  rw[aP λp _=>this p,dB,dY,base,ih];rfl
theorem qq2 (x:Rat):0<=x*x:=by
 rcases Rat.le_total (a:=0) (b:=x) with h | h
 .exact Rat.mul_nonneg h h
 .have:0<=(-x)*(-x):=Rat.mul_nonneg (by grind) (by grind);grind
theorem Di {a:Rat}(h:0 < a):0 < 1 / a:=by
 rw[Rat.div_def,Rat.one_mul];exact Rat.inv_pos.mpr h
theorem Eb:∀(ds:List RD) (h:Nat),(∀d∈ds,d.1=.pc->0 < Mq.val d.2.2.2)->(∀d∈ds,d.1=.ho->u d.2.1.toNat=u d.2.2.1.toNat)->0<=eg u h ds/\(eg u h ds=0->∀d∈ds,d.1=.pc->u d.2.1.toNat=u d.2.2.1.toNat)
 | [],_,_,_=>⟨Rat.le_refl,λ_ d hd=>by cases hd⟩
 |e :: ds,h,pos,ho=>by
  obtain⟨i1,i2⟩:=Eb ds (h+bY e.1) (λd hd=>pos d (mem_cons_of_mem _ hd)) (λd hd=>ho d (mem_cons_of_mem _ hd));have eq:eg u h (e :: ds)=fw u e h*(u e.2.1.toNat - u e.2.2.1.toNat)+eg u (h+bY e.1) ds:=rfl;rw[eq];generalize eg u (h+bY e.1) ds=r at i1 i2;have t:0<=fw u e h*(u e.2.1.toNat - u e.2.2.1.toNat)/\(e.1=.pc->fw u e h*(u e.2.1.toNat - u e.2.2.1.toNat)=0->u e.2.1.toNat=u e.2.2.1.toNat):=by
   unfold fw
   cases hk:e.1 with
   |pu=>exact⟨by grind,λz=>by cases z⟩
   |ho=>exact⟨by rw[ho e ⋯ hk];grind,λz=>by cases z⟩
   |pc=>
    dsimp only;have p:=Di (pos e ⋯ hk);generalize 1 / Mq.val e.2.2.2=q at p;generalize u e.2.1.toNat=a;generalize u e.2.2.1.toNat=b;have e2:(a - b)*q*(a - b)=q*((a - b)*(a - b)):=by grind
    rw[e2];refine⟨Rat.mul_nonneg (Rat.le_of_lt p) (qq2 _),λ_ z=>?_⟩;have q0:q≠0:=λz=>by rw[z] at p;exact absurd p ∅
    have:(a - b)*(a - b)=0:=by grind
    have:a - b=0:=by grind
    grind
  obtain⟨t1,t2⟩:=t;generalize fw u e h*(u e.2.1.toNat - u e.2.2.1.toNat)=x at t1 t2;refine⟨by grind,λz d hd hk=>?_⟩;have x0:x=0:=by grind
  have r0:r=0:=by grind
  rcases mem_cons.mp hd with rfl | hd
  .exact t2 hk x0
  .exact i2 r0 d hd hk
theorem zY (d:RD)(p:Nat):∀(ds:List RD) (h:Nat),nt u h (ds++[d]) p=nt u h ds p+fw u d (h+bO ds)*dl d.2.1.toNat d.2.2.1.toNat p
 | [],h=>by show fw u d h*_+0=0+fw u d (h+0)*_;rw[Nat.add_zero];grind
 |e :: ds,h=>by
  show fw u e h*_+nt u (h+bY e.1) (ds++[d]) p=fw u e h*_+nt u (h+bY e.1) ds p+_;rw[zY d p ds,fE,Nat.add_assoc];grind
theorem Gb (F:Nat->Rat):∀(ds:List RD) (h:Nat),(∀d∈ds,dD (m:Int) d.2.1 d.2.2.1)->(∀d∈ds,d.1=.pc->u d.2.1.toNat=u d.2.2.1.toNat)->(∀d∈ds,d.1=.ho->F d.2.1.toNat=F d.2.2.1.toNat)->Mq.rs m (λp=>F p*nt u h ds p)=0
 | [],h,_,_,_=>by
  have:∀p,F p*nt u h [] p=0:=λp=>by show F p*(0:Rat)=0;grind
  rw[aP λp _=>this p,dR]
 |d :: ds,h,pt,hu,hF=>by
  have ih:=Gb F ds (h+bY d.1) (λe he=>pt e (mem_cons_of_mem _ he)) (λe he=>hu e (mem_cons_of_mem _ he)) (λe he=>hF e (mem_cons_of_mem _ he));obtain⟨a,b,c,e⟩:=pt d ⋯;have base:=zN F (n:=m) (s:=d.2.1.toNat) (g:=d.2.2.1.toNat) () ();have:∀p,F p*nt u h (d :: ds) p=fw u d h*(F p*dl d.2.1.toNat d.2.2.1.toNat p)+F p*nt u (h+bY d.1) ds p:=λp=>by
   show F p*(fw u d h*dl d.2.1.toNat d.2.2.1.toNat p+nt u (h+bY d.1) ds p)=_;grind
  rw[aP λp _=>this p,dB,dY,base,ih]
  cases hk:d.1 with
  |pu=>
   have:fw u d h=0:=by unfold fw;rw[hk]
   rw[this];grind
  |pc=>
   have:fw u d h=0:=by unfold fw;rw[hk];dsimp only;rw[hu d ⋯ hk];grind
   rw[this];grind
  |ho=>rw[hF d ⋯ hk];grind
def Frs (ds:List RD):Prop:=∀(A B:List RD) (d:RD),ds=A++d :: B->d.1=.ho->¬Cn (jH .ho A) d.2.1.toNat d.2.2.1.toNat
theorem Kq:∀(n:Nat) (ds:List RD) (h:Nat),ds.length=n->(∀d∈ds,dD (m:Int) d.2.1 d.2.2.1)->Frs ds->(∀d∈ds,d.1=.pc->u d.2.1.toNat=u d.2.2.1.toNat)->(∀p,p < m->nt u h ds p=0)->∀y,h<=y->y < h+bO ds->u y=0
 |0,ds,h,hl,_,_,_,_,y,h1,h2=>by
  have:ds=[]:=length_eq_zero_iff.mp hl;subst this;have:bO ([]:List RD)=0:=rfl;lia
 |n+1,ds,h,hl,pt,fr,hu,ze,y,h1,h2=>by
  obtain⟨es,d,rfl⟩:∃es d,ds=es++[d]:=⟨ds.dropLast,ds.getLast (by intro z;rw[z] at hl;cases hl),(dropLast_concat_getLast _).symm⟩
  have le:es.length=n:=by rw[List.length_append] at hl;simpa using hl
  have pe:∀x∈es,dD (m:Int) x.2.1 x.2.2.1:=λx hx=>pt x (mem_append_left _ hx);have ue:∀x∈es,x.1=.pc->u x.2.1.toNat=u x.2.2.1.toNat:=λx hx=>hu x (mem_append_left _ hx);have fe:Frs es:=λA B x e hx=>fr A (B++[d]) x (by rw[e];simp) hx;obtain⟨i0,i1,j0,j1⟩:=pt d ⋯;have f0:fw u d (h+bO es)=0:=by
   cases hk:d.1 with
   |pu=>unfold fw;rw[hk]
   |pc=>unfold fw;rw[hk];dsimp only;rw[hu d ⋯ hk];grind
   |ho=>
    open Classical in
    have nc:=fr es [] d rfl hk
    let F:Nat->Rat:=λp=>if Cn (jH .ho es) d.2.1.toNat p then 1 else 0
    have s1:=Gb (u:=u) (m:=m) F es h pe ue (λx hx hk'=>by
     show (if Cn (jH .ho es) d.2.1.toNat x.2.1.toNat then (1:Rat) else 0)=if Cn (jH .ho es) d.2.1.toNat x.2.2.1.toNat then 1 else 0
     have r:Cn (jH .ho es) x.2.1.toNat x.2.2.1.toNat:=.row (mem_filter.mpr ⟨hx,decide_eq_true hk'⟩) (by rw[hk'];exact λz=>by cases z)
     by_cases c:Cn (jH .ho es) d.2.1.toNat x.2.1.toNat
     .rw[if_pos c,if_pos (c.trans r)]
     .rw[if_neg c,if_neg (λz=>c (z.trans r.symm))])
    have s2:Mq.rs m (λp=>F p*nt u h (es++[d]) p)=0:=by
     have:∀p,p < m->F p*nt u h (es++[d]) p=0:=λp hp=>by rw[ze p hp];grind
     rw[aP this,dR]
    have e3:∀p,F p*nt u h (es++[d]) p=F p*nt u h es p+fw u d (h+bO es)*(F p*dl d.2.1.toNat d.2.2.1.toNat p):=λp=>by rw[zY];grind
    rw[aP λp _=>e3 p,dB,s1,dY,zN F () ()] at s2;have Fs:F d.2.1.toNat=1:=if_pos (.refl _);have Fg:F d.2.2.1.toNat=0:=if_neg nc;rw[Fs,Fg] at s2;grind
  have ze':∀p,p < m->nt u h es p=0:=λp hp=>by
   have:=ze p hp;rw[zY,f0] at this;grind
  rw[fZ] at h2
  by_cases c:y < h+bO es
  .exact Kq n es h le pe fe ue ze' y h1 c
  .have hk:d.1=.ho:=Classical.byContradiction λz=>by
    have:bY d.1=0:=if_neg z;lia
   have c1:bY d.1=1:=by rw[hk];rfl
   have:y=h+bO es:=by lia
   rw[this];unfold fw at f0;rw[hk] at f0;exact f0
theorem Jt (hm1:1<=m)(pt:∀d∈ds,dD (m:Int) d.2.1 d.2.2.1)(pos:∀d∈ds,d.1=.pc->0 < Mq.val d.2.2.2)(cn:∀p,p < m->Cn ds 0 p)(fr:Frs ds)(u0:u 0=0)(ze:∀y,1<=y->y<=m - 1+bO ds->Mq.rs (m - 1+bO ds) (λi=>u (i+1)*eqM m ds (i+1) y)=0):∀y,y<=m - 1+bO ds->u y=0:=by
 have ze2:∀y,1<=y->y<=m - 1+bO ds->nt u m ds y+hw u m ds y=0:=λy a b=>by
  have:=ze y a b;rw[Ia (m:=m) u0 () y ds m pt hm1 ()] at this;exact this
 have hf:=Bi (u:=u) ds m (λy a b=>by
  have:=ze2 y () ();rw[Gg ds m pt a] at this;grind)
 have np:∀p,1<=p->p < m->nt u m ds p=0:=λp a b=>by
  have:=ze2 p a ();rw[Lj ds m b] at this;grind
 have e0:eg u m ds=0:=by
  rw[<- Rm (u:=u) (m:=m) ds m pt];have:∀p,p < m->u p*nt u m ds p=0:=λp hp=>by
   by_cases c:p=0
   .rw[c,u0];grind
   .rw[np p () hp];grind
  rw[aP this,dR]
 have pf:=(Eb (u:=u) ds m pos hf).2 e0;have cz:∀p,p < m->u p=0:=λp hp=>by
  have:=Cn.ind (R:=λa b=>u a=u b) (λ_=>rfl) (λ_ _ e=>e.symm) (λ_ _ _ a b=>a.trans b) (λd hd hk=>by
   cases h:d.1 with
   |pc=>exact pf d hd h
   |pu=>exact absurd h hk
   |ho=>exact hf d hd h) (cn p hp)
  rw[<- this,u0]
 have all:∀p,p < m->nt u m ds p=0:=λp hp=>by
  by_cases c:p=0
  .have s:=Gb (u:=u) (m:=m) (λ_=>1) ds m pt pf (λ_ _ _=>rfl);obtain⟨k,rfl⟩:∃k,m=k+1:=⟨m - 1,()⟩
   rw[qW] at s;have:∀i,i < k->(1:Rat)*nt u (k+1) ds (i+1)=0:=λi hi=>by rw[np (i+1) () ()];grind
   rw[aP this,dR] at s;rw[c];grind
  .exact np p () hp
 have hz:=Kq (u:=u) (m:=m) _ ds m rfl pt fr pf all;intro y hy
 by_cases c:y < m
 .exact cz y c
 .exact hz y () ()
end
open Shp
section
variable {m N:Nat} {ds:List RD}
theorem Yj (d:RD)(h x y:Nat):cM d h x y=cM d h y x:=by
 unfold cM
 cases d.1<;>dsimp only<;>grind
theorem mC:∀(ds:List RD) (h x y:Nat),eqM h ds x y=eqM h ds y x
 | [],_,_,_=>rfl
 |d :: ds,h,x,y=>by
  show cM d h x y+eqM (h+bY d.1) ds x y=cM d h y x+eqM (h+bY d.1) ds y x;rw[Yj,mC ds]
structure Nof (m:Nat) (ds:List RD):Prop where
 m1:1<=m
 pt:∀d∈ds,dD (m:Int) d.2.1 d.2.2.1
 pos:∀d∈ds,d.1=.pc->0 < Mq.val d.2.2.2
 cn:∀p,p < m->Cn ds 0 p
 fr:Frs ds
theorem Nof.uni (o:Nof m ds){v w:Nat->Rat}{r:Nat->Rat}(hv:∀i,i < m - 1+bO ds->(Mq.rs (m - 1+bO ds) λj=>eqM m ds (i+1) (j+1)*v j)=r i)(hw:∀i,i < m - 1+bO ds->(Mq.rs (m - 1+bO ds) λj=>eqM m ds (i+1) (j+1)*w j)=r i):∀j,j < m - 1+bO ds->v j=w j:=by
 have:=Jt (u:=λx=>if x=0 then 0 else v (x - 1) - w (x - 1)) o.m1 o.pt o.pos o.cn o.fr (if_pos rfl) (λy y1 yn=>by
  have e:∀i,i < m - 1+bO ds->(if i+1=0 then (0:Rat) else v (i+1 - 1) - w (i+1 - 1))*eqM m ds (i+1) y=eqM m ds (y - 1+1) (i+1)*v i + - (eqM m ds (y - 1+1) (i+1)*w i):=λi _=>by
   rw[if_neg (),Nat.add_sub_cancel,mC ds m (i+1) y,show y - 1+1=y by lia];grind
  rw[aP e,dB,iR,hv (y - 1) (),hw (y - 1) ()];grind)
 intro j hj;have:=this (j+1) ();rw[if_neg (),Nat.add_sub_cancel] at this;grind
theorem qj9 (e:tQ m ds N X Y):X.length=m - 1+bO ds:=e.x.h
theorem Fx (e:tQ m ds N X Y)(i j:Nat):oR X i j=eqM m ds (i+1) (j+1):=e.vx i j
end
end L2
namespace Shp
open PySem L2
theorem La (hl:R0.length=m)(hw:∀i,i < m->(R0.getD i []).length=w)(hmw:m<=w)(h0:Pr R0)(st:Stp m w (Mq.at2 R0) Pr):∀col,col<=m->∃R r d sg,SI m w (Mq.at2 R0) R r col d sg/\Pr R
 |0,_=>⟨R0,0,1,1,.start hl hw,h0⟩
 |col+1,hc=>by
  obtain⟨R,r,d,sg,S,p⟩:=La hl hw hmw h0 st col ()
  by_cases hz:∀i,r<=i->i < m->ent R i col=0
  .exact⟨R,r,d,sg,S.skip hz,p⟩
  .obtain⟨i,hi⟩:=Classical.not_forall.mp hz;obtain⟨h1,hi⟩:=Classical.not_imp.mp hi;obtain⟨h2,ne⟩:=Classical.not_imp.mp hi
   by_cases e:i=r
   .subst e;exact⟨_,_,_,_,S.clear h2 () ne,st.cl R i col d sg S h2 () ne p⟩
   .have hlt:r < i:=by lia
    have S2:=S.swap hlt h2;have p2:=st.sw R r col d sg i S hlt h2 p;have ne2:ent (fQ R i r) r col≠0:=by
     have:=Cm (R:=R) (p:=i) (r:=r) (by rw[S.len];lia) (by rw[S.len];lia) r;unfold ent at ne ⊢;rw[this,show Mq.sw i r r=i by unfold Mq.sw;simp];exact ne
    exact⟨_,_,_,_,S2.clear () () ne2,st.cl _ r col d (-sg) S2 () () ne2 p2⟩
theorem Vy (xP:fP X)(hw:∀row∈X,row.length=X.length)(m1:1<=X.length)(hz:wgt X=0):∃v:Nat->Rat,(∃j,j < X.length/\v j≠0)/\∀x,x < X.length->(Mq.rs X.length λj=>v j*oR X j x)=0:=by
 obtain⟨R,r,d,sg,S,L⟩:=La (m:=X.length) (w:=X.length+X.length) (R0:=gG X) (mE X) (λi hi=>by rw[mZ hi,tH,hw _ (mem_of_getElem? (tV hi))]) () (Lh xP hw) Rv X.length (Nat.le_refl _);have wr:=Ep xP (Jl λi j hi hj=>sY xP hw hi hj) S;have hr:r < X.length:=by
  rcases wr with z | z
  .exact z.1
  .exact absurd hz z.2
 obtain⟨⟨k0,hk0,nk0⟩,hsum⟩:=L.lame S hr;refine⟨λk=>Mq.at2 R (X.length - 1) (X.length+k),⟨k0,hk0,λz=>?_⟩,hsum⟩;exact nk0 (Rat.intCast_inj.mp (by unfold Mq.at2 at z;simpa using z))
end Shp
namespace L2
open Shp
theorem Nof.wgt_ne (o:Nof m ds)(e:tQ m ds N X Y)(xP:fP X)(hw:∀row∈X,row.length=X.length)(m1:1<=X.length):wgt X≠0:=λhz=>by
 obtain⟨v,⟨j,hj,vj⟩,hs⟩:=Vy xP hw m1 hz;have n:=qj9 e;have z:=Jt (u:=λx=>if x=0 then 0 else v (x - 1)) o.m1 o.pt o.pos o.cn o.fr (if_pos rfl) (λy y1 yn=>by
  have s:=hs (y - 1) ();rw[n] at s;rw[<- s];refine aP λi _=>?_;rw[if_neg (),Nat.add_sub_cancel,Fx e,show y - 1+1=y by lia])
 have:=z (j+1) ();rw[if_neg (),Nat.add_sub_cancel] at this;exact vj this
end L2
namespace Mq
theorem Ec (l:Low p){a L:Int}(hL:1<=L)(h:val p=(a:Rat) / (L:Rat)):p.2 ∣ L/\p.1.natAbs<=a.natAbs:=by
 have h2:((p.2:Int):Rat)≠0:=by have:=l.pos;exact_mod_cast (show p.2≠0 by lia)
 have hl:((L:Int):Rat)≠0:=by exact_mod_cast (show L≠0 by lia)
 have e:p.1*L=a*p.2:=by
  unfold val at h;have:((p.1:Int):Rat)*(L:Rat)=(a:Rat)*((p.2:Int):Rat):=by grind
  exact_mod_cast this
 have d:p.2 ∣ L:=by
  have c:Int.gcd p.2 p.1=1:=by
   have:=l.one;unfold gc at this;rw[Int.gcd_comm];exact_mod_cast this
  have c':Nat.Coprime p.2.natAbs p.1.natAbs:=c;have dv:p.2.natAbs ∣ p.1.natAbs*L.natAbs:=by
   rw[<- Int.natAbs_mul,e,Int.natAbs_mul];exact Nat.dvd_mul_left ..
  exact Int.natAbs_dvd_natAbs.mp (c'.dvd_of_dvd_mul_left dv)
 obtain⟨t,ht⟩:=d;have t1:t≠0:=λz=>by rw[z,Int.mul_zero] at ht;lia
 have e2:p.1*t=a:=by
  have:p.2*(p.1*t)=p.2*a:=by
   rw[Int.mul_comm p.2 a,<- e,ht,<- Int.mul_assoc,<- Int.mul_assoc,Int.mul_comm p.2 p.1]
  exact Int.eq_of_mul_eq_mul_left (by have:=l.pos;lia) this
 refine⟨⟨t,ht⟩,?_⟩;rw[<- e2,Int.natAbs_mul];exact Nat.le_mul_of_pos_right _ ()
def Fr (L:Int)(M:Nat)(x:Rat):Prop:=∃a:Int,x=(a:Rat) / (L:Rat)/\a.natAbs<=M*L.natAbs
section
variable {L K:Int} {M N:Nat} {x y:Rat}
theorem wK (h:1<=L):((L:Int):Rat)≠0:=by exact_mod_cast (show L≠0 by lia)
theorem Fr.mono (h:Fr L M x)(l:M<=N):Fr L N x:=by
 obtain⟨a,e,b⟩:=h;exact⟨a,e,Nat.le_trans b (Nat.mul_le_mul_right _ l)⟩
theorem Fr.zero:Fr L 0 0:=⟨0,by rw[show ((0:Int):Rat)=0 by rfl,Rat.div_def];grind,⋯⟩
theorem Fr.one (h:1<=L):Fr L 1 1:=⟨L,by have:=wK h;grind,()⟩
theorem Fr.add (h:Fr L M x)(g:Fr L N y):Fr L (M+N) (x+y):=by
 obtain⟨a,ea,ba⟩:=h;obtain⟨b,eb,bb⟩:=g;refine⟨a+b,?_,?_⟩
 .rw[ea,eb,Rat.intCast_add,Rat.div_def,Rat.div_def,Rat.div_def];grind
 .rw[Nat.add_mul];have:=Int.natAbs_add_le a b;lia
theorem Fr.neg (h:Fr L M x):Fr L M (-x):=by
 obtain⟨a,ea,ba⟩:=h;refine⟨-a,?_,by rw[Int.natAbs_neg];exact ba⟩;rw[ea,Rat.intCast_neg,Rat.div_def,Rat.div_def];grind
theorem Fr.of (hL:1<=L){t b:Int}(hb:1<=b)(d:b ∣ L)(ht:t.natAbs<=M):Fr L M ((t:Rat) / (b:Rat)):=by
 obtain⟨k,rfl⟩:=d;have k1:1<=k:=by
  rcases Int.lt_or_le k 1 with z | z
  .have:=Int.mul_nonpos_of_nonneg_of_nonpos (show 0<=b by lia) (show k<=0 by lia);lia
  .exact z
 refine⟨t*k,?_,?_⟩
 .have:=wK hb;have:=wK k1;rw[Rat.intCast_mul,Rat.intCast_mul];grind
 .rw[Int.natAbs_mul,Int.natAbs_mul];refine Nat.mul_le_mul ht (Nat.le_mul_of_pos_left _ ())
theorem Fr.get (h:Fr L M x)(hM:M < 2 ^ m)(hL:B n L)(hb:m+n<=b):∃a:Int,B b a/\x=(a:Rat) / (L:Rat):=by
 obtain⟨a,ea,ba⟩:=h;refine⟨a,?_,ea⟩;refine B.mono (n:=m+n) ?_ hb;show a.natAbs < 2 ^ (m+n);rw[Nat.pow_add];have hL:L.natAbs < 2 ^ n:=hL;exact Nat.lt_of_le_of_lt ba (Nat.mul_lt_mul'' hM hL)
end
theorem wW (hL:1<=L)(l:Low p)(d:p.2 ∣ L)(b:Bd u p):Fr L (2 ^ u) (val p):=Fr.of hL l.pos d (Nat.le_of_lt b.a)
def prB:List Int->Int
 | []=>1
 |a :: r=>a*prB r
theorem Jo:∀{l:List Int},(∀a∈l,1<=a)->1<=prB l
 | [],_=>Int.le_refl _
 |a :: r,h=>by
  have h1:=h a ⋯;have h2:=Jo (l:=r) λb hb=>h b (mem_cons_of_mem _ hb);have:=Int.mul_pos (show 0 < a by lia) (show 0 < prB r by lia);show 1<=a*prB r;lia
theorem Kj:∀{l:List Int} {a:Int},a∈l->a ∣ prB l
 |b :: r,a,h=>by
  rcases mem_cons.mp h with z | z
  .rw[z];exact Int.dvd_mul_right ..
  .exact Int.dvd_trans (Kj z) (Int.dvd_mul_left ..)
theorem Yt:∀{l:List Int},(∀a∈l,B u a)->B (u*l.length+1) (prB l)
 | [],_=>show (1:Nat) < 2 ^ (u*0+1) by rw[Nat.mul_zero];decide
 |a :: r,h=>by
  have h1:=h a ⋯;have h2:=Yt (l:=r) λb hb=>h b (mem_cons_of_mem _ hb);exact(h1.mul h2).mono (by rw[length_cons,Nat.mul_succ];lia)
end Mq
namespace L2
theorem Ou (s g x:Nat):dl s g x=1\/dl s g x=0\/dl s g x=-1:=by
 unfold dl
 by_cases a:s=x<;>by_cases b:g=x<;>simp only[a,b,if_true,if_false]
 .exact .inr (.inl (by grind))
 .exact .inl (by grind)
 .exact .inr (.inr (by grind))
 .exact .inr (.inl (by grind))
theorem Dc (h:Mq.Fr L M y)(s g x:Nat):Mq.Fr L M (dl s g x*y):=by
 rcases Ou s g x with e | e | e
 .rw[e,Rat.one_mul];exact h
 .rw[e,Rat.zero_mul];exact Mq.Fr.zero.mono (Nat.zero_le _)
 .rw[e,show (-1:Rat)*y=-y by grind];exact h.neg
open PySem PySem.Spec PyProof.Rows Shp
abbrev Ent:=Option Nat × RD × Q2
section
variable {m u j:Nat} {hs:List Q2} {par:Nat->Nat} {E:List Ent}
theorem Lc {α:Type}{E:List α}{i:Nat}{e x:α}(h:x∈E.take i++e :: E.drop i):x=e\/x∈E:=by
 rcases mem_append.mp h with z | z
 .exact .inr (mem_of_mem_take z)
 .rcases mem_cons.mp z with z | z
  .exact .inl z
  .exact .inr (mem_of_mem_drop z)
end
theorem Le:∀n,∀e∈(fF W sk n).1,∃k,W k=true/\sk[e.1]?=some (k,e.2.1,e.2.2)/\e.1 < n
 |0,e,h=>by cases h
 |n+1,e,h=>by
  have ih:=Le (W:=W) (sk:=sk) n
  cases hd:sk[n]? with
  |none=>
   have:fF W sk (n+1)=fF W sk n:=by
    show (match sk[n]? with | none=>fF W sk n | some d=>iV W (fF W sk n) n d)=_;rw[hd]
   rw[this] at h;obtain⟨k,a,b,c⟩:=ih e h;exact⟨k,a,b,()⟩
  |some d=>
   rw[jG hd] at h;unfold iV at h;split at h
   .rename_i w
    split at h
    .rcases mem_append.mp h with z | z
     .obtain⟨k,a,b,c⟩:=ih e z;exact⟨k,a,b,()⟩
     .have:e=(n,d.2.1,d.2.2):=by simpa using z
      subst this;exact⟨d.1,w,hd,by show n < n+1;lia⟩
    .obtain⟨k,a,b,c⟩:=ih e h;exact⟨k,a,b,()⟩
   .obtain⟨k,a,b,c⟩:=ih e h;exact⟨k,a,b,()⟩
theorem iG {m:Nat}(hW:∀k,W k=true↔k=.ho)(pt:∀d∈ds,dD (m:Int) d.2.1 d.2.2.1)(h20:m<=20)(fr:Frs ds):∀n,n<=ds.length->(fF W (skl ds) n).2=[]
 |0,_=>rfl
 |n+1,hn=>by
  have ih:=iG hW pt h20 fr n ();have hd:ds[n]?=some ds[n]:=getElem?_eq_getElem ();generalize ds[n]=d at hd;have sl:(skl ds).length=ds.length:=by unfold skl;rw[length_map]
  have hs:(skl ds)[n]?=some (d.1,d.2.1.toNat,d.2.2.1.toNat):=by unfold skl;rw[getElem?_map,hd];rfl
  rw[jG hs];unfold iV;split
  .rename_i w
   have hk:d.1=.ho:=(hW _).mp w;obtain⟨a,b,c,f⟩:=pt d (mem_of_getElem? hd);have ri:=wJ (W:=W) (sk:=skl ds) (m:=m) (λx hx=>by
    obtain⟨y,hy,rfl⟩:=mem_map.mp hx;obtain⟨a,b,c,f⟩:=pt y hy;exact⟨by show y.2.1.toNat < m;lia,by show y.2.2.1.toNat < m;lia⟩) n ()
   have wi:=Xc (b:=d.2.2.1.toNat) (e:=d.2.1.toNat) ri.pt h20 () ()
   cases e:xX (fF W (skl ds) n).1 d.2.2.1.toNat d.2.1.toNat with
   |none=>dsimp only;first | (rw[e];exact ih) | exact ih
   |some st=>
    exfalso
    rw[e] at wi;have eq:=wi.mp rfl;have cn:=(Uj (vL ri.pt) () ()).mp eq;have ed:ds=ds.take n++d :: ds.drop (n+1):=by
     have hn':n < ds.length:=by lia
     have:ds[n]=d:=by rw[getElem?_eq_getElem hn'] at hd;exact Option.some.inj hd
     rw[<- this,getElem_cons_drop,take_append_drop]
    refine fr _ _ d ed hk ?_;refine Cn.ind (R:=λp q=>Cn (jH .ho (ds.take n)) p q) (λp=>.refl p) (λ_ _=>.symm) (λ_ _ _=>.trans) (λx hx _=>?_) cn;obtain⟨y,hy,rfl⟩:=mem_map.mp hx;obtain⟨k,wk,sk,yn⟩:=Le n y hy;unfold skl at sk;rw[getElem?_map] at sk;obtain⟨z,hz,ez⟩:=Option.map_eq_some_iff.mp sk;have e1:z.1=k:=congrArg (·.1) ez;have e2:z.2.1.toNat=y.2.1:=congrArg (·.2.1) ez;have e3:z.2.2.1.toNat=y.2.2:=congrArg (·.2.2) ez;have hz':z∈jH .ho (ds.take n):=mem_filter.mpr ⟨mem_of_getElem? (show (ds.take n)[y.1]?=some z by rw[getElem?_take_of_lt yn];exact hz),decide_eq_true (by rw[e1];exact(hW _).mp wk)⟩;have:Cn (jH .ho (ds.take n)) z.2.1.toNat z.2.2.1.toNat:=.row hz' (by rw[e1,(hW _).mp wk];exact λz=>by cases z);rw[e2,e3] at this;show Cn _ ((y.2.1:Nat):Int).toNat ((y.2.2:Nat):Int).toNat;rw[Int.toNat_natCast,Int.toNat_natCast];exact this
  .exact ih
end L2
namespace Mq
theorem Kz {a L l k:Int}(h:1<=p.2)(e:l=k*p.2)(l1:1<=l)(d:l ∣ L)(hL:1<=L)(v:val p=(a:Rat) / (L:Rat)):(Er l p).natAbs<=a.natAbs:=by
 obtain⟨s,rfl⟩:=d;have s1:s≠0:=λz=>by rw[z,Int.mul_zero] at hL;lia
 have hv:=Qh (L:=l) (k:=k) h e;have h2:=wK l1;have h3:((s:Int):Rat)≠0:=by exact_mod_cast s1
 have e2:Er l p*s=a:=by
  have:((Er l p:Int):Rat)*(s:Rat)=(a:Rat):=by
   rw[hv,v,Rat.intCast_mul];grind
  exact_mod_cast this
 rw[<- e2,Int.natAbs_mul];exact Nat.le_mul_of_pos_right _ ()
end Mq
namespace Shp
open PySem L2
theorem Jc (hX:fP X)(hq:Mq.Pos qs)(hl:qs.length=X.length)(hb:∀row∈X,∀p∈row,p.2 ∣ L/\∃a:Int,Mq.B b a/\Mq.val p=(a:Rat) / (L:Rat))(hqb:∀p∈qs,p.2 ∣ L/\∃a:Int,Mq.B b a/\Mq.val p=(a:Rat) / (L:Rat))(hL:1<=L):BdR b (iJ X qs):=λi x=>by
 unfold ent
 by_cases hi:i < X.length
 .rw[yA hl hi];have pos:=uF hX hq hl hi;have al:∀p∈X.getD i []++[qs.getD i Mq.z0],p.2 ∣ L/\∃a:Int,Mq.B b a/\Mq.val p=(a:Rat) / (L:Rat):=λp hp=>by
   rcases mem_append.mp hp with z | z
   .exact hb _ (mem_of_getElem? (tV hi)) p z
   .have e:p=qs.getD i Mq.z0:=by simpa using z
    rw[e];exact hqb _ (mem_of_getElem? (Mq.Th (show i < qs.length by lia)))
  generalize X.getD i []++[qs.getD i Mq.z0]=row at pos al;obtain⟨dv,l1⟩:=Mq.sR pos (λp hp=>(al p hp).1) row.length (Nat.le_refl _);rw[take_length] at dv l1;unfold iw;rw[getD_eq_getElem?_getD,getElem?_map]
  cases e:row[x]? with
  |none=>exact Nat.two_pow_pos _
  |some p=>
   have mem:=mem_of_getElem? e;obtain⟨_,a,ab,ea⟩:=al p mem;obtain⟨k,ek⟩:=yB pos p mem;exact ab.le (Mq.Kz (pos p mem) ek l1 dv hL ea)
 .rw[getD_eq_getElem?_getD (l:=iJ X qs),getElem?_eq_none (by rw[Ey hl];lia)];exact Nat.two_pow_pos _
structure Ovr (n:Nat) (ps:List Q2):Prop where
 e:∃D:Int,1<=D/\Mq.B n D/\∀p∈ps,∃t:Int,Mq.B n t/\Mq.val p=(t:Rat) / (D:Rat)
theorem Wf (d0:d≠0)(bd:Mq.B n d)(h:∀p∈ps,∃t:Int,Mq.B n t/\p=red t d):Ovr n ps:=by
 refine⟨(d.natAbs:Int),(),by show ((d.natAbs:Int)).natAbs < _;rw[Int.natAbs_natCast];exact bd,λp hp=>?_⟩;obtain⟨t,bt,rfl⟩:=h p hp;rw[jO d0];rcases Int.lt_or_le d 0 with z | z
 .refine⟨-t,bt.neg,?_⟩;rw[show ((d.natAbs:Nat):Int)=-d by lia,Rat.intCast_neg,Rat.intCast_neg];have:((d:Int):Rat)≠0:=by exact_mod_cast d0
  grind
 .exact⟨t,bt,by rw[show ((d.natAbs:Nat):Int)=d by lia]⟩
inductive nV (K:Frag) (vs:List V) (H:Hp) (Q:VK) (E:XK):Prop where
 |mk (g b D:Addr) (H0:Hp) (us bs:List V) (X:List (List Q2)) (qs:List Q2) (k n:Nat):vs=[.ref g,.ref b]->SqL K H g us->Fmd K H0 D H us X->SqL K H b bs->Fqs K H bs qs->qs.length=X.length->eI qs->(∀p∈qs,Bd k p)->fP X->(∀row∈X,(∀p∈row,Bd k p)/\row.length=X.length)->X.length<=26->10+k+k*(X.length+1)<=8000->BdR n (iJ X qs)->1<=n->bw n X.length<=8900->wgt X≠0->(∀l zs ps H',aV H H'->H l=none->H' l=some (.lst zs)->Fqs K H' zs ps->qh8 X qs ps->Ovr (bw n X.length) ps->Q (.ref l) H')->nV K vs H Q E
end Shp
namespace L2
open PySem PySem.Spec PyProof.Rows Shp
abbrev wd (m:Nat)(ds:List RD):Nat:=m - 1+bO ds
structure Sv (m:Nat) (ds:List RD) (r:Nat->Rat) (v:Nat->Rat):Prop where
 z:v 0=0
 e:∀i,i < wd m ds->(Mq.rs (wd m ds) λj=>eqM m ds (i+1) (j+1)*v (j+1))=r (i+1)
def un (k x:Nat):Rat:=if x=k then 1 else 0
abbrev yD (m:Nat)(ds:List RD)(a b:Nat)(v:Nat->Rat):Prop:=Sv m ds (λx=>un a x - un b x) v
section
variable {m:Nat} {ds:List RD} {r v:Nat->Rat}
theorem Sv.uni (o:Nof m ds)(h:Sv m ds r v)(g:Sv m ds r u):∀j,j<=wd m ds->v j=u j:=λj hj=>by
 by_cases c:j=0
 .rw[c,h.z,g.z]
 .have:=o.uni (v:=λj=>v (j+1)) (w:=λj=>u (j+1)) (r:=λi=>r (i+1)) h.e g.e (j - 1) (by unfold wd at hj;lia)
  rwa [show j - 1+1=j by lia] at this
theorem Sv.row (o:Nof m ds)(h:Sv m ds r v)(x1:1<=x)(xw:x<=wd m ds):nt v m ds x+hw v m ds x=r x:=by
 have e:=h.e (x - 1) ();have m1:=o.m1;rw[show x - 1+1=x by lia] at e;have c:∀j,j < wd m ds->eqM m ds x (j+1)*v (j+1)=v (j+1)*eqM m ds (j+1) x:=λj _=>by rw[mC,Rat.mul_comm]
 rw[aP c,Ia (m:=m) (u:=v) h.z (by unfold wd;lia) x ds m o.pt m1 (by unfold wd;lia)] at e;exact e
theorem Sv.pt (o:Nof m ds)(h:Sv m ds r v)(x1:1<=x)(xm:x < m):nt v m ds x=r x:=by
 have:=h.row o x1 (by unfold wd;lia);rw[Lj ds m xm] at this;grind
theorem Sv.hold (o:Nof m ds)(h:Sv m ds r v)(xm:m<=x)(xw:x<=wd m ds):hw v m ds x=r x:=by
 have:=h.row o (by have:=o.m1;lia) xw;rw[Gg ds m o.pt xm] at this;grind
theorem qe1 (o:Nof m ds):Mq.rs m (λp=>nt v m ds p)=0:=by
 have:=Kv (u:=v) (m:=m) (λ_=>1) ds m o.pt (λ_ _ _=>rfl);rw[<- this];exact aP λp _=>by grind
theorem Dr (hk:k < n)(F:Nat->Rat):Mq.rs n (λp=>F p*un k p)=F k:=by
 have:∀p,p < n->F p*un k p=if k=p then F p else 0:=λp _=>by
  unfold un
  by_cases c:p=k
  .rw[if_pos c,if_pos c.symm];grind
  .rw[if_neg c,if_neg (λz=>c z.symm)];grind
 rw[aP this,wO,if_pos hk]
theorem Sw (hk:k < n):Mq.rs n (λp=>un k p)=1:=by
 have:=Dr hk (λ_=>1);rw[<- this];exact aP λp _=>by grind
theorem yD.all (o:Nof m ds)(h:yD m ds a b v)(ha:a < m)(hb:b < m):∀p,p < m->nt v m ds p=un a p - un b p:=λp hp=>by
 by_cases c:p=0
 .have s:=qe1 (v:=v) o;have t:Mq.rs m (λp=>un a p - un b p)=0:=by
   have e:∀p,p < m->un a p - un b p=un a p + - un b p:=λp _=>by grind
   rw[aP e,dB,iR,Sw ha,Sw hb];grind
  obtain⟨k,rfl⟩:∃k,m=k+1:=⟨m - 1,()⟩
  rw[qW] at s t;have e:Mq.rs k (λi=>nt v (k+1) ds (i+1))=Mq.rs k (λi=>un a (i+1) - un b (i+1)):=aP λi hi=>h.pt o () ();rw[e] at s;rw[c];grind
 .exact h.pt o () hp
theorem yD.holds (o:Nof m ds)(h:yD m ds a b v)(ha:a < m)(hb:b < m):∀d∈ds,d.1=.ho->v d.2.1.toNat=v d.2.2.1.toNat:=
 Bi (u:=v) ds m λy hy hl=>by
  rw[h.hold o hy (by have:=o.m1;unfold wd;lia)];unfold un;rw[if_neg (),if_neg ()];grind
theorem yD.eg (o:Nof m ds)(h:yD m ds a b v)(ha:a < m)(hb:b < m):L2.eg v m ds=v a - v b:=by
 rw[<- Rm (u:=v) (m:=m) ds m o.pt];have e:∀p,p < m->v p*nt v m ds p=v p*un a p + - (v p*un b p):=λp hp=>by rw[h.all o ha hb p hp];grind
 rw[aP e,dB,iR,Dr ha,Dr hb];grind
theorem yD.nn (o:Nof m ds)(h:yD m ds a b v)(ha:a < m)(hb:b < m):0<=v a - v b:=by
 rw[<- h.eg o ha hb];exact(Eb (u:=v) ds m o.pos (h.holds o ha hb)).1
end
theorem Op (u:Nat->Rat):∀(A B:List RD) (h:Nat),eg u h (A++B)=eg u h A+eg u (h+bO A) B
 | [],B,h=>by show eg u h B=0+eg u (h+0) B;rw[Nat.add_zero];grind
 |d :: A,B,h=>by
  show fw u d h*_+eg u (h+bY d.1) (A++B)=fw u d h*_+eg u (h+bY d.1) A+_;rw[Op u A B,fE,Nat.add_assoc];grind
theorem Ui (u:Nat->Rat)(p:Nat):∀(A B:List RD) (h:Nat),nt u h (A++B) p=nt u h A p+nt u (h+bO A) B p
 | [],B,h=>by show nt u h B p=0+nt u (h+0) B p;rw[Nat.add_zero];grind
 |d :: A,B,h=>by
  show fw u d h*_+nt u (h+bY d.1) (A++B) p=fw u d h*_+nt u (h+bY d.1) A p+_;rw[Ui u p A B,fE,Nat.add_assoc];grind
section
variable {m:Nat} {A B:List RD} {d:RD} {v:Nat->Rat}
theorem Sf (o:Nof m (A++d :: B))(hk:d.1=.pc)(h:yD m (A++d :: B) d.2.1.toNat d.2.2.1.toNat v) :
  0<=v d.2.1.toNat - v d.2.2.1.toNat/\(v d.2.1.toNat - v d.2.2.1.toNat)*(1 / Mq.val d.2.2.2)<=1/\((v d.2.1.toNat - v d.2.2.1.toNat)*(1 / Mq.val d.2.2.2)=1↔¬Cn (A++B) d.2.1.toNat d.2.2.1.toNat):=by
 obtain⟨i0,i1,j0,j1⟩:=o.pt d ⋯;have ha:d.2.1.toNat < m:=by lia
 have hb:d.2.2.1.toNat < m:=by lia
 have nn:=h.nn o ha hb;have en:=h.eg o ha hb;have hol:=h.holds o ha hb;have zp:=o.pos d ⋯ hk;have qp:=Di zp;rw[Op] at en;have e1:eg v (m+bO A) (d :: B)=(v d.2.1.toNat - v d.2.2.1.toNat)*(1 / Mq.val d.2.2.2)*(v d.2.1.toNat - v d.2.2.1.toNat)+eg v (m+bO A+bY d.1) B:=by
  show fw v d _*_+_=_;unfold fw;rw[hk]
 rw[e1] at en;have nA:=Eb (u:=v) A m (λx hx=>o.pos x (mem_append_left _ hx)) (λx hx=>hol x (mem_append_left _ hx));have nB:=Eb (u:=v) B (m+bO A+bY d.1) (λx hx=>o.pos x (mem_append_right _ (mem_cons_of_mem _ hx))) (λx hx=>hol x (mem_append_right _ (mem_cons_of_mem _ hx)));refine⟨nn,?_,?_,?_⟩
 .have nA:=nA.1;have nB:=nB.1;generalize eg v m A=x at *
  generalize eg v (m+bO A+bY d.1) B=y at *
  generalize v d.2.1.toNat - v d.2.2.1.toNat=R at *
  generalize 1 / Mq.val d.2.2.2=q at *
  rcases Rat.le_total (a:=R*q) (b:=1) with c | c
  .exact c
  .have h1:0<=(R*q - 1)*R:=Rat.mul_nonneg (by grind) nn;have h2:(R*q - 1)*R=-(x+y):=by grind
   have h3:(R*q - 1)*R=0:=by grind
   rcases Rat.mul_eq_zero.mp h3 with z | z
   .grind
   .rw[z];grind
 .intro s1 cn;have x0:eg v m A=0/\eg v (m+bO A+bY d.1) B=0:=by
   have nA:=nA.1;have nB:=nB.1;rw[s1] at en;constructor<;>grind
  have pA:=nA.2 x0.1;have pB:=nB.2 x0.2;have:=Cn.ind (R:=λa b=>v a=v b) (λ_=>rfl) (λ_ _ e=>e.symm) (λ_ _ _ a b=>a.trans b) (λx hx hxk=>by
   rcases mem_append.mp hx with z | z
   .cases c:x.1 with
    |pc=>exact pA x z c
    |pu=>exact absurd c hxk
    |ho=>exact hol x (mem_append_left _ z) c
   .cases c:x.1 with
    |pc=>exact pB x z c
    |pu=>exact absurd c hxk
    |ho=>exact hol x (mem_append_right _ (mem_cons_of_mem _ z)) c) cn
  rw[this] at s1;grind
 .intro nc
  open Classical in
  let F:Nat->Rat:=λp=>if Cn (A++B) d.2.1.toNat p then 1 else 0
  have Fr:∀x∈A++B,x.1≠.pu->F x.2.1.toNat=F x.2.2.1.toNat:=λx hx hxk=>by
   show (if Cn (A++B) d.2.1.toNat x.2.1.toNat then (1:Rat) else 0)=if Cn (A++B) d.2.1.toNat x.2.2.1.toNat then 1 else 0
   have r:Cn (A++B) x.2.1.toNat x.2.2.1.toNat:=.row hx hxk
   by_cases c:Cn (A++B) d.2.1.toNat x.2.1.toNat
   .rw[if_pos c,if_pos (c.trans r)]
   .rw[if_neg c,if_neg (λz=>c (z.trans r.symm))]
  have Fs:F d.2.1.toNat=1:=if_pos (.refl _);have Fg:F d.2.2.1.toNat=0:=if_neg nc;have s1:Mq.rs m (λp=>F p*nt v m (A++d :: B) p)=F d.2.1.toNat - F d.2.2.1.toNat:=by
   have e:∀p,p < m->F p*nt v m (A++d :: B) p=F p*un d.2.1.toNat p + - (F p*un d.2.2.1.toNat p):=λp hp=>by rw[h.all o ha hb p hp];grind
   rw[aP e,dB,iR,Dr ha,Dr hb];grind
  have s2:Mq.rs m (λp=>F p*nt v m (A++d :: B) p)=fw v d (m+bO A)*(F d.2.1.toNat - F d.2.2.1.toNat):=by
   have e:∀p,p < m->F p*nt v m (A++d :: B) p=F p*nt v m A p+(fw v d (m+bO A)*(F p*dl d.2.1.toNat d.2.2.1.toNat p)+F p*nt v (m+bO A+bY d.1) B p):=λp hp=>by
    rw[Ui];show F p*(_+(fw v d (m+bO A)*dl d.2.1.toNat d.2.2.1.toNat p+nt v (m+bO A+bY d.1) B p))=_;grind
   rw[aP e,dB,dB,dY,zN F ha hb,Kv F A m (λx hx=>o.pt x (mem_append_left _ hx)) (λx hx=>Fr x (mem_append_left _ hx)),Kv F B _ (λx hx=>o.pt x (mem_append_right _ (mem_cons_of_mem _ hx))) (λx hx=>Fr x (mem_append_right _ hx))];grind
  rw[s1,Fs,Fg] at s2;have f1:fw v d (m+bO A)=(v d.2.1.toNat - v d.2.2.1.toNat)*(1 / Mq.val d.2.2.2):=by unfold fw;rw[hk]
  rw[f1] at s2;grind
end
theorem bG.seqI {K:Frag}(ht:H t=some (.ins C dx fs))(e:bG t H H')(h:SqL K H a xs):SqL K H' a xs:=by
 rcases h with (h | ⟨u,h⟩) | h
 .exact .inl (.inl (e _ _ h (cZ h ht (λz=>by cases z))))
 .exact .inl (.inr ⟨u,e _ _ h (cZ h ht (λz=>by cases z))⟩)
 .exact .inr h
theorem bG.seqTI {K:Frag}(ht:H t=some (.ins C dx fs))(e:bG t H H')(h:SqT K H a xs):SqT K H' a xs:=by
 rcases h with (h | ⟨u,h⟩) | h
 .exact .inl (.inl (e _ _ h (cZ h ht (λz=>by cases z))))
 .exact .inl (.inr ⟨u,e _ _ h (cZ h ht (λz=>by cases z))⟩)
 .exact .inr h
theorem bG.fqsI {K:Frag}(ht:H t=some (.ins C dx fs))(e:bG t H H'):∀{xs:List V} {ps:List Q2},Fqs K H xs ps->Fqs K H' xs ps
 |_,_,.nil=>.nil
 |_,_,.cons f q=>.cons (bG.seqTI ht e f) (bG.fqsI ht e q)
theorem gil:¬(("lines":Str) = "levels"):=by decide +kernel
theorem gio:¬(("lines":Str) = "flows"):=by decide +kernel
theorem glo:¬(("levels":Str) = "flows"):=by decide +kernel
def iA (p l a:Addr):List (Str × V):=cP "flows" (.ref a) (cP "levels" (.ref l) (cP "lines" (.ref p) []))
theorem Vd (p l a:Addr):(iA p l a).lookup ("lines":Str)=some (.ref p):=by
 unfold iA;rw[bH,if_neg gio,bH,if_neg gil,bH,if_pos rfl]
theorem Vn (p l a:Addr):(iA p l a).lookup ("levels":Str)=some (.ref l):=by
 unfold iA;rw[bH,if_neg glo,bH,if_pos rfl]
theorem Xi (p l a:Addr):(iA p l a).lookup ("flows":Str)=some (.ref a):=by
 unfold iA;rw[bH,if_pos rfl]
theorem gS (p l a:Addr){x:Str}(h1:¬x = "lines")(h2:¬x = "levels")(h3:¬x = "flows"):(iA p l a).lookup x=none:=by
 unfold iA;rw[bH,if_neg h3,bH,if_neg h2,bH,if_neg h1];rfl
structure AB (K:Frag) (mg:Str->Option Value) (CA:Addr):Prop where
 cl:Cls K CA
 nI:gJ K CA "lines"
 nE:gJ K CA "levels"
 nO:gJ K CA "flows"
 mA:mg "Answer"=some (.ref CA)
structure vK (CA:Addr) (K:Frag) (H:Hp) (a:Addr) (lv fl:List Q2):Prop where
 e:∃(dx li le fo:Addr) (xs ys:List V),H a=some (.ins CA dx (iA li le fo))/\SqL K H le xs/\Fqs K H xs lv/\SqL K H fo ys/\Fqs K H ys fl
theorem vK.same {K:Frag}(s:aV H H')(h:vK CA K H a lv fl):vK CA K H' a lv fl:=by
 obtain⟨dx,li,le,fo,xs,ys,h1,h2,h3,h4,h5⟩:=h.e;exact⟨dx,li,le,fo,xs,ys,s _ _ h1,s.seq h2,h3.same s,s.seq h4,h5.same s⟩
inductive jZ (CA:Addr) (K:Frag) (vs:List V) (H:Hp) (Q:VK) (E:XK):Prop where
 |mk (a:Addr) (lv fl:List Q2):vs=[.ref a]->vK CA K H a lv fl->(∀l xs H',aV H H'->H l=none->H' l=some (.lst xs)->Fqs K H' xs lv->Q (.ref l) H')->jZ CA K vs H Q E
inductive oM (CA:Addr) (K:Frag) (vs:List V) (H:Hp) (Q:VK) (E:XK):Prop where
 |mk (a:Addr) (lv fl:List Q2):vs=[.ref a]->vK CA K H a lv fl->(∀l xs H',aV H H'->H l=none->H' l=some (.lst xs)->Fqs K H' xs fl->Q (.ref l) H')->oM CA K vs H Q E
def Vj (lv hs:List Q2)(t:Nat)(d:RD):Q2:=Nj d.1 (flF lv d) (if d.1=.ho then hs.getD t Mq.z0 else (0,1)) d.2.2.2
def pU (lv hs:List Q2):Nat->List RD->List Q2
 |_,[]=>[]
 |t,d :: r=>Vj lv hs t d :: pU lv hs (t+bY d.1) r
theorem yP (lv hs:List Q2)(d:RD):∀(ds:List RD) (t:Nat),pU lv hs t (ds++[d])=pU lv hs t ds++[Vj lv hs (t+bO ds) d]
 | [],t=>rfl
 |e :: r,t=>by
  show _ :: pU lv hs (t+bY e.1) (r++[d])=_ :: (pU lv hs (t+bY e.1) r++_);rw[yP lv hs d r,fE,Nat.add_assoc]
theorem Ex (lv hs:List Q2):∀(ds:List RD) (t:Nat),(pU lv hs t ds).length=ds.length
 | [],_=>rfl
 |d :: r,t=>by show (pU lv hs _ r).length+1=r.length+1;rw[Ex lv hs r]
def lvS (m:Nat)(sol:List Q2):List Q2:=(0,1) :: sol.take (m - 1)
section
variable {l CA a:Addr} {K:Frag} {H H':Hp} {lv fl:List Q2}
theorem bG.fqsL (hl:H l=some (.lst as))(e:bG l H H'):∀{xs:List V} {ps:List Q2},Fqs K H xs ps->Fqs K H' xs ps
 |_,_,.nil=>.nil
 |_,_,.cons f q=>.cons (e.seqT hl f) (bG.fqsL hl e q)
end
theorem wU (l:Low p)(hL:1<=L)(LB:Mq.B b L)(ab:Mq.B b a)(h:Mq.val p=(a:Rat) / (L:Rat)):Bd b p/\p.2 ∣ L:=by
 obtain⟨d,t⟩:=Mq.Ec l hL h;refine⟨⟨ab.le t,LB.le ?_⟩,d⟩;have:=Int.le_of_dvd () d;have:=l.pos;lia
structure EqB (m b:Nat) (L:Int) (ds:List RD):Prop where
 o:Nof m ds
 w26:wd m ds<=26
 b1:1<=b
 hb:10+b+b*(wd m ds+1)<=8000
 hbw:bw b (wd m ds)<=4000
 L1:1<=L
 LB:Mq.B b L
 eM:∀i j,∃a:Int,Mq.B b a/\eqM m ds (i+1) (j+1)=(a:Rat) / (L:Rat)
def Q01 (p:Q2):Prop:=Low p/\p.2=1/\p.1.natAbs<=1
theorem Q01.bd (h:Q01 p)(b1:1<=b):Bd b p:=by
 obtain⟨_,e,l⟩:=h;have:(2:Nat) ^ 1<=2 ^ b:=Nat.pow_le_pow_right ∅ b1;exact⟨by show p.1.natAbs < 2 ^ b;lia,by show p.2.natAbs < 2 ^ b;rw[e];show 1 < 2 ^ b;lia⟩
theorem Q01.ov (h:Q01 p)(L1:1<=L)(LB:Mq.B b L):p.2 ∣ L/\∃a:Int,Mq.B b a/\Mq.val p=(a:Rat) / (L:Rat):=by
 obtain⟨_,e,l⟩:=h;refine⟨by rw[e];exact Int.one_dvd _,p.1*L,LB.le ?_,?_⟩
 .rw[Int.natAbs_mul]
  calc p.1.natAbs*L.natAbs<=1*L.natAbs:=Nat.mul_le_mul_right _ l
   _=L.natAbs:=Nat.one_mul _
 .have:=Mq.wK L1;unfold Mq.val;rw[e,Rat.intCast_mul,show ((1:Int):Rat)=1 by rfl];grind
def uP (sol:List Q2)(x:Nat):Rat:=if x=0 then 0 else Mq.val (sol.getD (x - 1) Mq.z0)
section
variable {m b N:Nat} {L:Int} {ds:List RD} {X:List (List Q2)} {Y qs ps:List Q2}
theorem EqB.cell (h:EqB m b L ds)(e:tQ m ds N X Y):∀row∈X,(∀p∈row,Bd b p/\p.2 ∣ L/\∃a:Int,Mq.B b a/\Mq.val p=(a:Rat) / (L:Rat))/\row.length=X.length:=λrow hr=>by
 refine⟨λp hp=>?_,by rw[e.x.w row hr,e.x.h]⟩;obtain⟨i,hi⟩:=getElem?_of_mem hr;obtain⟨j,hj⟩:=getElem?_of_mem hp;have ep:p=jS X i j:=by
  unfold jS;rw[getD_eq_getElem?_getD (l:=X),hi];show p=row.getD j (0,1);rw[getD_eq_getElem?_getD,hj];rfl
 obtain⟨a,ab,ea⟩:=h.eM i j;have ev:Mq.val p=(a:Rat) / (L:Rat):=by rw[ep,e.vx,ea]
 obtain⟨x,y⟩:=wU (e.x.l row hr p hp).1 h.L1 h.LB ab ev;exact⟨x,y,a,ab,ev⟩
theorem EqB.pos (e:tQ m ds N X Y):fP X:=λrow hr p hp=>(e.x.l row hr p hp).1.pos
theorem EqB.wgt (h:EqB m b L ds)(e:tQ m ds N X Y):wgt X≠0:=by
 by_cases c:1<=X.length
 .exact h.o.wgt_ne e (EqB.pos e) (λrow hr=>(h.cell e row hr).2) c
 .have:X=[]:=eq_nil_of_length_eq_zero ();subst this;show (1:Rat)≠0;decide
theorem EqB.sol (e:tQ m ds N X Y)(s:qh8 X qs ps)(vq:∀i,i < wd m ds->Mq.val (qs.getD i Mq.z0)=r (i+1)):Sv m ds r (uP ps):=by
 have lX:X.length=wd m ds:=e.x.h;refine⟨if_pos rfl,λi hi=>?_⟩;rw[<- vq i hi,<- s.sum i (),lX];refine aP λj _=>?_;unfold uP;rw[if_neg (),Nat.add_sub_cancel,Fx e]
end
theorem nY (hl:m - 1<=ps.length)(hp:p < m):Mq.val ((lvS m ps).getD p (0,1))=uP ps p:=by
 unfold lvS uP
 by_cases c:p=0
 .subst c;rw[if_pos rfl];exact tJ
 .rw[if_neg c];obtain⟨q,rfl⟩:∃q,p=q+1:=⟨p - 1,()⟩
  rw[Nat.add_sub_cancel,getD_eq_getElem?_getD,getElem?_cons_succ,getElem?_take_of_lt (),<- getD_eq_getElem?_getD]
theorem oF (m1:1<=m)(hl:m - 1<=ps.length):(lvS m ps).length=m:=by
 unfold lvS;rw[length_cons,length_take];lia
theorem nH (h:eI ps):eI (lvS m ps):=λp hp=>by
 rcases mem_cons.mp hp with z | z
 .rw[z];exact⟨∅,∅⟩
 .exact h p (mem_of_mem_take z)
theorem Am (h:Ovr n ps):Ovr n (lvS m ps):=by
 obtain⟨D,D1,bD,al⟩:=h.e;refine⟨D,D1,bD,λp hp=>?_⟩;rcases mem_cons.mp hp with z | z
 .refine⟨0,Nat.two_pow_pos _,?_⟩;rw[z,tJ,Rat.div_def];show (0:Rat)=((0:Int):Rat)*_;rw[show ((0:Int):Rat)=0 by rfl];grind
 .exact al p (mem_of_mem_take z)
theorem Ovr.minus (h:Ovr n ps)(low:eI ps)(hp:p∈ps)(hq:q∈ps):Bd (n+1) (Mq.minus p q)/\Bd n p/\Bd n q:=by
 obtain⟨D,D1,bD,al⟩:=h.e;obtain⟨t,bt,et⟩:=al p hp;obtain⟨s,bs,es⟩:=al q hq;have lp:=low p hp;have lq:=low q hq;refine⟨?_,(wU lp D1 bD bt et).1,(wU lq D1 bD bs es).1⟩;refine(wU (gO lp.pos lq.pos) D1 (bD.mono ()) (bt.sub bs) ?_).1;rw[iF lp.pos lq.pos,et,es,Rat.intCast_sub,Rat.div_def,Rat.div_def,Rat.div_def];grind
structure Eg (CN:Addr) (K:Frag) (H:Hp) (n l:Addr) (m b:Nat) (kb:Nat->Nat) (L:Int) (ds:List RD):Prop where
 nt:dG CN K H n l (m:Int) ds
 ok:∀i d,ds[i]?=some d->Ag (m:Int) d/\Bd (kb i) d.2.2.2
 m20:m<=20
 h40:ds.length<=40
 cu:kL kb ds.length+30<=8900
 eb:EqB m b L ds
theorem Eg.same {K:Frag}(s:aV H H')(h:Eg CN K H n l m b kb L ds):Eg CN K H' n l m b kb L ds:=⟨h.nt.same s,h.ok,h.m20,h.h40,h.cu,h.eb⟩
abbrev Hn:=Option (Nat × Nat) × RD
def rot (m t k:Nat):Nat:=(k+t) % m
structure Qf (m t:Nat) (e:Hn):Prop where
 pt:dD (m:Int) e.2.2.1 e.2.2.2.1
 sl:Low e.2.2.2.2
 bd:Bd 7 e.2.2.2.2
 pc:e.2.1=.pc->0 < e.2.2.2.2.1/\Bd 4 e.2.2.2.2
 ho:e.2.1=.ho->e.1≠none
 tg:∀k j,e.1=some (k,j)->e.2.1≠.pu/\1<=k/\k < m/\j < k/\((e.2.2.1=(rot m t k:Int)/\e.2.2.2.1=(rot m t j:Int))\/(e.2.2.1=(rot m t j:Int)/\e.2.2.2.1=(rot m t k:Int)))
abbrev tgs (E:List Hn):List (Nat × Nat):=E.filterMap (·.1)
structure Hng (m t J:Nat) (E:List Hn):Prop where
 m1:1<=m
 tm:t < m
 en:∀e∈E,Qf m t e
 nd:((tgs E).map (·.1)).Nodup
 al:∀k,1<=k->k < J->∃j,(k,j)∈tgs E
 lt:∀p∈tgs E,p.1 < J
 ln:(tgs E).length+1=J
section
variable {m t J:Nat} {E:List Hn}
theorem Oy (m1:1<=m)(k:Nat):rot m t k < m:=Nat.mod_lt _ ()
theorem oJ (tm:t < m)(hj:j < m)(hk:k < m)(h:rot m t j=rot m t k):j=k:=by
 unfold rot at h;have a:(j+t) % m=if j+t < m then j+t else j+t - m:=by
  split
  .exact Nat.mod_eq_of_lt (by assumption)
  .rw[Nat.mod_eq_sub_mod (),Nat.mod_eq_of_lt ()]
 have b:(k+t) % m=if k+t < m then k+t else k+t - m:=by
  split
  .exact Nat.mod_eq_of_lt (by assumption)
  .rw[Nat.mod_eq_sub_mod (),Nat.mod_eq_of_lt ()]
 rw[a,b] at h;split at h<;>split at h<;>lia
theorem Aa (tm:t < m)(hp:p < m):∃k,k < m/\rot m t k=p:=by
 by_cases c:t<=p
 .exact⟨p - t,(),by unfold rot;rw[show p - t+t=p by lia,Nat.mod_eq_of_lt hp]⟩
 .exact⟨p+m - t,(),by unfold rot;rw[show p+m - t+t=p+m by lia,Nat.add_mod_right,Nat.mod_eq_of_lt hp]⟩
theorem Hng.ins (h:Hng m t J E)(he:Qf m t e)(e0:e.1=none)(i:Nat):Hng m t J (E.take i++e :: E.drop i):=by
 have et:tgs (E.take i++e :: E.drop i)=tgs E:=by
  unfold tgs;rw[filterMap_append,filterMap_cons_none e0,<- filterMap_append,take_append_drop]
 refine⟨h.m1,h.tm,λx hx=>?_,by rw[et];exact h.nd,λk a b=>by rw[et];exact h.al k a b,λp hp=>h.lt p (by rw[et] at hp;exact hp),by rw[et];exact h.ln⟩;rcases Lc hx with z | z
 .rw[z];exact he
 .exact h.en x z
theorem Hng.tree (h:Hng m t J E)(he:Qf m t e)(e0:e.1=some (J,j))(i:Nat):Hng m t (J+1) (E.take i++e :: E.drop i):=by
 have et:(tgs (E.take i++e :: E.drop i)).Perm ((J,j) :: tgs E):=by
  unfold tgs;rw[filterMap_append,filterMap_cons_some e0];refine perm_middle.trans ?_;rw[<- filterMap_append,take_append_drop]
 refine⟨h.m1,h.tm,λx hx=>?_,?_,λk a b=>?_,λp hp=>?_,?_⟩
 .rcases Lc hx with z | z
  .rw[z];exact he
  .exact h.en x z
 .rw[(et.map (·.1)).nodup_iff,map_cons,nodup_cons];refine⟨λz=>?_,h.nd⟩;obtain⟨p,hp,ep⟩:=mem_map.mp z;have:=h.lt p hp;lia
 .by_cases c:k=J
  .exact⟨j,et.mem_iff.mpr (by rw[c];simp)⟩
  .obtain⟨j',hj'⟩:=h.al k a ();exact⟨j',et.mem_iff.mpr (mem_cons_of_mem _ hj')⟩
 .rcases mem_cons.mp (et.mem_iff.mp hp) with z | z
  .rw[z];show J < J+1;lia
  .have:=h.lt p z;lia
 .rw[et.length_eq,length_cons,h.ln]
inductive tP (T:List (Nat × Nat)) (k:Nat):Nat->Prop where
 |self:tP T k k
 |up {p q:Nat} (h:(p,q)∈T) (u:tP T k q):tP T k p
theorem tP.ge (d:∀p q,(p,q)∈T->q < p)(h:tP T k p):k<=p:=by
 induction h with
 |self=>exact Nat.le_refl _
 |up h _ ih=>have:=d _ _ h;lia
theorem We {T:List (Nat × Nat)}(nd:(T.map (·.1)).Nodup)(h:(p,q)∈T)(h':(p,q')∈T):q=q':=by
 induction T with
 |nil=>cases h
 |cons x T ih=>
  rw[map_cons,nodup_cons] at nd;rcases mem_cons.mp h with z | z<;>rcases mem_cons.mp h' with z' | z'
  .rw[<- z] at z';exact(Prod.ext_iff.mp z').2.symm
  .exact absurd (mem_map.mpr ⟨_,z',by rw[<- z]⟩) nd.1
  .exact absurd (mem_map.mpr ⟨_,z,by rw[<- z']⟩) nd.1
  .exact ih nd.2 z z'
theorem tP.iff (nd:(T.map (·.1)).Nodup)(h:(p,q)∈T)(ne:p≠k):tP T k p↔tP T k q:=by
 refine⟨λu=>?_,λu=>.up h u⟩
 cases u with
 |self=>exact absurd rfl ne
 |up h' u=>rw[We nd h h'];exact u
theorem Ow:∀{E:List Hn},((tgs E).map (·.1)).Nodup->∀{i i':Nat} {e e':Hn} {k j j':Nat},E[i]?=some e->E[i']?=some e'->e.1=some (k,j)->e'.1=some (k,j')->i=i'
 | [],_,i,_,_,_,_,_,_,h,_,_,_=>by simp at h
 |x :: E,nd,i,i',e,e',k,j,j',h,h',t,t'=>by
  have mem:∀{a:Nat} {y:Hn} {b:Nat},E[a]?=some y->y.1=some (k,b)->k∈(tgs E).map (·.1):=λhy ty=>mem_map.mpr ⟨_,mem_filterMap.mpr ⟨_,mem_of_getElem? hy,ty⟩,rfl⟩;have nd':((tgs E).map (·.1)).Nodup:=by
   unfold tgs at nd;rw[filterMap_cons] at nd;split at nd
   .exact nd
   .rw[map_cons] at nd;exact(nodup_cons.mp nd).2
  have no:∀{b:Nat},x.1=some (k,b)->k∉(tgs E).map (·.1):=λtx=>by
   unfold tgs at nd;rw[filterMap_cons_some tx,map_cons] at nd;exact(nodup_cons.mp nd).1
  match i,i',h,h' with
  |0,0,_,_=>rfl
  |0,a+1,h,h'=>
   have:x=e:=by simpa using h
   subst this;exact absurd (mem (by simpa using h') t') (no t)
  |a+1,0,h,h'=>
   have:x=e':=by simpa using h'
   subst this;exact absurd (mem (by simpa using h) t) (no t')
  |a+1,a' + 1,h,h'=>
   have:=Ow nd' (i:=a) (i':=a') (by simpa using h) (by simpa using h') t t';lia
abbrev rwH (E:List Hn):List RD:=E.map (·.2)
theorem Hng.pt (h:Hng m t J E):∀d∈rwH E,dD (m:Int) d.2.1 d.2.2.1:=λd hd=>by
 obtain⟨e,he,rfl⟩:=mem_map.mp hd;exact(h.en e he).pt
theorem Hng.cn0 (h:Hng m t m E):∀n k,k<=n->k < m->Cn (rwH E) (rot m t 0) (rot m t k)
 |n,0,_,_=>.refl _
 |0,k+1,hk,_=>by lia
 |n+1,k+1,hk,hm=>by
  obtain⟨j,hj⟩:=h.al (k+1) () hm;obtain⟨e,he,te⟩:=mem_filterMap.mp hj;obtain⟨hp,_,_,jk,ends⟩:=(h.en e he).tg _ _ te;have ih:=Hng.cn0 h n j () ();have r:Cn (rwH E) e.2.2.1.toNat e.2.2.2.1.toNat:=.row (mem_map.mpr ⟨e,he,rfl⟩) hp;rcases ends with ⟨a,b⟩ | ⟨a,b⟩
  .rw[a,b,Int.toNat_natCast,Int.toNat_natCast] at r;exact ih.trans r.symm
  .rw[a,b,Int.toNat_natCast,Int.toNat_natCast] at r;exact ih.trans r
theorem Hng.cn (h:Hng m t m E)(p:Nat)(hp:p < m):Cn (rwH E) 0 p:=by
 obtain⟨k,hk,rfl⟩:=Aa h.tm hp;obtain⟨k0,hk0,e0⟩:=Aa h.tm (show 0 < m by have:=h.m1;lia);have a:=h.cn0 k k (Nat.le_refl _) hk;have b:=h.cn0 k0 k0 (Nat.le_refl _) hk0;rw[e0] at b;exact b.symm.trans a
theorem Hng.frs (h:Hng m t J E):Frs (rwH E):=by
 intro A B d e hd cn;have at_:(rwH E)[A.length]?=some d:=by rw[e,getElem?_append_right (Nat.le_refl _),Nat.sub_self];rfl
 have atx:∀i x,i < A.length->A[i]?=some x->∃y:Hn,E[i]?=some y/\y.2=x:=λi x hi hx=>by
  have:(rwH E)[i]?=some x:=by rw[e,getElem?_append_left hi];exact hx
  rw[getElem?_map] at this;obtain⟨y,hy,ey⟩:=Option.map_eq_some_iff.mp this;exact⟨y,hy,ey⟩
 rw[getElem?_map] at at_;obtain⟨y,hy,rfl⟩:=Option.map_eq_some_iff.mp at_;have oy:=h.en y (mem_of_getElem? hy);obtain⟨⟨k,j⟩,tk⟩:∃p,y.1=some p:=Option.ne_none_iff_exists'.mp (oy.ho hd);obtain⟨_,k1,km,jk,ends⟩:=oy.tg k j tk;have dec:∀p q,(p,q)∈tgs E->q < p:=λp q hpq=>by
  obtain⟨z,hz,tz⟩:=mem_filterMap.mp hpq;exact((h.en z hz).tg _ _ tz).2.2.2.1
 have r:=Cn.ind (ds:=jH .ho A) (R:=λp q=>p=q\/(p < m/\q < m/\∀a b,a < m->b < m->rot m t a=p->rot m t b=q->(tP (tgs E) k a↔tP (tgs E) k b))) (λp=>.inl rfl) (λp q f=>by
  rcases f with f | ⟨x,y,f⟩
  .exact .inl f.symm
  .exact .inr ⟨y,x,λa b ha hb e1 e2=>(f b a hb ha e2 e1).symm⟩) (λp q x f g=>by
  rcases f with f | ⟨f1,f2,f⟩
  .rw[f];exact g
  .rcases g with g | ⟨g1,g2,g⟩
   .rw[<- g];exact .inr ⟨f1,f2,f⟩
   .refine .inr ⟨f1,g2,λa b ha hb e1 e2=>?_⟩;obtain⟨c,hc,ec⟩:=Aa h.tm f2;exact(f a c ha hc e1 ec).trans (g c b hc hb ec e2)) (λx hx hk=>by
  obtain⟨xA,xk⟩:=mem_filter.mp hx;obtain⟨i,hi⟩:=getElem?_of_mem xA;have il:=(List.getElem?_eq_some_iff.mp hi).1;obtain⟨z,hz,rfl⟩:=atx i x il hi;have oz:=h.en z (mem_of_getElem? hz);obtain⟨⟨k',j'⟩,tk'⟩:∃p,z.1=some p:=Option.ne_none_iff_exists'.mp (oz.ho (of_decide_eq_true xk));obtain⟨_,a1,am,jk',ends'⟩:=oz.tg k' j' tk';have ne:k'≠k:=λc=>by
   rw[c] at tk';have:=Ow h.nd hz hy tk' tk;lia
  have mem:(k',j')∈tgs E:=mem_filterMap.mpr ⟨z,mem_of_getElem? hz,tk'⟩;have iff:=tP.iff h.nd mem ne;obtain⟨q0,q1,q2,q3⟩:=oz.pt;refine .inr ⟨(),(),λa b ha hb e1 e2=>?_⟩;rcases ends' with ⟨x,y⟩ | ⟨x,y⟩
  .rw[x,Int.toNat_natCast] at e1;rw[y,Int.toNat_natCast] at e2;rw[oJ h.tm ha am e1,oJ h.tm hb () e2];exact iff
  .rw[x,Int.toNat_natCast] at e1;rw[y,Int.toNat_natCast] at e2;rw[oJ h.tm ha () e1,oJ h.tm hb am e2];exact iff.symm) cn
 have no:¬tP (tgs E) k j:=λc=>by
  have:=c.ge dec;lia
 rcases ends with ⟨a,b⟩ | ⟨a,b⟩
 .rw[a,b,Int.toNat_natCast,Int.toNat_natCast] at r;rcases r with r | ⟨_,_,r⟩
  .have:=oJ h.tm km () r;lia
  .exact no ((r k j km () rfl rfl).mp .self)
 .rw[a,b,Int.toNat_natCast,Int.toNat_natCast] at r;rcases r with r | ⟨_,_,r⟩
  .have:=oJ h.tm () km r;lia
  .exact no ((r j k () km rfl rfl).mpr .self)
end
section
variable {m u:Nat} {hs:List Q2} {par:Nat->Nat} {E:List Ent}
theorem Rq:∀{ds:List RD} (k:Nat),(∀d∈ds,∀k,Mq.Fr L M (cM d k x y))->Mq.Fr L (ds.length*M) (eqM k ds x y)
 | [],_,_=>Mq.Fr.zero.mono (Nat.zero_le _)
 |d :: ds,k,q=>by
  rw[length_cons,Nat.succ_mul,Nat.add_comm];exact(q d ⋯ k).add (Rq _ λx hx=>q x (mem_cons_of_mem _ hx))
theorem Pa:∀{ds:List RD} (k:Nat),(∀d∈ds,∀k,Mq.Fr L M (cR d k x))->Mq.Fr L (ds.length*M) (eqR k ds x)
 | [],_,_=>Mq.Fr.zero.mono (Nat.zero_le _)
 |d :: ds,k,q=>by
  rw[length_cons,Nat.succ_mul,Nat.add_comm];exact(q d ⋯ k).add (Pa _ λx hx=>q x (mem_cons_of_mem _ hx))
theorem Ga [Decidable c](g:Mq.Fr L M y):Mq.Fr L M (if c then y else 0):=by
 split
 .exact g
 .exact Mq.Fr.zero.mono (Nat.zero_le _)
end
section
variable {m t J:Nat} {E:List Hn}
theorem Hng.hold_le (h:Hng m t J E):bO (rwH E)+1<=J:=by
 have:∀{E:List Hn},(∀e∈E,e.2.1=.ho->e.1≠none)->bO (rwH E)<=(tgs E).length:=λ{E}=>by
  induction E with
  |nil=>intro _;exact Nat.le_refl _
  |cons e E ih=>
   intro h;have ih:=ih λx hx=>h x (mem_cons_of_mem _ hx);show bO (e.2 :: rwH E)<=_;rw[fE];unfold tgs at ih ⊢;rw[filterMap_cons]
   by_cases c:e.2.1=.ho
   .obtain⟨k,tk⟩:∃k,e.1=some k:=Option.ne_none_iff_exists'.mp (h e ⋯ c);rw[tk];have:bY e.2.1=1:=if_pos c;simp only[length_cons];lia
   .have:bY e.2.1=0:=if_neg c;split<;>(try simp only[length_cons])<;>lia
 have a:=this λe he hk=>(h.en e he).ho hk;have:=h.ln;lia
theorem Hng.nof (h:Hng m t m E):Nof m (rwH E):=by
 refine⟨h.m1,h.pt,λd hd hk=>?_,h.cn,h.frs⟩;obtain⟨e,he,rfl⟩:=mem_map.mp hd;have p0:=((h.en e he).pc hk).1;have:=(h.en e he).sl.pos;unfold Mq.val;rw[Rat.div_def];exact Rat.mul_pos (by exact_mod_cast p0) (Rat.inv_pos.mpr (by exact_mod_cast (show 0 < e.2.2.2.2.2 by lia)))
def LH (E:List Hn):Int:=Mq.prB (E.map λe=>if e.2.1=.pc then e.2.2.2.2.1 else 1)
theorem Hng.L (h:Hng m t J E):1<=LH E/\Mq.B (4*E.length+1) (LH E)/\∀d∈rwH E,d.1=.pc->0 < d.2.2.2.1/\d.2.2.2.1 ∣ LH E/\1<=d.2.2.2.2/\d.2.2.2.2.natAbs<=16:=by
 have al:∀a∈(E.map λe=>if e.2.1=.pc then e.2.2.2.2.1 else 1),1<=a/\Mq.B 4 a:=λa ha=>by
  obtain⟨e,he,rfl⟩:=mem_map.mp ha;split
  .rename_i c
   obtain⟨p0,b⟩:=(h.en e he).pc c;exact⟨p0,b.a⟩
  .exact⟨∅,show (1:Nat) < 2 ^ 4 by decide⟩
 refine⟨Mq.Jo λa ha=>(al a ha).1,?_,λd hd hk=>?_⟩
 .have:=Mq.Yt (u:=4) λa ha=>(al a ha).2;rw[length_map] at this;exact this
 .obtain⟨e,he,rfl⟩:=mem_map.mp hd;obtain⟨p0,b⟩:=(h.en e he).pc hk;refine⟨p0,Mq.Kj (mem_map.mpr ⟨e,he,if_pos hk⟩),(h.en e he).sl.pos,Nat.le_of_lt b.b⟩
end
abbrev sk3 (d:RD):Kd × Int × Int:=(d.1,d.2.1,d.2.2.1)
theorem Cn.sk (h:ds.map sk3=es.map sk3)(c:Cn ds p q):Cn es p q:=by
 refine Cn.ind (R:=λp q=>Cn es p q) (λp=>.refl p) (λ_ _=>.symm) (λ_ _ _=>.trans) (λx hx hk=>?_) c;have:sk3 x∈es.map sk3:=by rw[<- h];exact mem_map.mpr ⟨x,hx,rfl⟩
 obtain⟨y,hy,e⟩:=mem_map.mp this;have e1:y.1=x.1:=congrArg (·.1) e;have e2:y.2.1=x.2.1:=congrArg (·.2.1) e;have e3:y.2.2.1=x.2.2.1:=congrArg (·.2.2) e;have:=Cn.row hy (by rw[e1];exact hk);rw[e2,e3] at this;exact this
theorem Rn (k:Kd)(h:ds.map sk3=es.map sk3):(jH k ds).map sk3=(jH k es).map sk3:=by
 have:∀l:List RD,(jH k l).map sk3=(l.map sk3).filter λx=>decide (x.1=k):=λl=>by
  unfold jH;rw[filter_map];rfl
 rw[this,this,h]
theorem Ry (h:ds.map sk3=es.map sk3):bO ds=bO es:=by
 have:=congrArg List.length (Rn .ho h);rw[length_map,length_map] at this;exact this
theorem Frs.sk (h:ds.map sk3=es.map sk3)(f:Frs ds):Frs es:=by
 intro A B d e hd cn;have hl:ds.length=es.length:=by have:=congrArg List.length h;rwa [length_map,length_map] at this
 have hn:A.length < ds.length:=by rw[hl,e,List.length_append,length_cons];lia
 have eA:(ds.take A.length).map sk3=A.map sk3:=by rw[map_take,h,<- map_take,e,take_left]
 have ed:sk3 ds[A.length]=sk3 d:=by
  have a1:(ds.map sk3)[A.length]?=some (sk3 ds[A.length]):=by rw[getElem?_map,getElem?_eq_getElem hn];rfl
  have a2:(es.map sk3)[A.length]?=some (sk3 d):=by rw[getElem?_map,e,getElem?_append_right (Nat.le_refl _),Nat.sub_self];rfl
  rw[h,a2] at a1;exact(Option.some.inj a1).symm
 have e1:(ds[A.length]).1=d.1:=congrArg (·.1) ed;have e2:(ds[A.length]).2.1=d.2.1:=congrArg (·.2.1) ed;have e3:(ds[A.length]).2.2.1=d.2.2.1:=congrArg (·.2.2) ed;refine f (ds.take A.length) (ds.drop (A.length+1)) ds[A.length] (by rw[getElem_cons_drop,take_append_drop]) (by rw[e1];exact hd) ?_;rw[e2,e3];exact Cn.sk (Rn .ho eA.symm) cn
theorem Nof.sk (h:ds.map sk3=es.map sk3)(o:Nof m ds)(pos:∀d∈es,d.1=.pc->0 < Mq.val d.2.2.2):Nof m es:=by
 refine⟨o.m1,λd hd=>?_,pos,λp hp=>Cn.sk h (o.cn p hp),Frs.sk h o.fr⟩;have:sk3 d∈ds.map sk3:=by rw[h];exact mem_map.mpr ⟨d,hd,rfl⟩
 obtain⟨y,hy,e⟩:=mem_map.mp this;have e2:y.2.1=d.2.1:=congrArg (·.2.1) e;have e3:y.2.2.1=d.2.2.1:=congrArg (·.2.2) e;have:=o.pt y hy
 rwa [e2,e3] at this
theorem qj4 {ds:List RD}(h:ds[i]?=some d)(e:sk3 d'=sk3 d):ds.map sk3=(ds.set i d').map sk3:=by
 refine ext_getElem? λj=>?_;rw[getElem?_map,getElem?_map,getElem?_set]
 by_cases c:i=j
 .subst c;rw[if_pos rfl,h,if_pos (List.getElem?_eq_some_iff.mp h).1];show some (sk3 d)=some (sk3 d');rw[e]
 .rw[if_neg c]
def shR (m:Nat)(ds:List RD)(k:Nat)(d:RD)(x:Nat):Rat:=if d.1=.ho then un (m+bO (ds.take k)) x else un d.2.1.toNat x - un d.2.2.1.toNat x
theorem qc0 {ds:List RD}(h:ds[i]?=some d):bO (ds.take (i+1))=bO (ds.take i)+bY d.1:=by
 rw[take_add_one,h];exact fZ _ _
theorem Yb (ds:List RD)(i:Nat):bO (ds.take i)<=bO ds:=by
 have:ds=ds.take i++ds.drop i:=(take_append_drop i ds).symm;unfold bO jH
 conv=>rhs;rw[this]
 rw[filter_append,List.length_append];lia
theorem qf5 (h:ds[k]?=some d)(hd:d.1=.ho):bO (ds.take k) < bO ds:=by
 have a:=qc0 h;have b:=Yb ds (k+1);have:bY d.1=1:=by rw[hd];rfl
 lia
structure StB (K:Frag) (H:Hp) (b:Addr) (ys:List V) (ss:List Q2) (n:Nat):Prop where
 s:SqL K H b ys
 f:Fqs K H ys ss
 l:ss.length=n
 b:∀s∈ss,Low s/\Bd 3900 s
theorem StB.same {K:Frag}{b:Addr}(e:aV H H')(h:StB K H b ys ss n):StB K H' b ys ss n:=⟨e.seq h.s,h.f.same e,h.l,h.b⟩
inductive uE (K:Frag) (CK:Kd->Addr) (vs:List V) (H:Hp) (Q:VK) (E:XK):Prop where
 |mk (x a:Addr) (d:RD) (z:V) (xs:List V) (hp:List Q2) (n:Nat):vs=[.ref x,.ref a]->Rw CK H x d.1 (.int d.2.1) (.int d.2.2.1) z->StB K H a xs hp n->dD (n:Int) d.2.1 d.2.2.1->pI H Q (flF hp d)->uE K CK vs H Q E
theorem Gh (h:Ovr n ps)(low:eI ps)(hn:n<=3900):∀p∈ps,Low p/\Bd 3900 p:=λp hp=>⟨low p hp,(Ovr.minus h low hp hp).2.1.mono hn⟩
theorem qn1:Bd (n+1) (0,1):=⟨Nat.two_pow_pos _,Nat.one_lt_two_pow ()⟩
abbrev En:=Nat × Q2 × List Stp
structure Dz (m:Nat) (L:Int) (ds:List RD):Prop where
 o:Nof m ds
 m5:m<=5
 w8:wd m ds<=8
 L1:1<=L
 LB:Mq.B 116 L
 dv:∀d∈ds,d.1=.pc->0 < d.2.2.2.1/\d.2.2.2.1 ∣ L/\1<=d.2.2.2.2/\d.2.2.2.2.natAbs<=128
 ok:∀d∈ds,Ag (m:Int) d/\Bd 41 d.2.2.2
 len:ds.length<=40
section
variable {CN:Addr} {K:Frag} {H:Hp} {n l:Addr} {m:Nat} {L:Int} {ds:List RD}
theorem Li (a:Nat):∀n,kL (λ_=>a) n=(4*a+20)*n
 |0=>rfl
 |n+1=>by show kL _ n+(4*a+20)=_;rw[Li a n,Nat.mul_succ]
theorem Hng.dz (h:Hng m t m E)(m4:m<=4)(le:E.length<=m - 1+7):Dz m (LH E) (rwH E)/\Mq.B 50 (LH E)/\wd m (rwH E)<=7/\(rwH E).length < 40/\∀d∈rwH E,Bd 7 d.2.2.2/\(d.1=.pc->Bd 4 d.2.2.2):=by
 have m1:=h.m1;obtain⟨L1,LB,dv⟩:=h.L;have hl:=h.hold_le;have lE:(rwH E).length=E.length:=length_map ..;have w:wd m (rwH E)<=7:=by unfold wd;lia
 refine⟨⟨h.nof,(),(),L1,LB.mono (),λd hd hk=>?_,λd hd=>?_,()⟩,LB.mono (),w,(),λd hd=>?_⟩
 .obtain⟨a,b,c,e⟩:=dv d hd hk;exact⟨a,b,c,()⟩
 .obtain⟨e,he,rfl⟩:=mem_map.mp hd;have oe:=h.en e he;obtain⟨p1,p2,p3,p4⟩:=oe.pt;exact⟨⟨p1,p2,p3,p4,oe.sl,λhk=>(oe.pc hk).1,oe.bd.mono ()⟩,oe.bd.mono ()⟩
 .obtain⟨e,he,rfl⟩:=mem_map.mp hd;exact⟨(h.en e he).bd,λhk=>((h.en e he).pc hk).2⟩
end
structure SzW (L:Int) (k:Kd) (p:Q2):Prop where
 lo:Low p
 bd:Bd 31 p
 pc:k=.pc->0 < p.1/\p.1 ∣ L/\p.2.natAbs<=128
 ot:k≠.pc->p.2 ∣ L
structure Dw (m:Nat) (L:Int) (ds:List RD):Prop where
 o:Nof m ds
 m5:m<=5
 w8:wd m ds<=8
 L1:1<=L
 LB:Mq.B 150 L
 ok:∀d∈ds,Ag (m:Int) d/\SzW L d.1 d.2.2.2
 len:ds.length<=40
section
variable {CN:Addr} {K:Frag} {H:Hp} {n l:Addr} {m:Nat} {L:Int} {ds:List RD}
theorem Dw.eqb (h:Dw m L ds):EqB m 190 L ds:=by
 have w8:=h.w8;have L1:=h.L1;refine⟨h.o,(),(),(),?_,L1,h.LB.mono (),λi j=>?_⟩
 .show (190+5)*(wd m ds+1)+8<=4000;lia
 have one:=Mq.Fr.one L1;have c:∀d∈ds,∀k,Mq.Fr L 130 (cM d k (i+1) (j+1)):=λd hd k=>by
  unfold cM
  cases hk:d.1 with
  |pu=>exact Mq.Fr.zero.mono (Nat.zero_le _)
  |ho=>
   dsimp only;refine(Mq.Fr.add (Dc (Ga one) _ _ _) (N:=1) ?_).mono ∅;rw[Rat.mul_comm];exact Dc (Ga one) _ _ _
  |pc=>
   obtain⟨p0,dvd,le⟩:=(h.ok d hd).2.pc hk;have p1:=(h.ok d hd).2.lo.pos;dsimp only;rw[Rat.mul_assoc];have:1 / Mq.val d.2.2.2=((d.2.2.2.2:Int):Rat) / ((d.2.2.2.1:Int):Rat):=by
    have:=Mq.wK p1;have:=Mq.wK (show 1<=d.2.2.2.1 by lia);unfold Mq.val;grind
   rw[this];exact(Dc (Dc (Mq.Fr.of L1 () dvd le) _ _ _) _ _ _).mono ∅
 refine Mq.Fr.get (m:=13) (n:=150) (Rq m c) ?_ h.LB ()
 calc ds.length*130<=40*130:=Nat.mul_le_mul_right _ h.len
  _ < 2 ^ 13:=by decide
theorem Dw.eR (h:Dw m L ds)(i:Nat):∃a:Int,Mq.B 190 a/\eqR m ds (i+1)=(a:Rat) / (L:Rat):=by
 have L1:=h.L1;have c:∀d∈ds,∀k,Mq.Fr L (2 ^ 31) (cR d k (i+1)):=λd hd k=>by
  have sz:=(h.ok d hd).2;unfold cR
  cases hk:d.1 with
  |pc=>exact Mq.Fr.zero.mono (Nat.zero_le _)
  |pu=>
   dsimp only;rw[Rat.neg_mul];exact(Dc (Mq.wW L1 sz.lo (sz.ot (by rw[hk];decide)) sz.bd) _ _ _).neg
  |ho=>
   dsimp only;exact Ga (Mq.wW L1 sz.lo (sz.ot (by rw[hk];decide)) sz.bd)
 refine Mq.Fr.get (m:=37) (n:=150) (Pa m c) ?_ h.LB ()
 calc ds.length*2 ^ 31<=40*2 ^ 31:=Nat.mul_le_mul_right _ h.len
  _ < 2 ^ 37:=by decide
theorem Dw.net (h:Dw m L ds)(nt:dG CN K H n l (m:Int) ds):Eg CN K H n l m 190 (λ_=>31) L ds:=by
 have m5:=h.m5;have len:=h.len;refine⟨nt,λi d hd=>let ⟨a,b⟩:=h.ok d (mem_of_getElem? hd);⟨a,b.bd⟩,(),h.len,?_,h.eqb⟩;rw[Li];lia
theorem Dw.bwle (h:Dw m L ds):bw 190 (wd m ds)<=1763:=by
 have w8:=h.w8;show (190+5)*(wd m ds+1)+8<=1763;lia
def szS (ds:List RD)(i:Nat)(p:Q2):List RD:=match ds[i]? with
 |some d=>ds.set i (d.1,d.2.1,d.2.2.1,p)
 |none=>ds
theorem rW (hd:ds[i]?=some d):szS ds i p=ds.set i (d.1,d.2.1,d.2.2.1,p):=by unfold szS;rw[hd]
theorem Ae (ds:List RD)(i:Nat)(p:Q2):ds.map sk3=(szS ds i p).map sk3:=by
 cases hd:ds[i]? with
 |none=>unfold szS;rw[hd]
 |some d=>rw[rW hd];exact qj4 hd rfl
theorem Vq (ds:List RD)(i:Nat)(p:Q2):(szS ds i p).length=ds.length:=by
 have:=congrArg List.length (Ae ds i p);rw[length_map,length_map] at this;exact this.symm
theorem Dw.set (h:Dw m L ds)(hd:ds[i]?=some d)(sz:SzW L d.1 p):Dw m L (szS ds i p):=by
 have ok:∀e∈szS ds i p,Ag (m:Int) e/\SzW L e.1 e.2.2.2:=λe he=>by
  rw[rW hd] at he;rcases mem_or_eq_of_mem_set he with z | z
  .exact h.ok e z
  .rw[z];obtain⟨⟨r1,r2,r3,r4,_⟩,_⟩:=h.ok d (mem_of_getElem? hd);exact⟨⟨r1,r2,r3,r4,sz.lo,λhk=>(sz.pc hk).1,sz.bd.mono ()⟩,sz⟩
 refine⟨Nof.sk (Ae ds i p) h.o λe he hk=>?_,h.m5,?_,h.L1,h.LB,ok,by rw[Vq];exact h.len⟩
 .have z:=(ok e he).2;have p2:=z.lo.pos;have p1:=(z.pc hk).1;unfold Mq.val;rw[Rat.div_def];exact Rat.mul_pos (by exact_mod_cast p1) (Rat.inv_pos.mpr (by exact_mod_cast (show 0 < e.2.2.2.2 by lia)))
 .have:=h.w8;unfold wd at this ⊢;rw[<- Ry (Ae ds i p)];exact this
theorem SzW.mul (h:SzW L k p)(d:L ∣ M):SzW M k p:=⟨h.lo,h.bd,λhk=>let ⟨a,b,c⟩:=h.pc hk;⟨a,Int.dvd_trans b d,c⟩,λhk=>Int.dvd_trans (h.ot hk) d⟩
theorem Dw.mul (h:Dw m L ds)(M1:1<=M)(MB:Mq.B 150 M)(d:L ∣ M):Dw m M ds:=⟨h.o,h.m5,h.w8,M1,MB,λe he=>⟨(h.ok e he).1,(h.ok e he).2.mul d⟩,h.len⟩
structure rV (m:Nat) (ds:List RD) (lv fl:List Q2):Prop where
 e:∃ps:List Q2,lv=lvS m ps/\fl=pU (lvS m ps) (ps.drop (m - 1)) 0 ds/\ps.length=wd m ds/\eI ps/\Ovr (bw 190 (wd m ds)) ps/\Sv m ds (eqR m ds) (uP ps)
theorem rV.uni (o:Nof m ds)(h:rV m ds lv fl)(g:rV m ds lv' fl'):lv=lv'/\fl=fl':=by
 obtain⟨ps,e1,e2,l1,lo,_,sv⟩:=h.e;obtain⟨qs,f1,f2,l2,lo2,_,sv2⟩:=g.e;have e:ps=qs:=by
  refine ext_getElem () λi hi hi'=>?_;have:=Sv.uni o sv sv2 (i+1) ();unfold uP at this;rw[if_neg (),if_neg (),Nat.add_sub_cancel,getD_eq_getElem?_getD,getD_eq_getElem?_getD,getElem?_eq_getElem hi,getElem?_eq_getElem hi'] at this;exact Bv (lo _ (getElem_mem hi)) (lo2 _ (getElem_mem hi')) this
 subst e;exact⟨e1.trans f1.symm,e2.trans f2.symm⟩
end
structure qu2 (CA:Addr) (K:Frag) (H0 H:Hp) (a:Addr) (lv fl:List Q2):Prop where
 e:∃(dx li le fo:Addr) (xs ys:List V),H a=some (.ins CA dx (iA li le fo))/\H le=some (.lst xs)/\Fqs K H xs lv/\H fo=some (.lst ys)/\Fqs K H ys fl/\∀l o,H0 l=some o->l≠a->le≠l/\fo≠l
theorem gcf:¬(("current":Str) = "followed"):=by decide +kernel
def fU (a n:Addr):List (Str × V):=[(("current":Str),.ref a),(("followed":Str),.ref n)]
theorem vA (a n:Addr):(fU a n).lookup ("current":Str)=some (.ref a):=by
 show List.lookup _ ((("current":Str),V.ref a) :: _)=_;rw[lookup_cons_self]
theorem Bf (a n:Addr):(fU a n).lookup ("followed":Str)=some (.ref n):=by
 show List.lookup ("followed":Str) ((("current":Str),V.ref a) :: [(("followed":Str),V.ref n)])=_;rw[lookup_cons,show (("followed":Str) == "current")=false from beq_eq_false_iff_ne.mpr (λz=>gcf z.symm)];show List.lookup _ ((("followed":Str),V.ref n) :: _)=_;rw[lookup_cons_self]
theorem fH (a n:Addr){x:Str}(h1:¬x = "current")(h2:¬x = "followed"):(fU a n).lookup x=none:=by
 show List.lookup x ((("current":Str),V.ref a) :: [(("followed":Str),V.ref n)])=_;rw[lookup_cons,show (x == "current")=false from beq_eq_false_iff_ne.mpr h1];show List.lookup x ((("followed":Str),V.ref n) :: [])=_;rw[lookup_cons,show (x == "followed")=false from beq_eq_false_iff_ne.mpr h2];rfl
theorem Zl (a:Addr):cP "current" (.ref a) []=[(("current":Str),V.ref a)]:=rfl
theorem Zo (a n:Addr):cP "followed" (.ref n) [(("current":Str),V.ref a)]=fU a n:=by
 show (if (("current":Str)) = "followed" then _ else _)=_;rw[if_neg gcf];rfl
theorem qg2 (a b n:Addr):cP "current" (.ref b) (fU a n)=fU b n:=by
 show (if (("current":Str)) = "current" then _ else _)=_;rw[if_pos rfl];rfl
theorem qc6 (a n k:Addr):cP "followed" (.ref k) (fU a n)=fU a k:=by
 show (if (("current":Str)) = "followed" then _ else (("current":Str),V.ref a) :: (if ("followed":Str) = "followed" then _ else _))=_;rw[if_neg gcf,if_pos rfl];rfl
structure WB (K:Frag) (mg:Str->Option Value) (CW:Addr):Prop where
 cl:Cls K CW
 nC:gJ K CW "current"
 nF:gJ K CW "followed"
 mW:mg "Watch"=some (.ref CW)
structure gR (X:List Addr) (CN CA CW:Addr) (K:Frag) (H:Hp) (w:Addr) (m:Nat) (ds:List RD):Prop where
 e:∃(dx a n l dxa li le fo dn:Addr) (xs ys ts:List V) (lv fl:List Q2),H w=some (.ins CW dx (fU a n))/\H a=some (.ins CA dxa (iA li le fo))/\H le=some (.lst xs)/\Fqs K H xs lv/\H fo=some (.lst ys)/\Fqs K H ys fl/\rV m ds lv fl/\H n=some (.ins CN dn (gP (m:Int) l))/\H l=some (.lst ts)/\Rts K H ts ds/\a≠w/\n≠w/\∀x∈X,a≠x/\le≠x/\fo≠x/\n≠x/\l≠x
section
variable {X:List Addr} {CN CA CW:Addr} {K:Frag} {H H':Hp} {w y:Addr} {m:Nat} {ds:List RD}
theorem gR.same (s:aV H H')(h:gR X CN CA CW K H w m ds):gR X CN CA CW K H' w m ds:=by
 obtain⟨dx,a,n,l,dxa,li,le,fo,dn,xs,ys,ts,lv,fl,h1,h2,h3,h4,h5,h6,h7,h8,h9,h10,h11,h12,h13⟩:=h.e;exact⟨dx,a,n,l,dxa,li,le,fo,dn,xs,ys,ts,lv,fl,s _ _ h1,s _ _ h2,s _ _ h3,h4.same s,s _ _ h5,h6.same s,h7,s _ _ h8,s _ _ h9,h10.same s,h11,h12,h13⟩
theorem gR.x (hy:H y=some (.lst us))(s:bG y H H')(hX:y∈X)(h:gR X CN CA CW K H w m ds):gR X CN CA CW K H' w m ds:=by
 obtain⟨dx,a,n,l,dxa,li,le,fo,dn,xs,ys,ts,lv,fl,h1,h2,h3,h4,h5,h6,h7,h8,h9,h10,h11,h12,h13⟩:=h.e;obtain⟨n1,n2,n3,n4,n5⟩:=h13 y hX;exact⟨dx,a,n,l,dxa,li,le,fo,dn,xs,ys,ts,lv,fl,s _ _ h1 (cZ h1 hy (λz=>by cases z)),s _ _ h2 n1,s _ _ h3 n2,bG.fqsL hy s h4,s _ _ h5 n3,bG.fqsL hy s h6,h7,s _ _ h8 n4,s _ _ h9 n5,bG.rts hy s h10,h11,h12,h13⟩
theorem gR.less (hY:∀y∈Y,y∈X)(h:gR X CN CA CW K H w m ds):gR Y CN CA CW K H w m ds:=by
 obtain⟨dx,a,n,l,dxa,li,le,fo,dn,xs,ys,ts,lv,fl,h1,h2,h3,h4,h5,h6,h7,h8,h9,h10,h11,h12,h13⟩:=h.e;exact⟨dx,a,n,l,dxa,li,le,fo,dn,xs,ys,ts,lv,fl,h1,h2,h3,h4,h5,h6,h7,h8,h9,h10,h11,h12,λx hx=>h13 x (hY x hx)⟩
end
theorem qp6 (k:Kd)(u w:Int)(p q:Q2)(h x y:Nat):cM (k,u,w,q) h x y=cM (k,u,w,p) h x y+if k=.pc then dl u.toNat w.toNat x*dl u.toNat w.toNat y*(1 / Mq.val q - 1 / Mq.val p) else 0:=by
 unfold cM
 cases k<;>simp<;>grind
theorem qm8 (k:Kd)(u w:Int)(p q:Q2)(h x:Nat):cR (k,u,w,q) h x=cR (k,u,w,p) h x+(match k with
 | .pc=>0
 | .pu=>- dl u.toNat w.toNat x*(Mq.val q - Mq.val p)
 | .ho=>if h=x then Mq.val q - Mq.val p else 0):=by
 unfold cR
 cases k<;>dsimp only
 .grind
 .grind
 .split<;>grind
theorem Jq (q:Q2)(x y:Nat):∀(ds:List RD) (h k:Nat) (d:RD),ds[k]?=some d->eqM h (ds.set k (d.1,d.2.1,d.2.2.1,q)) x y=eqM h ds x y+if d.1=.pc then dl d.2.1.toNat d.2.2.1.toNat x*dl d.2.1.toNat d.2.2.1.toNat y*(1 / Mq.val q - 1 / Mq.val d.2.2.2) else 0
 | [],_,_,_,e=>by cases e
 |c :: ds,h,0,d,e=>by
  have e:c=d:=Option.some.inj e;subst e;obtain⟨k,u,w,p⟩:=c;show cM (k,u,w,q) h x y+eqM (h+bY k) ds x y=cM (k,u,w,p) h x y+eqM (h+bY k) ds x y+_;rw[qp6 k u w p q];grind
 |c :: ds,h,k+1,d,e=>by
  show cM c h x y+eqM (h+bY c.1) (ds.set k _) x y=cM c h x y+eqM (h+bY c.1) ds x y+_;rw[Jq q x y ds (h+bY c.1) k d e];grind
theorem Kf (q:Q2)(x:Nat):∀(ds:List RD) (h k:Nat) (d:RD),ds[k]?=some d->eqR h (ds.set k (d.1,d.2.1,d.2.2.1,q)) x=eqR h ds x+(match d.1 with
 | .pc=>0
 | .pu=>- dl d.2.1.toNat d.2.2.1.toNat x*(Mq.val q - Mq.val d.2.2.2)
 | .ho=>if h+bO (ds.take k)=x then Mq.val q - Mq.val d.2.2.2 else 0)
 | [],_,_,_,e=>by cases e
 |c :: ds,h,0,d,e=>by
  have e:c=d:=Option.some.inj e;subst e;obtain⟨k,u,w,p⟩:=c;show cR (k,u,w,q) h x+eqR (h+bY k) ds x=cR (k,u,w,p) h x+eqR (h+bY k) ds x+_;rw[qm8 k u w p q]
  cases k<;>dsimp only
  .grind
  .grind
  .show _=_+_+if h+0=x then _ else _
   rw[Nat.add_zero];grind
 |c :: ds,h,k+1,d,e=>by
  show cR c h x+eqR (h+bY c.1) (ds.set k _) x=cR c h x+eqR (h+bY c.1) ds x+_;rw[Kf q x ds (h+bY c.1) k d e,take_succ_cons,fE];have:h+bY c.1+bO (ds.take k)=h+(bY c.1+bO (ds.take k)):=by lia
  rw[this];grind
theorem xL (a b:Nat):(if a=b then (1:Rat) else 0)=if b=a then 1 else 0:=by
 by_cases c:a=b
 .rw[if_pos c,if_pos c.symm]
 .rw[if_neg c,if_neg (Ne.symm c)]
theorem qd3 (hs:s<=n)(hg:g<=n){u:Nat->Rat}(u0:u 0=0):(Mq.rs n λj=>dl s g (j+1)*u (j+1))=u s - u g:=by
 have one:∀a,a<=n->(Mq.rs n λj=>(if a=j+1 then 1 else 0)*u (j+1))=u a:=λa ha=>by
  by_cases c:a=0
  .subst c;have:∀j,j < n->(if 0=j+1 then (1:Rat) else 0)*u (j+1)=0:=λj _=>by rw[if_neg ()];grind
   rw[aP this,dR,u0]
  .have:∀j,j < n->(if a=j+1 then (1:Rat) else 0)*u (j+1)=if a - 1=j then u a else 0:=λj _=>by
    by_cases e:a=j+1
    .rw[if_pos e,if_pos (),<- e];grind
    .rw[if_neg e,if_neg ()];grind
   rw[aP this,wO,if_pos ()]
 have e:∀j,j < n->dl s g (j+1)*u (j+1)=(if s=j+1 then 1 else 0)*u (j+1) + - ((if g=j+1 then 1 else 0)*u (j+1)):=λj _=>by unfold dl;grind
 rw[aP e,dB,iR,one s hs,one g hg];grind
def qc1 (m:Nat)(d:RD)(q:Q2)(v s:Nat->Rat)(f:Rat):Prop:=match d.1 with
 | .pu=>f=Mq.val d.2.2.2 - Mq.val q
 | .ho=>f=Mq.val q - Mq.val d.2.2.2
 | .pc=>f*(1+(1 / Mq.val q - 1 / Mq.val d.2.2.2)*(s d.2.1.toNat - s d.2.2.1.toNat))=- ((1 / Mq.val q - 1 / Mq.val d.2.2.2)*(v d.2.1.toNat - v d.2.2.1.toNat))
theorem ql4:wd m (szS ds k q)=wd m ds:=by
 show m - 1+bO _=m - 1+bO _;rw[Ry (Ae ds k q)]
theorem Sv.shift (o:Nof m ds)(hd:ds[k]?=some d)(h:Sv m ds (eqR m ds) v)(g:Sv m ds (shR m ds k d) s)(F:qc1 m d q v s f):Sv m (szS ds k q) (eqR m (szS ds k q)) (λx=>v x+f*s x):=by
 have m1:=o.m1;obtain⟨p0,p1,p2,p3⟩:=o.pt d (mem_of_getElem? hd);refine⟨by rw[h.z,g.z];grind,λi hi=>?_⟩;rw[ql4] at hi ⊢;rw[rW hd];have hv:=h.e i hi;have hs:=g.e i hi;have e:∀j,j < wd m ds->eqM m (ds.set k (d.1,d.2.1,d.2.2.1,q)) (i+1) (j+1)*(v (j+1)+f*s (j+1))=(eqM m ds (i+1) (j+1)*v (j+1)+f*(eqM m ds (i+1) (j+1)*s (j+1)))+(if d.1=.pc then dl d.2.1.toNat d.2.2.1.toNat (i+1)*(1 / Mq.val q - 1 / Mq.val d.2.2.2) else 0)*(dl d.2.1.toNat d.2.2.1.toNat (j+1)*(v (j+1)+f*s (j+1))):=λj _=>by
  rw[Jq q _ _ ds m k d hd];split<;>grind
 rw[aP e,dB,dB,dY,dY,hv,hs,Kf q _ ds m k d hd];have hd0:d.2.1.toNat<=wd m ds:=by unfold wd;lia
 have hd1:d.2.2.1.toNat<=wd m ds:=by unfold wd;lia
 rw[qd3 hd0 hd1 (u:=λx=>v x+f*s x) (by show v 0+f*s 0=0;rw[h.z,g.z];grind)];unfold qc1 at F;unfold shR un;obtain⟨kd,a,b,p⟩:=d
 cases kd with
 |pc=>
  dsimp only at F ⊢;rw[if_neg (show ¬Kd.pc=Kd.ho by decide),if_pos rfl];unfold dl;have e1:(if i+1=a.toNat then (1:Rat) else 0)=if a.toNat=i+1 then 1 else 0:=xL _ _
  have e2:(if i+1=b.toNat then (1:Rat) else 0)=if b.toNat=i+1 then 1 else 0:=xL _ _
  rw[e1,e2];generalize (if a.toNat=i+1 then (1:Rat) else 0)=A;generalize (if b.toNat=i+1 then (1:Rat) else 0)=B;generalize 1 / Mq.val q - 1 / Mq.val p=t at F ⊢;grind
 |pu=>
  dsimp only at F ⊢;rw[if_neg (show ¬Kd.pu=Kd.ho by decide),if_neg (show ¬Kd.pu=Kd.pc by decide)];unfold dl;have e1:(if i+1=a.toNat then (1:Rat) else 0)=if a.toNat=i+1 then 1 else 0:=xL _ _
  have e2:(if i+1=b.toNat then (1:Rat) else 0)=if b.toNat=i+1 then 1 else 0:=xL _ _
  rw[e1,e2,F];grind
 |ho=>
  dsimp only at F ⊢;rw[if_pos rfl,if_neg (show ¬Kd.ho=Kd.pc by decide),F]
  by_cases c:m+bO (ds.take k)=i+1
  .rw[if_pos c,if_pos c.symm];grind
  .rw[if_neg c,if_neg (λz=>c z.symm)];grind
structure Lv (m:Nat) (ds:List RD) (P:List (List Q2)):Prop where
 len:P.length=wd m ds
 row:∀r∈P,r.length=wd m ds/\eI r
 inv:∀k x,k < wd m ds->x < wd m ds->(Mq.rs (wd m ds) λj=>Mq.val ((P.getD k []).getD j Mq.z0)*eqM m ds (j+1) (x+1))=if k=x then 1 else 0
theorem Ki {α:Type}{l:List α}(h:i < l.length)(d:α):l[i]?=some (l.getD i d):=by rw[getD_eq_getElem?_getD,getElem?_eq_getElem h];rfl
theorem Lv.uni (o:Nof m ds)(h:Lv m ds P)(g:Lv m ds R):P=R:=by
 have lp:=h.len;have lr:=g.len;refine ext_getElem? λk=>?_
 by_cases hk:k < wd m ds
 .have ep:=Ki (l:=P) (i:=k) () [];have er:=Ki (l:=R) (i:=k) () [];obtain⟨wp,op⟩:=h.row _ (mem_of_getElem? ep);obtain⟨wr,or'⟩:=g.row _ (mem_of_getElem? er);have ip:=λx hx=>h.inv k x hk hx;have ir:=λx hx=>g.inv k x hk hx;rw[ep,er];generalize P.getD k []=p at *
  generalize R.getD k []=r at *
  congr 1;have key:=o.uni (v:=λj=>Mq.val (p.getD j Mq.z0)) (w:=λj=>Mq.val (r.getD j Mq.z0)) (r:=λi=>if k=i then 1 else 0)
   (λi hi=>by rw[<- ip i hi];exact aP λj _=>by rw[mC ds m (i+1) (j+1),Rat.mul_comm])
   (λi hi=>by rw[<- ir i hi];exact aP λj _=>by rw[mC ds m (i+1) (j+1),Rat.mul_comm])
  refine ext_getElem? λj=>?_
  by_cases hj:j < wd m ds
  .have e1:=Ki (l:=p) (i:=j) () Mq.z0;have e2:=Ki (l:=r) (i:=j) () Mq.z0;have:=key j hj;rw[e1,e2,Bv (op _ (mem_of_getElem? e1)) (or' _ (mem_of_getElem? e2)) this]
  .rw[getElem?_eq_none (),getElem?_eq_none ()]
 .rw[getElem?_eq_none (),getElem?_eq_none ()]
structure MxL (X:List (List Q2)) (L:Int) (b:Nat):Prop where
 p:fP X
 c:∀row∈X,(∀p∈row,Bd b p/\p.2 ∣ L/\∃a:Int,Mq.B b a/\Mq.val p=(a:Rat) / (L:Rat))/\row.length=X.length
 n:X.length<=10
 L1:1<=L
 LB:Mq.B b L
 hb:10+b+b*(X.length+1)<=8000
 hw:bw b X.length<=8900
 b1:1<=b
 w:wgt X≠0
theorem Wl (h:MxL X L b)(hr:row∈X):dA row ∣ L/\1<=dA row:=by
 obtain⟨dv,l1⟩:=Mq.sR (h.p row hr) (λp hp=>((h.c row hr).1 p hp).2.1) row.length (Nat.le_refl _);rw[take_length] at dv l1;exact⟨dv,l1⟩
theorem Tq (h:MxL X L b):BdR b (gG X):=λi x=>by
 unfold ent
 by_cases hi:i < X.length
 .have mem:=mem_of_getElem? (tV hi);have l:=(h.c _ mem).2;have pos:=h.p _ mem;have cl:=(h.c _ mem).1;obtain⟨dv,l1⟩:=Wl h mem;rw[mZ hi];unfold fG;generalize X.getD i []=row at *
  by_cases hx:x < X.length
  .rw[getD_eq_getElem?_getD,getElem?_append_left (by rw[kN];lia),<- getD_eq_getElem?_getD];unfold iw;rw[getD_eq_getElem?_getD,getElem?_map]
   cases e:row[x]? with
   |none=>exact Nat.two_pow_pos _
   |some p=>
    have mem:=mem_of_getElem? e;obtain⟨_,_,a,ab,ea⟩:=cl p mem;obtain⟨k,ek⟩:=yB pos p mem;exact ab.le (Mq.Kz (pos p mem) ek l1 dv h.L1 ea)
  .rw[getD_eq_getElem?_getD,getElem?_append_right (by rw[kN];lia),kN,l,getElem?_map]
   cases e:(List.range X.length)[x - X.length]? with
   |none=>exact Nat.two_pow_pos _
   |some c=>
    show Mq.B b (if c=i then dA row else 0);split
    .have:=Int.le_of_dvd (by have:=h.L1;lia) dv;have hL:=h.L1;exact h.LB.le ()
    .exact Nat.two_pow_pos _
 .rw[getD_eq_getElem?_getD (l:=gG X),getElem?_eq_none (by rw[mE];lia)];exact Nat.two_pow_pos _
theorem Uc (h:MxL X L b):Mq.LI X.length (oR X) (gG X):=Lh h.p λrow hr=>(h.c row hr).2
inductive Cv (K:Frag) (vs:List V) (H:Hp) (Q:VK) (E:XK):Prop where
 |mk (g D:Addr) (us:List V) (X:List (List Q2)) (L:Int) (b:Nat):vs=[.ref g]->SqL K H g us->Fmx K D H us X->MxL X L b->(∀l zs H',aV H H'->H l=none->H' l=some (.lst zs)->Imx l H' zs (gG X)->Q (.ref l) H')->Cv K vs H Q E
structure qf6 (X Y:List (List Q2)):Prop where
 len:Y.length=X.length
 rows:∀row∈Y,row.length=X.length/\eI row
 sum:∀k x,k < X.length->x < X.length->(Mq.rs X.length λj=>Mq.val ((Y.getD k []).getD j Mq.z0)*oR X j x)=if x=k then 1 else 0
inductive Al (K:Frag) (vs:List V) (H:Hp) (Q:VK) (E:XK):Prop where
 |mk (g D:Addr) (us:List V) (X:List (List Q2)) (L:Int) (b:Nat):vs=[.ref g]->SqL K H g us->Fmx K D H us X->MxL X L b->(∀l zs Y H',aV H H'->H l=none->H' l=some (.lst zs)->Fmd K H l H' zs Y->qf6 X Y->Q (.ref l) H')->Al K vs H Q E
theorem EqB.mxl (h:EqB m b L ds)(e:tQ m ds N X Y)(w10:wd m ds<=10):MxL X L b:=by
 have lX:X.length=wd m ds:=e.x.h;exact⟨EqB.pos e,h.cell e,(),h.L1,h.LB,by rw[lX];exact h.hb,by rw[lX];exact Nat.le_trans h.hbw ∅,h.b1,h.wgt e⟩
theorem qf6.pap (e:tQ m ds N X Y)(h:qf6 X P):Lv m ds P:=by
 have lX:X.length=wd m ds:=e.x.h;refine⟨by rw[h.len,lX],λr hr=>by rw[<- lX];exact h.rows r hr,λk x hk hx=>?_⟩;have:=h.sum k x () ();rw[lX] at this;rw[show (if k=x then (1:Rat) else 0)=if x=k then 1 else 0 from xL k x,<- this];exact aP λj _=>by rw[<- Fx e]
structure LnX (X:List Addr) (CA:Addr) (K:Frag) (H:Hp) (a:Addr) (m:Nat) (ds:List RD):Prop where
 e:∃(dx li le fo:Addr) (us:List V) (M:List (List Q2)) (N:Nat) (Y:List Q2),H a=some (.ins CA dx (iA li le fo))/\H li=some (.lst us)/\Fmx K li H us M/\tQ m ds N M Y/\∀y∈X,a≠y/\li≠y/\∀u∈us,u≠.ref y
theorem Tg {K:Frag}(hy:H y=some o)(sq:∀{a:Addr} {xs:List V},a≠y->SqL K H a xs->SqL K H' a xs)(fq:∀{xs:List V} {ps:List Q2},Fqs K H xs ps->Fqs K H' xs ps):∀{us:List V} {X:List (List Q2)},Fmx K D H us X->(∀u∈us,u≠.ref y)->Fmx K D H' us X
 |_,_,.nil,_=>.nil
 |_,_,.cons ne h f q,n=>.cons ne (sq (λz=>n _ (mem_cons_self ..) (by rw[z])) h) (fq f) (Tg hy sq fq q λu hu=>n u (mem_cons_of_mem _ hu))
theorem Cc {K:Frag}(hy:H y=some (.ins C dy fs))(s:bG y H H')(q:Fmx K D H us M):Fmx K D H' us M:=by
 induction q with
 |nil=>exact .nil
 |cons ne h f _ ih=>exact .cons ne (bG.seqI hy s h) (bG.fqsI hy s f) ih
theorem Kk {K:Frag}:∀{us:List V} {X:List (List Q2)},Fms K H0 H us X->(∀x∈us,x≠.ref D)->Fmx K D H us X
 | [],[],_,_=>.nil
 | [],_ :: _,h,_=>by have:=h.l;simp at this
 |_ :: _,[],h,_=>by have:=h.l;simp at this
 |u :: us,ps :: X,h,n=>by
  obtain⟨a,xs,rfl,_,ha,f⟩:=h.r 0 u ps rfl rfl;exact .cons (λz=>n (.ref a) ⋯ (by rw[z])) (SqL.of ha) f (Kk ⟨by have:=h.l;simpa using this,λi x qs e1 e2=>h.r (i+1) x qs (by simpa using e1) (by simpa using e2)⟩ λx hx=>n x (mem_cons_of_mem _ hx))
theorem Fms.new {K:Frag}(h:Fms K H0 H us X)(hu:u∈us):∃a,u=.ref a/\H0 a=none:=by
 obtain⟨i,hi⟩:=getElem?_of_mem hu;have hl:=(List.getElem?_eq_some_iff.mp hi).1;have:=h.l;obtain⟨a,xs,e,n,_⟩:=h.r i u _ hi (getElem?_eq_getElem ());exact⟨a,e,n⟩
section
variable {X:List Addr} {CA:Addr} {K:Frag} {H H':Hp} {a y:Addr} {m:Nat} {ds:List RD}
theorem LnX.same (s:aV H H')(h:LnX X CA K H a m ds):LnX X CA K H' a m ds:=by
 obtain⟨dx,li,le,fo,us,M,N,Y,h1,h2,h3,h4,h5⟩:=h.e;exact⟨dx,li,le,fo,us,M,N,Y,s _ _ h1,s _ _ h2,h3.same s,h4,h5⟩
theorem LnX.x (hy:H y=some (.lst vs))(s:bG y H H')(hX:y∈X)(h:LnX X CA K H a m ds):LnX X CA K H' a m ds:=by
 obtain⟨dx,li,le,fo,us,M,N,Y,h1,h2,h3,h4,h5⟩:=h.e;obtain⟨n1,n2,n3⟩:=h5 y hX;exact⟨dx,li,le,fo,us,M,N,Y,s _ _ h1 n1,s _ _ h2 n2,Tg hy (λn q=>bG.seq s n q) (λf=>bG.fqsL hy s f) h3 n3,h4,h5⟩
theorem LnX.xI (hy:H y=some (.ins C dy fs))(s:bG y H H')(ne:a≠y)(h:LnX X CA K H a m ds):LnX X CA K H' a m ds:=by
 obtain⟨dx,li,le,fo,us,M,N,Y,h1,h2,h3,h4,h5⟩:=h.e;have n2:li≠y:=cZ h2 hy (λz=>by cases z);exact⟨dx,li,le,fo,us,M,N,Y,s _ _ h1 ne,s _ _ h2 n2,Cc hy s h3,h4,h5⟩
theorem LnX.less (hZ:∀z∈Z,z∈X)(h:LnX X CA K H a m ds):LnX Z CA K H a m ds:=by
 obtain⟨dx,li,le,fo,us,M,N,Y,h1,h2,h3,h4,h5⟩:=h.e;exact⟨dx,li,le,fo,us,M,N,Y,h1,h2,h3,h4,λz hz=>h5 z (hZ z hz)⟩
end
structure kM (X:List Addr) (CA CW:Addr) (K:Frag) (H:Hp) (w:Addr) (m:Nat) (ds:List RD):Prop where
 e:∃dx a n,H w=some (.ins CW dx (fU a n))/\a≠w/\LnX X CA K H a m ds
theorem kM.same {K:Frag}(s:aV H H')(h:kM X CA CW K H w m ds):kM X CA CW K H' w m ds:=by
 obtain⟨dx,a,n,h1,h2,h3⟩:=h.e;exact⟨dx,a,n,s _ _ h1,h2,h3.same s⟩
theorem kM.x {K:Frag}(hy:H y=some (.lst vs))(s:bG y H H')(hX:y∈X)(h:kM X CA CW K H w m ds):kM X CA CW K H' w m ds:=by
 obtain⟨dx,a,n,h1,h2,h3⟩:=h.e;exact⟨dx,a,n,s _ _ h1 (cZ h1 hy (λz=>by cases z)),h2,h3.x hy s hX⟩
theorem kM.less {K:Frag}(hZ:∀z∈Z,z∈X)(h:kM X CA CW K H w m ds):kM Z CA CW K H w m ds:=by
 obtain⟨dx,a,n,h1,h2,h3⟩:=h.e;exact⟨dx,a,n,h1,h2,h3.less hZ⟩
section
variable {X:Cx}
theorem Nr (I:Inv X pins σ H s)(e:H a=some (pV a (.ref C) (some dx)))(ed:H dx=some (.xd fs)):∃ox od,W.InstAt s.heap a ox C (some od):=by
 obtain⟨⟨ob,vs,h1,h2,h3,h4⟩,_⟩:=(show dP X.prog X.w H s.heap a (pV a (.ref C) (some dx)) from I.hok a _ e)
 obtain⟨mA,N1,r⟩:=(show dP X.prog X.w H s.heap dx (.xd fs) from I.hok dx _ ed)
 obtain⟨od,ho,hl⟩:=yX N1;exact⟨ob,od,h1,h2,by unfold W.notCls;rw[h4],by rw[h3];exact ho⟩
theorem Hb:oX X (.builtin "isinstance") (λxs H Q=>∃a C dx fs c cv b,xs=[.ref a,c]/\H a=some (pV a (.ref C) (some dx))/\H dx=some (.xd fs)/\zV X.K C/\cG c cv/\(∀u,cG c u->u=cv)/\W.kitOne X.K (.ref C) cv=some b/\Q (.bl b) H):=by
 intro pins s σ H xs us Q I r h;obtain⟨a,C,dx,fs,c,cv,b,rfl,ha,hdx,k,rc,ru,e,q⟩:=h;obtain⟨u,w',rfl,rx,rn⟩:=Eh r
 cases (show u=Value.ref a from rx)
 cases ru w' rn
 obtain⟨ox,od,hi⟩:=Nr I ha hdx;exact W.kia_one (Ef (ox:=ox) (odo:=some od) k) I.kIn hi e (λz=>nomatch z) λtk=>⟨.bl b,H,I.tok tk,rfl,q⟩
end
def SWR (x r:Addr)(H H':Hp):Prop:=∀b o,H b=some o->b≠x->b≠r->H' b=some o
section
variable {K:Frag} {H H':Hp} {x r C dx:Addr} {fs:List (Str × V)} {us:List V}
theorem Oc (hx:H x=some (.ins C dx fs))(hr:H r=some (.lst us))(s:SWR x r H H')(h:SqT K H a ys):SqT K H' a ys:=by
 rcases h with (h | ⟨u,h⟩) | h
 .exact .inl (.inl (s _ _ h (cZ h hx (λz=>by cases z)) (cZ h hr (λz=>by cases z))))
 .exact .inl (.inr ⟨u,s _ _ h (cZ h hx (λz=>by cases z)) (cZ h hr (λz=>by cases z))⟩)
 .exact .inr h
theorem Zd (hx:H x=some (.ins C dx fs))(s:SWR x r H H')(ne:a≠r)(h:H a=some (.lst ys)):H' a=some (.lst ys):=s _ _ h (cZ h hx (λz=>by cases z)) ne
theorem Yn (hx:H x=some (.ins C dx fs))(hr:H r=some (.lst us))(s:SWR x r H H')(h:Rts K H xs ds):Rts K H' xs ds:=by
 induction h with
 |nil=>exact .nil
 |cons h f _ ih=>exact .cons (Oc hx hr s h) (Oc hx hr s f) ih
end
structure NwS (k:Kd) (p:Q2):Prop where
 lo:Low p
 bd:Bd 31 p
 le:p.2.natAbs<=12
 pc:k=.pc->0 < p.1
def cwD (k:Kd)(p:Q2):Int:=if k=.pc then p.1 else p.2
theorem NwS.c1 (h:NwS k p):1<=cwD k p/\Mq.B 31 (cwD k p):=by
 unfold cwD
 by_cases c:k=.pc
 .rw[if_pos c];have:=h.pc c;exact⟨(),h.bd.a⟩
 .rw[if_neg c];exact⟨h.lo.pos,h.bd.b⟩
theorem NwS.sz (h:NwS k p)(d:cwD k p ∣ L):SzW L k p:=by
 unfold cwD at d;refine⟨h.lo,h.bd,λc=>⟨h.pc c,by rw[if_pos c] at d;exact d,by have:=h.le;lia⟩,λc=>by rw[if_neg c] at d;exact d⟩
open PySem.W
section
variable {K:Frag} {x qual:Str} {st:Stmt} {dV:Value} {f:Addr} {fd:FuncData}
theorem aU.b1 (a:Str)(F:aU K x qual st dV f fd)(h:∀(kV doc pm:Value) (an:Option Addr) (cdv ct u:Value),bindArgs (W.fnOf x qual (eX st) (cV st) (aI st) dV kV doc pm an cdv ct) ⟨[u],[]⟩=pure [(a,u)]):aM K fd [a] []:=
 F.binds λk d p n c t us hl=>match us,hl with | [_],_=>h k d p n c t _
theorem aU.b2 (a b:Str)(F:aU K x qual st dV f fd)(h:∀(kV doc pm:Value) (an:Option Addr) (cdv ct u v:Value),bindArgs (W.fnOf x qual (eX st) (cV st) (aI st) dV kV doc pm an cdv ct) ⟨[u,v],[]⟩=pure [(a,u),(b,v)]):aM K fd [a,b] []:=
 F.binds λk d p n c t us hl=>match us,hl with | [_,_],_=>h k d p n c t _ _
theorem aU.b3 (a b c:Str)(F:aU K x qual st dV f fd)(h:∀(kV doc pm:Value) (an:Option Addr) (cdv ct u v w:Value),bindArgs (W.fnOf x qual (eX st) (cV st) (aI st) dV kV doc pm an cdv ct) ⟨[u,v,w],[]⟩=pure [(a,u),(b,v),(c,w)]):aM K fd [a,b,c] []:=
 F.binds λk d p n c t us hl=>match us,hl with | [_,_,_],_=>h k d p n c t _ _ _
theorem aU.b4 (a b c e:Str)(F:aU K x qual st dV f fd)(h:∀(kV doc pm:Value) (an:Option Addr) (cdv ct u v w z:Value),bindArgs (W.fnOf x qual (eX st) (cV st) (aI st) dV kV doc pm an cdv ct) ⟨[u,v,w,z],[]⟩=pure [(a,u),(b,v),(c,w),(e,z)]):aM K fd [a,b,c,e] []:=
 F.binds λk d p n c t us hl=>match us,hl with | [_,_,_,_],_=>h k d p n c t _ _ _ _
end
end L2
namespace K73
open PySem L2
variable {CR:Addr}{CK fW fJ fT fS:Kd->Addr}{fdW fdJ fdT fdS:Kd->FuncData}
structure D9 (P:Program)(w:World)(K:Frag)(mg:Str->Option Value)(base:Heap)(j:Nat)(g:Addr)(gd:FuncData)(ps:List Str)(sp:Sp)(nm:Str):Prop where
 G:aL P w K mg base CX0 j g gd ps sp
 b:aM K gd ps []
 k:kI9 K g
 m:mI9 mg nm g
theorem d9 (D:D9 X.prog X.w X.K X.mg X.base k f fd ps sp x)(hr:gQ k X.A)(hg:Gl X x)(ha:PA X (e :: es) t)(hdb:(x == ("__debug__":Str))=false:=by decide)(he:starEach (e :: es) X.env=(false,eval e X.env) :: starEach es X.env:=by rfl)(hpl:(backTo pos (starEach es X.env)).any (·.1)=false:=by rfl):PE X (.Call (.Name x p) (e :: es) [] pos) (qk9 sp [] E0 t):=aH D.G hr hg D.m D.k D.b .nil aK ha hdb he hpl
def top (i:Nat):Stmt:=PySem.Challenge.pw_ohmyard_k73_a_net_watched.main.body.getD i (.Pass ⟨0,0,0,0⟩)
abbrev Fo:Stmt:=top 19
theorem Wz:aR ["thing"] ["thing"] (aI Fo):=sK9
abbrev sGc:Stmt:=top 21
theorem Vc:aR ["one","other","rest"] ["one","other"] (aI sGc):=sK9
abbrev Gw:Stmt:=top 27
theorem Wk:aR ["one","other"] ["one","other"] (aI Gw):=sK9
abbrev kX:Stmt:=top 22
theorem Iu:aR ["top","bottom","shared"] ["top","bottom"] (aI kX):=sK9
abbrev Hf:Stmt:=top 24
theorem Vo:aR ["one","other"] ["one","other"] (aI Hf):=sK9
abbrev Ta:Stmt:=top 23
theorem qc2:aR ["one","other"] ["one","other"] (aI Ta):=sK9
abbrev Gf:Stmt:=cK (top 39) 0
theorem Up:aR ["self","start","goal","size"] ["self","start","goal","size"] (aI Gf):=sK9
abbrev wY:Stmt:=cK (top 40) 0
theorem Mi:aR ["self"] ["self"] (aI wY):=sK9
abbrev wQ:Stmt:=cK (top 41) 0
theorem Mz:aR ["self"] ["self"] (aI wQ):=sK9
abbrev xU:Stmt:=cK (top 42) 0
theorem Mh:aR ["self"] ["self"] (aI xU):=sK9
abbrev Gz:Stmt:=cK (top 39) 1
theorem Uq:aR ["self"] ["self"] (aI Gz):=sK9
abbrev Gj:Stmt:=top 43
theorem Lf:aR ["told","word"] ["told"] (aI Gj):=sK9
abbrev qa3:Stmt:=top 20
theorem qq6:aR ["thing"] ["thing"] (aI qa3):=sK9
abbrev sPS:Stmt:=top 45
theorem qs3:aR ["thing"] ["thing"] (aI sPS):=sK9
abbrev sNB:Stmt:=top 50
theorem qt1:aR ["thing","bound"] ["thing","bound"] (aI sNB):=sK9
abbrev sRS:Stmt:=top 53
theorem qs0:aR ["word","size"] ["word","size"] (aI sRS):=sK9
theorem yG:(["point","many"]:List Str).Nodup:=by decide +kernel
inductive qg0 (K:Frag) (vs:List V) (H:Hp) (Q:VK) (E:XK):Prop where
 |mk (l:Addr) (i j m:Int):vs=[.ref l,.int m]->SqL K H l [.int i,.int j]->0<=i->i < m->0<=j->j < m->(∀H',aV H H'->Q .non H')->qg0 K vs H Q E
inductive qc5 (vs:List V) (H:Hp) (Q:VK) (E:XK):Prop where
 |mk (k c:Int):vs=[.int k,.int c]->0<=k->k < c->Q .non H->qc5 vs H Q E
abbrev sRP:Stmt:=top 51
theorem qs9:aR ["some","many"] ["some","many"] (aI sRP):=sK9
abbrev sRN:Stmt:=top 52
theorem qt8:aR ["k","count"] ["k","count"] (aI sRN):=sK9
abbrev Hm:Stmt:=cK (top 49) 0
theorem Wy:aR ["self","many"] ["self","many"] (aI Hm):=sK9
abbrev Px:Stmt:=cK (top 49) 1
theorem Zw:aR ["self"] ["self"] (aI Px):=sK9
abbrev Im:Stmt:=cK (top 49) 2
theorem Uv:aR ["self"] ["self"] (aI Im):=sK9
abbrev Ir:Stmt:=cK (top 49) 6
theorem Vx:aR ["self"] ["self"] (aI Ir):=sK9
abbrev qg8:Stmt:=cK (top 49) 3
theorem Ys:aR ["self","row","told"] ["self","row"] (aI qg8):=sK9
abbrev Ad:Stmt:=cK (top 49) 4
theorem Ek:aR ["self","k","size","old"] ["self","k","size"] (aI Ad):=sK9
theorem Xl:(["told"]:List Str).Nodup:=by decide +kernel
abbrev Ri:Stmt:=cK (top 49) 5
theorem qf7:aR ["self"] ["self"] (aI Ri):=sK9
abbrev Gd:Stmt:=top 25
theorem Xk:aR ["one","other"] ["one","other"] (aI Gd):=sK9
abbrev Sb:Stmt:=top 26
theorem qe3:aR ["one","other"] ["one","other"] (aI Sb):=sK9
abbrev Iz:Stmt:=top 71
theorem Us:aR ["line","column","amount"] ["line","column","amount"] (aI Iz):=sK9
abbrev Ge:Stmt:=top 70
theorem Wu:aR ["matrix","row","column","amount"] ["matrix","row","column","amount"] (aI Ge):=sK9
abbrev Ca:Stmt:=top 67
theorem Ed:aR ["matrix","row","share"] ["matrix","row"] (aI Ca):=sK9
abbrev Ck:Stmt:=top 68
theorem Qx:aR ["right","row"] ["right","row"] (aI Ck):=sK9
abbrev Af:Stmt:=top 69
theorem Ps:aR ["matrix","right","row","column"] ["matrix","right","row","column"] (aI Af):=sK9
theorem lT (f:Fq K H t p):∀n,Fqs K H (replicate n (.ref t)) (replicate n p)
 |0=>.nil
 |n+1=>.cons f (lT f n)
theorem mP (x:V):∀n,(replicate n [x]).flatten=replicate n x
 |0=>rfl
 |n+1=>by rw[replicate_succ,flatten_cons,mP x n];rfl
theorem tE (xs:List V)(k:Nat):jC xs (some (k:Int)) none=xs.drop k:=by
 unfold jC;have h1:HT.sIx xs.length xs.length none=xs.length:=rfl;have h2:HT.sIx xs.length 0 (some (k:Int))=min k xs.length:=by simp[HT.sIx];lia
 rw[h1,h2]
 by_cases h:k<=xs.length
 .rw[Nat.min_eq_left h,take_of_length_le ⋯]
 .rw[Nat.min_eq_right (),drop_of_length_le (Nat.le_refl _),drop_of_length_le ()];simp
theorem Js (xs:List V):jC xs (some 1) none=xs.drop 1:=tE xs 1
theorem No (h:X.K=K):SlR X (Xw K):=by subst h;exact gK
theorem wP (R:List Q2)(j:Nat):(R.drop 1).getD j (0,1)=R.getD (j+1) (0,1):=by
 rw[getD_eq_getElem?_getD,getElem?_drop,Nat.add_comm 1 j,getD_eq_getElem?_getD]
theorem Nh (M:List (List Q2))(i j:Nat):jS ((M.drop 1).map (List.drop 1)) i j=jS M (i+1) (j+1):=by
 have e:((M.drop 1).map (List.drop 1)).getD i []=(M.getD (i+1) []).drop 1:=by
  rw[getD_eq_getElem?_getD,getElem?_map,getElem?_drop,Nat.add_comm 1 i,getD_eq_getElem?_getD]
  cases M[i+1]?<;>rfl
 unfold jS;rw[e,wP]
theorem Sq {w n:Nat}(b:MxB M w w n):MxB ((M.drop 1).map (List.drop 1)) (w - 1) (w - 1) n:=by
 refine⟨by rw[length_map,length_drop,b.h],λps hp=>?_,λps hp p hp'=>?_⟩
 .obtain⟨qs,hq,rfl⟩:=mem_map.mp hp;rw[length_drop,b.w _ (mem_of_mem_drop hq)]
 .obtain⟨qs,hq,rfl⟩:=mem_map.mp hp;exact b.l _ (mem_of_mem_drop hq) _ (mem_of_mem_drop hp')
theorem Pj {w n:Nat}(b:LnB R w n):LnB (R.drop 1) (w - 1) n:=⟨by rw[length_drop,b.w],λp hp=>b.l p (mem_of_mem_drop hp)⟩
theorem Vh (w:Nat):MxB (replicate w (replicate w (0,1))) w w 1:=by
 refine⟨length_replicate,λps hp=>?_,λps hp p hp'=>?_⟩
 .rw[eq_of_mem_replicate hp,length_replicate]
 .rw[eq_of_mem_replicate hp] at hp';rw[eq_of_mem_replicate hp'];exact⟨⟨∅,∅⟩,⟨show (0:Nat) < 2 ^ 1 by decide,show (1:Nat) < 2 ^ 1 by decide⟩⟩
theorem sM (w j:Nat):(replicate w ((0,1):Q2)).getD j (0,1)=(0,1):=by
 rw[getD_eq_getElem?_getD]
 cases e:(replicate w ((0,1):Q2))[j]? with
 |none=>rfl
 |some p=>exact eq_of_mem_replicate (mem_of_getElem? e)
theorem Tu (w i j:Nat):jS (replicate w (replicate w (0,1))) i j=(0,1):=by
 have e:(replicate w (replicate w ((0,1):Q2))).getD i []=[]\/(replicate w (replicate w ((0,1):Q2))).getD i []=replicate w (0,1):=by
  rw[getD_eq_getElem?_getD]
  cases e:(replicate w (replicate w ((0,1):Q2)))[i]? with
  |none=>exact .inl rfl
  |some ps=>exact .inr (eq_of_mem_replicate (mem_of_getElem? e))
 unfold jS;rcases e with e | e
 .rw[e];rfl
 .rw[e];exact sM w j
theorem Cf (w:Nat):LnB (replicate w (0,1)) w 1:=⟨length_replicate,λp hp=>by
 rw[eq_of_mem_replicate hp];exact⟨⟨∅,∅⟩,⟨show (0:Nat) < 2 ^ 1 by decide,show (1:Nat) < 2 ^ 1 by decide⟩⟩⟩
theorem Ii (i:Nat):bO (ds.take i)<=bO ds:=by
 have h:bO ds=bO (ds.take i)+bO (ds.drop i):=by
  unfold bO jH;rw[<- List.length_append,<- filter_append,take_append_drop]
 lia
theorem Oe:(["row"]:List Str).Nodup:=by decide +kernel
theorem yH:(["line","width"]:List Str).Nodup:=by decide +kernel
theorem Uz:(["line"]:List Str).Nodup:=by decide +kernel
theorem Fqs.drop1:∀{xs:List V} {ps:List Q2},Fqs K H xs ps->Fqs K H (xs.drop 1) (ps.drop 1)
 |_,_,.nil=>.nil
 |_,_,.cons _ q=>q
abbrev qj5:Stmt:=top 66
theorem pY:aR ["net","rows","many","width","matrix","right","held","row"] ["net"] (aI qj5):=sK9
theorem oE {ec:List (Str × Addr)}:∀(x:Str) (c:Addr),([]:List (Str × Addr)).lookup x=some c->ec.lookup x=some c:=λ_ _ h=>by cases h
theorem dX {ec cl:List (Str × Addr)}(h:ec.lookup a=some d)(r:∀x c,cl.lookup x=some c->ec.lookup x=some c):∀x c,((a,d) :: cl).lookup x=some c->ec.lookup x=some c:=λx c e=>by
 rw[lookup_cons] at e
 cases q:x == a with
 |true=>rw[q] at e;rw[eq_of_beq q,h];exact e
 |false=>rw[q] at e;exact r x c e
theorem uK (h:X.K=K):IxR X (Tx K):=by subst h;exact aZ
theorem Fc (h:X.K=K):IxR X (Zr K):=by subst h;exact cA
abbrev Ie:Stmt:=top 36
theorem uH:aR ["rows","numbers","point","steps","number","row"] ["rows","numbers","point"] (aI Ie):=sK9
theorem qb7 (hm:Ptm m es)(hb:b < m)(h20:m<=20){w:WS}(nd:(cH w).Nodup)(pt:∀x st,(x,st)∈w->∃pts,Pt es b st x pts/\∀y∈pts,y∈cH w)(p:Pt es b st x pts)(k:∀y∈pts,y∈cH w):st.length<=20:=by
 have l:pts.length=st.length+1:=by
  induction p with
  |nil=>rfl
  |snoc h g n ih=>rw[List.length_append,List.length_append,ih λy hy=>k y (mem_append_left _ hy)];rfl
 have nd':pts.Nodup:=by
  clear k l
  induction p with
  |nil=>simp
  |snoc h g n ih=>
   rw[nodup_append];refine⟨ih,⋯,λx hx y hy z=>n ?_⟩;rw[mem_singleton] at hy;rw[<- hy,<- z];exact hx
 have:=Kw nd' λy hy=>Ax hm hb pt y (k y hy);lia
theorem qb4 {T:List (Stp × Nat)}(hm:Ptm m es)(hb:b < m)(h20:m<=20)(h:WJ es b p [] s)(g:∀t∈T,qA es t.1 p t.2):((T.take j).foldl (inF p) s).2.length<=muF s:=by
 have:=Av hm hb h20 (T.take j) [] h λt ht=>g t (mem_of_mem_take ht);unfold muF at this ⊢;lia
def muW (σ:St)(H:Hp):Nat:=match σ with
 | [_,_,_,_,some (.ref D),some (.ref W),_,_]=>match H D,H W with
  |some (.dK kvs),some (.lst q)=>2*(20 - kvs.length)+q.length
  |_,_=>0
 |_=>0
theorem Sh {a b c d e f:Option V}(h:H D=some (.dK kvs))(g:H W=some (.lst q)):muW [a,b,c,d,some (.ref D),some (.ref W),e,f] H=2*(20 - kvs.length)+q.length:=by
 show (match H D,H W with | some (.dK kvs),some (.lst q)=>2*(20 - kvs.length)+q.length | _,_=>0)=_;rw[h,g]
theorem Sa (h:q≠[]):(q.map λ(p:Nat)=>V.int (p:Int))[((q.map λ(p:Nat)=>V.int (p:Int))).length - 1]?=some (.int ((q.getLastD 0:Nat):Int))/\(q.map λ(p:Nat)=>V.int (p:Int)).dropLast=(q.dropLast.map λ(p:Nat)=>V.int (p:Int)):=by
 obtain⟨_,e⟩:=Kr h;generalize q.getLastD 0=x at e;generalize q.dropLast=r at e;subst e;rw[map_append];simp
abbrev qj6:Stmt:=top 35
theorem Dl:aR ["rows","numbers","begin","end","ways","waiting","point","step"] ["rows","numbers","begin","end"] (aI qj6):=sK9
theorem Zb {i:Nat}(h:ds[i]?=some d):(skl ds)[i]?=some (d.1,d.2.1.toNat,d.2.2.1.toNat):=by unfold skl;rw[getElem?_map,h];rfl
theorem Qc (ds:List RD):(skl ds).length=ds.length:=by unfold skl;rw[length_map]
theorem ql0 {m:Nat}(pt:∀d∈ds,dD (m:Int) d.2.1 d.2.2.1):∀d∈skl ds,d.2.1 < m/\d.2.2 < m:=λd hd=>by
 obtain⟨e,he,rfl⟩:=mem_map.mp hd;obtain⟨i0,i1,j0,j1⟩:=pt e he;exact⟨by show e.2.1.toNat < m;lia,by show e.2.2.1.toNat < m;lia⟩
theorem Uy {m n:Nat}(pt:∀d∈ds,dD (m:Int) d.2.1 d.2.2.1)(h:RI W (skl ds) m n s):qk6 ds s.1:=λe he=>by
 obtain⟨k,hk⟩:=h.at_ e he;have hl:e.1 < ds.length:=by have:=(List.getElem?_eq_some_iff.mp hk).1;rwa [Qc] at this
 have hd:ds[e.1]?=some ds[e.1]:=getElem?_eq_getElem hl;rw[Zb hd] at hk;obtain⟨i0,i1,j0,j1⟩:=pt _ (mem_of_getElem? hd);refine⟨_,hd,?_,?_⟩
 .have:ds[e.1].2.1.toNat=e.2.1:=by injection hk with z;injection z with _ z;injection z
  lia
 .have:ds[e.1].2.2.1.toNat=e.2.2:=by injection hk with z;injection z with _ z;injection z
  lia
theorem Nz:∀n,(fF W sk n).1.length<=n
 |0=>Nat.le_refl _
 |n+1=>by
  have ih:=Nz (W:=W) (sk:=sk) n
  cases h:sk[n]? with
  |none=>show (match sk[n]? with | none=>fF W sk n | some d=>iV W (fF W sk n) n d).1.length<=n+1;rw[h];show (fF W sk n).1.length<=n+1;lia
  |some d=>
   rw[jG h];generalize fF W sk n=s at ih;unfold iV;split
   .split
    .show (s.1++[(n,d.2.1,d.2.2)]).length<=n+1;rw[List.length_append];simp only[length_cons,length_nil];lia
    .show s.1.length<=n+1;lia
   .lia
def WdA (K:Frag)(H:Hp)(v:V)(W:Kd->Bool):Prop:=∃(p:Addr) (ws:List V),v=.ref p/\(SqL K H p ws\/SqT K H p ws)/\ws.all oS=true/\∀k:Kd,inV (.str k.wd) ws=W k
theorem WdA.same (e:aV H H')(h:WdA K H v W):WdA K H' v W:=by
 obtain⟨p,ws,h1,h2,h3⟩:=h;refine⟨p,ws,h1,?_,h3⟩;rcases h2 with z | z
 .exact .inl (e.seq z)
 .exact .inr (e.seqT z)
theorem qr1 (k:Kd):inV (.str k.wd) [.str "piece",.str "hold"]=decide (k≠.pu):=by cases k<;>decide
abbrev iK:Stmt:=top 34
theorem jN:aR ["net","words","wanted","rows","branches","found","number","row","back"] ["net","words"] (aI iK):=sK9
abbrev sZ:Stmt:=cK (top 40) 1
theorem Go:aR ["self"] ["self"] (aI sZ):=sK9
abbrev rM:Stmt:=cK (top 41) 1
theorem Fz:aR ["self"] ["self"] (aI rM):=sK9
abbrev rP:Stmt:=cK (top 42) 1
theorem Ip:aR ["self"] ["self"] (aI rP):=sK9
inductive xZ (K:Frag) (CK:Kd->Addr) (vs:List V) (H:Hp) (Q:VK) (E:XK):Prop where
 |mk (a x:Addr) (ms:List Int) (k:Kd) (s g:Nat) (z:V):vs=[.ref a,.ref x]->SqL K H a (ms.map V.int)->Rw CK H x k (.int (s:Int)) (.int (g:Int)) z->s < ms.length->g < ms.length->ms.length<=100->(∀l H',aV H H'->H l=none->H' l=some (.lst ((jn ms s g).map V.int))->Q (.ref l) H')->xZ K CK vs H Q E
inductive Cd (CN:Addr) (K:Frag) (vs:List V) (H:Hp) (Q:VK) (E:XK):Prop where
 |mk (n l:Addr) (m:Nat) (ds:List RD):vs=[.ref n]->dG CN K H n l (m:Int) ds->(∀d∈ds,dD (m:Int) d.2.1 d.2.2.1)->m<=20->ds.length<=100->(∀l' H',aV H H'->H l'=none->H' l'=some (.lst ((mks m ds).map V.int))->Q (.ref l') H')->Cd CN K vs H Q E
def Nv (m:Nat)(ds:List RD):List Int:=((List.range m).filter λp=>decide (mk m ds p≠mk m ds 0)).map λ(p:Nat)=>(p:Int)
inductive Bn (CN:Addr) (K:Frag) (vs:List V) (H:Hp) (Q:VK) (E:XK):Prop where
 |mk (n l:Addr) (m:Nat) (ds:List RD):vs=[.ref n]->dG CN K H n l (m:Int) ds->(∀d∈ds,dD (m:Int) d.2.1 d.2.2.1)->1<=m->m<=20->ds.length<=100->(∀l' H',aV H H'->H l'=none->H' l'=some (.lst ((Nv m ds).map V.int))->Q (.ref l') H')->Bn CN K vs H Q E
theorem pX:(["mark","lost","kept"]:List Str).Nodup:=by decide +kernel
abbrev Ci:Stmt:=top 33
theorem vP:aR ["marks","row","kept","lost"] ["marks","row"] (aI Ci):=sK9
abbrev Gm:Stmt:=top 32
theorem uB:aR ["net","marks","row"] ["net"] (aI Gm):=sK9
theorem iN:(["point","mark","marks"]:List Str).Nodup:=by decide +kernel
abbrev Iw:Stmt:=top 31
theorem Km:aR ["net","marks"] ["net"] (aI Iw):=sK9
open Shp
theorem yE:(["one","bottom"]:List Str).Nodup:=by decide +kernel
abbrev sIW:Stmt:=top 57
theorem Wn:aR ["some","bottom","one"] ["some"] (aI sIW):=sK9
abbrev qb6:Stmt:=top 61
theorem Za:aR ["rows","rank","column","place"] ["rows","rank","column"] (aI qb6):=sK9
theorem eV:(["here","above","own","other","divisor"]:List Str).Nodup:=by decide +kernel
abbrev qk0:Stmt:=top 63
theorem Rl:aR ["row","upper","column","divisor","own","other"] ["row","upper","column","divisor"] (aI qk0):=sK9
theorem dH:(["place","row","upper","rank","divisor","column"]:List Str).Nodup:=by decide +kernel
abbrev wH:Stmt:=top 62
theorem yS:aR ["rows","rank","column","divisor","upper"] ["rows","rank","column","divisor"] (aI wH):=sK9
abbrev Rf:Stmt:=top 60
theorem iL:aR ["rows","width","rank","pivot","sign","column","place","lifted"] ["rows","width"] (aI Rf):=sK9
theorem tK:(["row","side"]:List Str).Nodup:=by decide +kernel
theorem lB:(["row","many","end"]:List Str).Nodup:=by decide +kernel
abbrev Ab:Stmt:=top 55
theorem pP:aR ["matrix","right","many","rows","end"] ["matrix","right"] (aI Ab):=sK9
abbrev wHo:Kd->Bool:=λk=>inV (.str k.wd) [.str "hold"]
inductive Ld (CN:Addr) (K:Frag) (vs:List V) (H:Hp) (Q:VK) (E:XK):Prop where
 |mk (n l:Addr) (m:Nat) (ds:List RD):vs=[.ref n]->dG CN K H n l (m:Int) ds->(∀d∈ds,dD (m:Int) d.2.1 d.2.2.1)->1<=m->m<=20->ds.length<=40->(fF wHo (skl ds) ds.length).2=[]->Nv m ds=[]->(∀H',aV H H'->Q .non H')->Ld CN K vs H Q E
abbrev Zz:Stmt:=top 72
theorem Qq:aR ["net","held","points"] ["net"] (aI Zz):=sK9
theorem tX:∀{us:List V} {X:List (List Q2)},Fms K H0 H us X->(∀x∈us,x≠.ref D)->Fmd K H0 D H us X
 | [],[],_,_=>.nil
 | [],_ :: _,h,_=>by have:=h.l;simp at this
 |_ :: _,[],h,_=>by have:=h.l;simp at this
 |x :: us,ps :: X,h,n=>by
  obtain⟨a,xs,rfl,n0,h1,h2⟩:=h.r 0 x ps rfl rfl;exact .cons n0 (λz=>n _ (mem_cons_self ..) (by rw[z])) h1 h2 (tX ⟨by have:=h.l;simpa using this,λi y qs e1 e2=>h.r (i+1) y qs (by simpa using e1) (by simpa using e2)⟩ λy hy=>n y (mem_cons_of_mem _ hy))
theorem Gc (xs:List V)(k:Nat):jC xs none (some (k:Int))=xs.take k:=by
 unfold jC;have h1:HT.sIx xs.length 0 none=0:=rfl;have h2:HT.sIx xs.length xs.length (some (k:Int))=min k xs.length:=by simp[HT.sIx];lia
 rw[h1,h2,drop_zero,Nat.sub_zero,take_eq_take_iff];lia
theorem bG.rtsI (ht:H t=some (.ins C dx fs))(e:bG t H H'):∀{xs:List V} {ds:List RD},Rts K H xs ds->Rts K H' xs ds
 |_,_,.nil=>.nil
 |_,_,.cons h f q=>.cons (bG.seqTI ht e h) (bG.seqTI ht e f) (bG.rtsI ht e q)
theorem dG.xI (hq:H q=some (.ins C dx fs))(e:bG q H H')(ne:n≠q)(h:dG CN K H n l m ds):dG CN K H' n l m ds:=
 let ⟨⟨dx,a⟩,ts,b,c⟩:=h;⟨⟨dx,e _ _ a ne⟩,ts,e _ _ b (cZ b hq (λz=>by cases z)),bG.rtsI hq e c⟩
theorem qc3 (hq:H q=some (.ins C dx []))(h:dG CN K H n l m ds):n≠q:=λz=>by
 obtain⟨dn,a⟩:=h.ob;rw[z,hq] at a;injection a with a
 injection a with _ _ a
 unfold gP at a;have:=bH ("kept":Str) "kept" (.ref l) (cP "point_count" (.int m) []);rw[<- a,if_pos rfl] at this
 cases this
theorem Fqs.drop:∀(k:Nat) {xs:List V} {ps:List Q2},Fqs K H xs ps->Fqs K H (xs.drop k) (ps.drop k)
 |0,_,_,h=>h
 |_+1,_,_,.nil=>.nil
 |k+1,_,_,.cons _ q=>Fqs.drop k q
theorem Fqs.take:∀(k:Nat) {xs:List V} {ps:List Q2},Fqs K H xs ps->Fqs K H (xs.take k) (ps.take k)
 |0,_,_,h=>.nil
 |_+1,_,_,.nil=>.nil
 |k+1,_,_,.cons f q=>.cons f (Fqs.take k q)
theorem oK (k:Kd):wHo k=true↔k=.ho:=by
 cases k
 .exact⟨λh=>absurd h ∅,λh=>by cases h⟩
 .exact⟨λh=>absurd h ∅,λh=>by cases h⟩
 .exact⟨λ_=>rfl,λ_=>by decide +kernel⟩
theorem oO (o:Nof m ds):Nv m ds=[]:=by
 unfold Nv;rw[filter_eq_nil_iff.mpr λp hp=>?_]
 .rfl
 .have pm:=mem_range.mp hp;rw[(Uj o.pt pm (by have:=o.m1;lia)).mpr (o.cn p pm).symm];simp
theorem jQ (hx:H x=none)(hd:H dx=none):aV H (upd (upd H dx (.own x)) x (.ins C dx [])):=λb o h=>by
 have n1:b≠x:=λz=>by rw[z,hx] at h;cases h
 have n2:b≠dx:=λz=>by rw[z,hd] at h;cases h
 rw[aX n1,aX n2];exact h
inductive Au (CN:Addr) (K:Frag) (vs:List V) (H:Hp) (Q:VK) (E:XK):Prop where
 |mk (n l g r D:Addr) (H0:Hp) (m b N:Nat) (L:Int) (ds:List RD) (us ys:List V) (X:List (List Q2)) (Y qs:List Q2):vs=[.ref n,.ref g,.ref r]->dG CN K H n l (m:Int) ds->SqL K H g us->Fmd K H0 D H us X->tQ m ds N X Y->EqB m b L ds->SqL K H r ys->Fqs K H ys qs->qs.length=X.length->(∀p∈qs,Q01 p)->(∀t zs ps H',H t=none->aV H H'->H' t=some (.lst zs)->Fqs K H' zs (lvS m ps)->qh8 X qs ps->Ovr (bw b (wd m ds)) ps->Q (.ref t) H')->Au CN K vs H Q E
inductive Fj (CN:Addr) (K:Frag) (vs:List V) (H:Hp) (Q:VK) (E:XK):Prop where
 |mk (n l:Addr) (m b:Nat) (kb:Nat->Nat) (L:Int) (ds:List RD) (s g:Nat):vs=[.ref n,.int (s:Int),.int (g:Int)]->Eg CN K H n l m b kb L ds->s < m->g < m->(∀t zs hp v H',H t=none->aV H H'->H' t=some (.lst zs)->Fqs K H' zs hp->hp.length=m->eI hp->Ovr (bw b (wd m ds)) hp->yD m ds g s v->(∀p,p < m->Mq.val (hp.getD p (0,1))=v p)->Q (.ref t) H')->Fj CN K vs H Q E
abbrev qb9:Stmt:=top 77
theorem ql5:aR ["net","matrix","right"] ["net","matrix","right"] (aI qb9):=sK9
theorem ql2 (s g x:Nat):- dl s g x*Mq.val (1,1)=un g x - un s x:=by
 rw[Mq.vY];unfold dl un
 by_cases a:s=x<;>by_cases b:g=x
 .rw[if_pos a,if_pos b,if_pos b.symm,if_pos a.symm];grind
 .rw[if_pos a,if_neg b,if_neg (λz=>b z.symm),if_pos a.symm];grind
 .rw[if_neg a,if_pos b,if_pos b.symm,if_neg (λz=>a z.symm)];grind
 .rw[if_neg a,if_neg b,if_neg (λz=>b z.symm),if_neg (λz=>a z.symm)];grind
theorem Zp (g s x:Nat):∃a:Int,a.natAbs<=1/\un g x - un s x=(a:Rat) / ((1:Int):Rat):=by
 have one:((1:Int):Rat)=1:=rfl;unfold un
 by_cases a:x=g<;>by_cases b:x=s
 .exact⟨0,∅,by rw[if_pos a,if_pos b,one,show ((0:Int):Rat)=0 by rfl];grind⟩
 .exact⟨1,∅,by rw[if_pos a,if_neg b,one];grind⟩
 .exact⟨-1,∅,by rw[if_neg a,if_pos b,one,show ((-1:Int):Rat)=-1 by rfl];grind⟩
 .exact⟨0,∅,by rw[if_neg a,if_neg b,one,show ((0:Int):Rat)=0 by rfl];grind⟩
abbrev qd9:Stmt:=top 76
theorem Tk:aR ["net","start","goal","matrix","right"] ["net","start","goal"] (aI qd9):=sK9
inductive Oh (CN:Addr) (K:Frag) (vs:List V) (H:Hp) (Q:VK) (E:XK):Prop where
 |mk (n l:Addr) (m b:Nat) (kb:Nat->Nat) (L:Int) (ds:List RD) (k:Nat) (d:RD):vs=[.ref n,.int (k:Int)]->Eg CN K H n l m b kb L ds->ds[k]?=some d->d.1=.ho->(∀t zs hp v H',H t=none->aV H H'->H' t=some (.lst zs)->Fqs K H' zs hp->hp.length=m->eI hp->Ovr (bw b (wd m ds)) hp->Sv m ds (un (m+bO (ds.take k))) v->(∀p,p < m->Mq.val (hp.getD p (0,1))=v p)->Q (.ref t) H')->Oh CN K vs H Q E
inductive uX (CN:Addr) (K:Frag) (vs:List V) (H:Hp) (Q:VK) (E:XK):Prop where
 |mk (n l:Addr) (m b:Nat) (kb:Nat->Nat) (L:Int) (ds:List RD) (k:Nat) (d:RD):vs=[.ref n,.int (k:Int)]->Eg CN K H n l m b kb L ds->ds[k]?=some d->(∀t zs hp v H',H t=none->aV H H'->H' t=some (.lst zs)->Fqs K H' zs hp->hp.length=m->eI hp->Ovr (bw b (wd m ds)) hp->Sv m ds (shR m ds k d) v->(∀p,p < m->Mq.val (hp.getD p (0,1))=v p)->Q (.ref t) H')->uX CN K vs H Q E
abbrev qg9:Stmt:=top 80
theorem Jy:aR ["net","k","matrix","right","ahead"] ["net","k"] (aI qg9):=sK9
abbrev Gp:Stmt:=top 79
theorem Jr:aR ["net","k","row"] ["net","k"] (aI Gp):=sK9
inductive rX (K:Frag) (CK:Kd->Addr) (k:Kd) (vs:List V) (H:Hp) (Q:VK) (E:XK):Prop where
 |mk (x z a h:Addr) (s g:V) (p u v:Q2) (n m:Nat):vs=[.ref x,.ref a,.ref h]->Rw CK H x k s g (.ref z)->Fq K H z p->Fq K H a u->Fq K H h v->1<=p.2->1<=u.2->Bd n p->Bd m u->n+m+1<=9000->(k=.pc->0 < p.1)->(∀r H',aV H H'->Fq K H' r (Nj k u v p)->Q (.ref r) H')->rX K CK k vs H Q E
abbrev pE:Stmt:=cK (top 40) 3
theorem Dg:aR ["self","fall","held"] ["self","fall","held"] (aI pE):=sK9
abbrev pF:Stmt:=cK (top 41) 3
theorem Et:aR ["self","fall","held"] ["self","fall","held"] (aI pF):=sK9
theorem zU (F : aU K "stream" "Push.stream" pF dV f fd)(T : RT K mg CR CK): aL P w K mg base CX 4 f fd ["self", "fall", "held"] (rX K CK .pu) := by
  refine F.ok Et (λvs H Q E h => ?_) (λcdv A outer s H vs Q E hr h => ?_)
  . obtain ⟨x, z, a, h, s, g, p, u, v, n, m, rfl, _⟩ := h
    rfl
  obtain ⟨x, z, a, h, s, g, p, u, v, n, m, rfl, ⟨dx, hx⟩, fz, fa, fh, hp, hu, bp, bu, hn, h0, q⟩ := h;refine ⟨_, (aG (aT (bX (pv 0) rfl))), ?_⟩;exact ⟨_, rfl, x, CK .pu, dx, _, _, rfl, hx, T.cl _, T.nZ _, eU _ _ _, q z H (aV.refl H) fz⟩
abbrev pH:Stmt:=cK (top 42) 3
theorem Ej:aR ["self","fall","held"] ["self","fall","held"] (aI pH):=sK9
theorem As (F : aU K "stream" "Hold.stream" pH dV f fd)(T : RT K mg CR CK): aL P w K mg base CX 4 f fd ["self", "fall", "held"] (rX K CK .ho) := by
  refine F.ok Ej (λvs H Q E h => ?_) (λcdv A outer s H vs Q E hr h => ?_)
  . obtain ⟨x, z, a, h, s, g, p, u, v, n, m, rfl, _⟩ := h
    rfl
  obtain ⟨x, z, a, h, s, g, p, u, v, n, m, rfl, ⟨dx, hx⟩, fz, fa, fh, hp, hu, bp, bu, hn, h0, q⟩ := h;refine ⟨_, (aG (aT (pv 2))), ?_⟩;exact ⟨_, rfl, q h H (aV.refl H) fh⟩
abbrev Oa:Stmt:=top 44
theorem qk2:aR ["row","heights"] ["row","heights"] (aI Oa):=sK9
inductive Aw (K:Frag) (CK:Kd->Addr) (vs:List V) (H:Hp) (Q:VK) (E:XK):Prop where
 |mk (a b h:Addr) (xs ls ys:List V) (ds:List RD) (lv hs:List Q2) (m:Nat):vs=[.ref a,.ref b,.ref h]->H a=some (.lst xs)->hV CK K H xs ds->StB K H b ls lv m->SqL K H h ys->Fqs K H ys hs->(∀p∈hs,Low p)->(∀d∈ds,Ag (m:Int) d)->bO ds<=hs.length->ds.length<=40->(∀l zs H',aV H H'->H l=none->H' l=some (.lst zs)->Fqs K H' zs (pU lv hs 0 ds)->Q (.ref l) H')->Aw K CK vs H Q E
abbrev Hh:Stmt:=top 74
theorem oB:aR ["rows","levels","held","flows","taken","row","fall"] ["rows","levels","held"] (aI Hh):=sK9
theorem lF:(["column","whole","place"]:List Str).Nodup:=by decide +kernel
abbrev Ro:Stmt:=top 58
theorem vJ:aR ["matrix","rows","place","row","whole"] ["matrix"] (aI Ro):=sK9
theorem Bh:(["top","pivot"]:List Str).Nodup:=by decide +kernel
abbrev Fv:Stmt:=top 59
theorem Wq:aR ["tops","pivot"] ["tops","pivot"] (aI Fv):=sK9
theorem Mf {l:List Int}:(l.drop m).getD k 0=l.getD (m+k) 0:=by
 rw[getD_eq_getElem?_getD,getElem?_drop,getD_eq_getElem?_getD]
theorem Ac {ts:List Int}(h:k < ts.length):(ts.map λt=>red t f0).getD k Mq.z0=red (ts.getD k 0) f0:=by
 rw[getD_eq_getElem?_getD,getElem?_map,iS h];rfl
abbrev Tm:Stmt:=top 56
theorem Gi:aR ["matrix","many","end"] ["matrix"] (aI Tm):=sK9
inductive tY (CA:Addr) (K:Frag) (vs:List V) (H:Hp) (Q:VK) (E:XK):Prop where
 |mk (a:Addr) (m b:Nat) (L:Int) (ds:List RD):vs=[.ref a]->LnX [] CA K H a m ds->EqB m b L ds->wd m ds<=10->(∀l zs M H',aV H H'->H l=none->H' l=some (.lst zs)->Fmd K H l H' zs M->Lv m ds M->Q (.ref l) H')->tY CA K vs H Q E
abbrev Uf:Stmt:=cK (top 73) 4
theorem qd1:aR ["self"] ["self"] (aI Uf):=sK9
abbrev Tv:Stmt:=cK (top 73) 1
theorem qf2:aR ["self"] ["self"] (aI Tv):=sK9
abbrev Os:Stmt:=cK (top 73) 2
theorem qj8:aR ["self"] ["self"] (aI Os):=sK9
inductive jY (CN CA:Addr) (K:Frag) (vs:List V) (H:Hp) (Q:VK) (E:XK):Prop where
 |mk (x dx n l:Addr) (m b:Nat) (kb:Nat->Nat) (L:Int) (ds:List RD):vs=[.ref x,.ref n]->H x=some (.ins CA dx [])->Eg CN K H n l m b kb L ds->bw b (wd m ds)<=3900->(∀i,∃a:Int,Mq.B b a/\eqR m ds (i+1)=(a:Rat) / (L:Rat))->(fF wHo (skl ds) ds.length).2=[]->Nv m ds=[]->(∀ps H',bG x H H'->qu2 CA K H H' x (lvS m ps) (pU (lvS m ps) (ps.drop (m - 1)) 0 ds)->ps.length=wd m ds->eI ps->Ovr (bw b (wd m ds)) ps->Sv m ds (eqR m ds) (uP ps)->(∀Z:List Addr,(∀y∈Z,y≠x/\∃o,H y=some o)->LnX Z CA K H' x m ds)->Q .non H')->jY CN CA K vs H Q E
abbrev Gk:Stmt:=cK (top 73) 0
theorem uC:aR ["self","net","both","known","inner"] ["self","net"] (aI Gk):=sK9
abbrev Sc:Stmt:=cK (top 49) 7
theorem Pi:aR ["self","made"] ["self"] (aI Sc):=sK9
theorem Nk:Bd 1 (1,1):=⟨by show (1:Nat) < 2 ^ 1;decide,by show (1:Nat) < 2 ^ 1;decide⟩
theorem vY:Mq.val (1,1)=1:=by unfold Mq.val;show ((1:Int):Rat) / ((1:Int):Rat)=1;rw[show ((1:Int):Rat)=1 by rfl];grind
theorem Qu (l:1<=p.2)(h:0 < Mq.val p):0 < p.1:=by
 refine Decidable.byContradiction λc=>?_;have c1:((p.1:Int):Rat)<=0:=by exact_mod_cast (show p.1<=0 by lia)
 have c2:(0:Rat) < ((p.2:Int):Rat):=by exact_mod_cast (show 0 < p.2 by lia)
 unfold Mq.val at h;rw[Rat.div_def] at h;have:=Rat.mul_le_mul_of_nonneg_right c1 (Rat.le_of_lt (Rat.inv_pos.mpr c2));rw[Rat.zero_mul] at this;exact absurd h (Rat.not_lt.mpr this)
theorem Va (l:1<=p.2)(h:0 < p.1):0 < Mq.val p:=by
 unfold Mq.val;rw[Rat.div_def];exact Rat.mul_pos (by exact_mod_cast h) (Rat.inv_pos.mpr (by exact_mod_cast (show 0 < p.2 by lia)))
theorem Xr (o:Nof m ds)(hd:ds[k]?=some d)(hk:d.1=.pc)(h:Sv m ds (shR m ds k d) v)(hp:0 < p):0 < 1+(1 / p - 1 / Mq.val d.2.2.2)*(v d.2.1.toNat - v d.2.2.1.toNat):=by
 have e:ds=ds.take k++d :: ds.drop (k+1):=by
  have:=take_append_drop k ds;rw[drop_eq_getElem_cons (List.getElem?_eq_some_iff.mp hd).1,(List.getElem?_eq_some_iff.mp hd).2] at this;exact this.symm
 have sh:shR m ds k d=λx=>un d.2.1.toNat x - un d.2.2.1.toNat x:=funext λx=>if_neg (by rw[hk];decide);rw[sh] at h;have sp:=o.pos d (mem_of_getElem? hd) hk;rw[e] at o h;obtain⟨a,b,_⟩:=Sf o hk h;generalize v d.2.1.toNat - v d.2.2.1.toNat=R at a b;generalize Mq.val d.2.2.2=s at b sp;have hp1:0 < 1 / p:=by rw[Rat.div_def,Rat.one_mul];exact Rat.inv_pos.mpr hp
 by_cases c:R=0
 .subst c;grind
 .have R0:0 < R:=by
   rcases Rat.le_iff_lt_or_eq.mp a with z | z
   .exact z
   .exact absurd z.symm c
  have:=Rat.mul_pos hp1 R0;grind
structure qn6 (m:Nat) (ds:List RD) (k:Nat) (d:RD) (hp:List Q2):Prop where
 len:hp.length=m
 lo:eI hp
 sv:∃v,Sv m ds (shR m ds k d) v/\∀p,p < m->Mq.val (hp.getD p (0,1))=v p
structure Se (m:Nat) (ds:List RD) (k:Nat) (d:RD) (p q:Q2):Prop where
 lo:Low q
 bd:Bd 3700 q
 fv:∀v s,Sv m ds (eqR m ds) v->Sv m ds (shR m ds k d) s->qc1 m d p v s (Mq.val q)
theorem qu4 {x y z:Rat}(hy:0 < y)(e:z=- x / y):z*y=- x:=by
 have:y≠0:=λh=>by rw[h] at hy;exact absurd hy ∅
 rw[e];grind
inductive Sd (CN CA:Addr) (K:Frag) (vs:List V) (H:Hp) (Q:VK) (E:XK):Prop where
 |mk (n l a z:Addr) (m k:Nat) (L:Int) (ds:List RD) (d:RD) (p:Q2) (lv fl:List Q2):vs=[.ref n,.ref a,.int (k:Int),.ref z]->dG CN K H n l (m:Int) ds->Dw m L ds->vK CA K H a lv fl->rV m ds lv fl->ds[k]?=some d->Fq K H z p->SzW L d.1 p->(∀r q H',aV H H'->Fq K H' r q->Se m ds k d p q->Q (.ref r) H')->Sd CN CA K vs H Q E
abbrev qa0:Stmt:=top 82
theorem Dq:aR ["net","answer","k","size","row","more","fall","along_shape"] ["net","answer","k","size"] (aI qa0):=sK9
theorem kH (hx:H x=none)(hd:H dx=none)(s:bG x (upd (upd H dx (.own x)) x (.ins C dx [])) H'):aV H H':=λb o h=>by
 have nb:b≠x:=aQ h hx;exact s b o (jQ (C:=C) hx hd b o h) nb
inductive Ft (CN CA CW:Addr) (K:Frag) (vs:List V) (H:Hp) (Q:VK) (E:XK):Prop where
 |mk (x dx n l:Addr) (m:Nat) (L:Int) (ds:List RD):vs=[.ref x,.ref n]->H x=some (.ins CW dx [])->dG CN K H n l (m:Int) ds->Dw m L ds->(∀H',bG x H H'->(∀X:List Addr,(∀y∈X,∃o,H y=some o)->gR X CN CA CW K H' x m ds)->(∀X:List Addr,(∀y∈X,∃o,H y=some o)->kM X CA CW K H' x m ds)->Q .non H')->Ft CN CA CW K vs H Q E
inductive Co (CN CA CW CR1 CZ:Addr) (K:Frag) (vs:List V) (H:Hp) (Q:VK) (E:XK):Prop where
 |mk (w:Addr) (v z:V) (m:Nat) (L:Int) (ds:List RD) (o:Option Int) (oz:Option Q2):vs=[.ref w,v,z]->gR [] CN CA CW K H w m ds->Dw m L ds->Pn K H ds.length v o->Zv K H z oz->Bz oz->(o=none->∀H',aV H H'->E (.ref CR1) none H')->(∀(k:Nat) d,o=some (k:Int)->ds[k]?=some d->(okz d.1 oz=false->∀H',aV H H'->E (.ref CZ) none H')/\∀p,oz=some p->okz d.1 oz=true->SzW L d.1 p/\
  ∀r q H',bG w H H'->Fq K H' r q->Se m ds k d p q->(∀X:List Addr,(∀y∈X,∃o,H y=some o)->gR X CN CA CW K H' w m (szS ds k p))->(∀X:List Addr,(∀y∈X,∃o,H y=some o)->kM X CA CW K H' w m (szS ds k p))->Q (.ref r) H')->Co CN CA CW CR1 CZ K vs H Q E
inductive Bc (CN CA CW:Addr) (K:Frag) (vs:List V) (H:Hp) (Q:VK) (E:XK):Prop where
 |mk (w:Addr) (m:Nat) (ds:List RD):vs=[.ref w]->gR [] CN CA CW K H w m ds->(∀lv fl,rV m ds lv fl->∀l xs H',aV H H'->H l=none->H' l=some (.lst xs)->Fqs K H' xs lv->Q (.ref l) H')->Bc CN CA CW K vs H Q E
inductive Hv (CN CA CW:Addr) (K:Frag) (vs:List V) (H:Hp) (Q:VK) (E:XK):Prop where
 |mk (w:Addr) (m:Nat) (ds:List RD):vs=[.ref w]->gR [] CN CA CW K H w m ds->(∀lv fl,rV m ds lv fl->∀l xs H',aV H H'->H l=none->H' l=some (.lst xs)->Fqs K H' xs fl->Q (.ref l) H')->Hv CN CA CW K vs H Q E
inductive Gq (CN CA CW:Addr) (K:Frag) (vs:List V) (H:Hp) (Q:VK) (E:XK):Prop where
 |mk (w:Addr) (m:Nat) (ds:List RD):vs=[.ref w]->gR [] CN CA CW K H w m ds->1<=m->m<=20->(∀n l H',aV H H'->H n=none->H l=none->dG CN K H' n l (m:Int) ds->Q (.ref n) H')->Gq CN CA CW K vs H Q E
abbrev Po:Stmt:=cK (top 81) 2
theorem qk5:aR ["self"] ["self"] (aI Po):=sK9
abbrev Rk:Stmt:=cK (top 81) 3
theorem qh9:aR ["self"] ["self"] (aI Rk):=sK9
abbrev Qd:Stmt:=cK (top 81) 5
theorem qj7:aR ["self"] ["self"] (aI Qd):=sK9
theorem Ap (ht:H t=some (.ins C dx fs))(e:bG t H H')(q:Rts K H xs ds):Rts K H' xs ds:=by
 induction q with
 |nil=>exact .nil
 |cons h f _ ih=>exact .cons (bG.seqTI ht e h) (bG.seqTI ht e f) ih
theorem Tw {H0 H2 H5:Hp}(hx2:H2 x=some (.ins C2 dx2 fs2))(sx:bG x H2 H5)(hx5:H5 x=some (.ins CW dx (fU a n)))(nax:a≠x)(ha:H2 a=some (.ins CA dxa (iA li le fo)))(hle:H2 le=some (.lst xs))(Fle:Fqs K H2 xs lv)(hfo:H2 fo=some (.lst ys))(Ffo:Fqs K H2 ys fl)(AV:rV m ds lv fl)(nnx:n≠x)(hn:H5 n=some (.ins CN dn (gP (m:Int) l)))(hl:H5 l=some (.lst ts))(hR:Rts K H5 ts ds)(nw:∀y o,H0 y=some o->a≠y/\le≠y/\fo≠y/\n≠y/\l≠y)(X:List Addr)(hX:∀y∈X,∃o,H0 y=some o):gR X CN CA CW K H5 x m ds:=
 ⟨dx,a,n,l,dxa,li,le,fo,dn,xs,ys,ts,lv,fl,hx5,sx _ _ ha nax,sx _ _ hle (cZ hle hx2 (λz=>by cases z)),bG.fqsI hx2 sx Fle,sx _ _ hfo (cZ hfo hx2 (λz=>by cases z)),bG.fqsI hx2 sx Ffo,AV,hn,hl,hR,nax,nnx,λy hy=>let ⟨o,ho⟩:=hX y hy;nw y o ho⟩
abbrev Td:Stmt:=cK (top 81) 0
theorem qa5:aR ["self","net"] ["self","net"] (aI Td):=sK9
abbrev Rj:Stmt:=cK (top 81) 1
theorem Ho:aR ["self","k","size","changed","factor"] ["self","k","size"] (aI Rj):=sK9
inductive Cy (CA CW:Addr) (K:Frag) (vs:List V) (H:Hp) (Q:VK) (E:XK):Prop where
 |mk (w:Addr) (m b:Nat) (L:Int) (ds:List RD):vs=[.ref w]->kM [] CA CW K H w m ds->EqB m b L ds->wd m ds<=10->(∀l zs M H',aV H H'->H l=none->H' l=some (.lst zs)->Fmd K H l H' zs M->Lv m ds M->Q (.ref l) H')->Cy CA CW K vs H Q E
abbrev Tt:Stmt:=cK (top 81) 4
theorem qi0:aR ["self"] ["self"] (aI Tt):=sK9
abbrev Sr:Stmt:=top 84
theorem Oz:aR ["_law_script","_law_k","_law_found"] ["_law_script","_law_k"] (aI Sr):=sK9
inductive Ce (K:Frag) (vs:List V) (H:Hp) (Q:VK) (E:XK):Prop where
 |mk (a:Addr) (ns:List Int) (j:Int) (k:Nat):vs=[.ref a,.int j]->j=(k:Int)->SqL K H a (ns.map V.int)->ns.length<=63->(∀i H',aV H H'->Q (.int i) H')->Ce K vs H Q E
abbrev Cb:Stmt:=top 85
theorem wI:aR ["_law_cell","_law_turn","_law_many","_law_left","_law_k","_law_by","_law_prime","_law_x"] ["_law_cell","_law_turn","_law_many"] (aI Cb):=sK9
inductive pT (vs:List V) (H:Hp) (Q:VK) (E:XK):Prop where
 |mk (c t m:Int):vs=[.int c,.int t,.int m]->0<=t->t<=9->0 < m->(∀r H',0<=r->r < m->aV H H'->Q (.int r) H')->pT vs H Q E
theorem qr3 (hp:0 < a0/\0 < a1/\0 < a2/\0 < a3/\0 < a4/\0 < a5/\0 < a6/\0 < a7/\0 < a8/\0 < a9)(hm:a0 < 1000000/\a1 < 1000000/\a2 < 1000000/\a3 < 1000000/\a4 < 1000000/\a5 < 1000000/\a6 < 1000000/\a7 < 1000000/\a8 < 1000000/\a9 < 1000000)(h0:0<=t)(h9:t<=9):
  ∃v,atI [V.int a0,.int a1,.int a2,.int a3,.int a4,.int a5,.int a6,.int a7,.int a8,.int a9] t=some (.int v)/\0 < v/\v < 1000000:=by
 have:t=0\/t=1\/t=2\/t=3\/t=4\/t=5\/t=6\/t=7\/t=8\/t=9:=by lia
 rcases this with rfl | rfl | rfl | rfl | rfl | rfl | rfl | rfl | rfl | rfl
 all_goals exact⟨_,rfl,(),()⟩
abbrev l48:List Int:=[48271,69621,16807,40692,39373,30269,27183,60013,51749,35969]
abbrev l99:List Int:=[999983,999979,999961,999959,999953,999931,999917,999907,999883,999863]
@[irreducible] def md1:Stmt:=(cV Cb).getD 1 (.Pass ⟨0,0,0,0⟩)
@[irreducible] def md2:Stmt:=(cV Cb).getD 2 (.Pass ⟨0,0,0,0⟩)
def md0:Stmt:=(cV Cb).getD 0 (.Pass ⟨0,0,0,0⟩)
def md3:Stmt:=(cV Cb).getD 3 (.Pass ⟨0,0,0,0⟩)
def md4:Stmt:=(cV Cb).getD 4 (.Pass ⟨0,0,0,0⟩)
theorem qo9:cV Cb=[md0,md1,md2,md3,md4]:=by unfold md1 md2;rfl
theorem qe8:∃(q q2 p2 p3 p:Pos) (l:List (Int × _ × Pos)),md1=.Assign [.Name "_law_by" q] (.Subscript (.List (l.map λq=>Expr.Constant (.int q.1) q.2.1 q.2.2) p2) (.Name "_law_turn" q2) p3) p/\l.map (λq=>V.int q.1)=l48.map V.int:=by
 unfold md1;exact⟨_,_,_,_,_,[(48271,_,_),(69621,_,_),(16807,_,_),(40692,_,_),(39373,_,_),(30269,_,_),(27183,_,_),(60013,_,_),(51749,_,_),(35969,_,_)],rfl,rfl⟩
theorem qa9:∃(q q2 p2 p3 p:Pos) (l:List (Int × _ × Pos)),md2=.Assign [.Name "_law_prime" q] (.Subscript (.List (l.map λq=>Expr.Constant (.int q.1) q.2.1 q.2.2) p2) (.Name "_law_turn" q2) p3) p/\l.map (λq=>V.int q.1)=l99.map V.int:=by
 unfold md2;exact⟨_,_,_,_,_,[(999983,_,_),(999979,_,_),(999961,_,_),(999959,_,_),(999953,_,_),(999931,_,_),(999917,_,_),(999907,_,_),(999883,_,_),(999863,_,_)],rfl,rfl⟩
abbrev qe5:Stmt:=top 86
theorem Jj:aR ["_law_cell","_law_turn","_law_left","_law_k"] ["_law_cell","_law_turn"] (aI qe5):=sK9
inductive Su (vs:List V) (H:Hp) (Q:VK) (E:XK):Prop where
 |mk (c t:Int):vs=[.int c,.int t]->0<=t->t<=9->(∀r:Int,-1000000000000<=r->r<=1000000000000->Q (.int r) H)->Su vs H Q E
theorem p12:(10:Int) ^ (12:Int).toNat=1000000000000:=by decide
abbrev Cs:Stmt:=top 87
theorem qE:aR ["_law_top","_law_bottom","_law_one","_law_other"] ["_law_top","_law_bottom"] (aI Cs):=sK9
theorem pI.same (s:aV H H')(h:pI H Q p):pI H' Q p:=λa H2 s2 e=>h a H2 (s.trans s2) e
abbrev Hc:Stmt:=top 88
theorem Ur:aR ["_law_one","_law_other"] ["_law_one","_law_other"] (aI Hc):=sK9
abbrev Cz:Stmt:=top 89
theorem Of:aR ["_law_one","_law_other"] ["_law_one","_law_other"] (aI Cz):=sK9
abbrev Pu:Stmt:=top 90
theorem Rs:aR ["_law_found","_law_due","_law_number"] ["_law_found","_law_due"] (aI Pu):=sK9
inductive Fw (K:Frag) (vs:List V) (H:Hp) (Q:VK) (E:XK):Prop where
 |mk (a b:Addr) (p:Q2):vs=[.ref a,.ref b]->Fq K H a p->Fq K H b p->Q (.bl true) H->Fw K vs H Q E
inductive Iv (vs:List V) (H:Hp) (Q:VK) (E:XK):Prop where
 |mk (c:Int):vs=[.int c]->(∀p,Low p/\0 < p.1/\Bd 4 p->pI H Q p)->Iv vs H Q E
abbrev So:Stmt:=top 91
theorem qj2:aR ["_law_cell"] ["_law_cell"] (aI So):=sK9
inductive pS (CN:Addr) (K:Frag) (vs:List V) (H:Hp) (Q:VK) (E:XK):Prop where
 |mk (m:Int) (r:Addr) (us:List V) (ds:List RD):vs=[.int m,.ref r]->1<=m->m<=20->SqL K H r us->Rts K H us ds->(∀d∈ds,Ag m d)->ds.length<=40->(∀n l H',aV H H'->H l=none->dG CN K H' n l m ds->Q (.ref n) H')->pS CN K vs H Q E
abbrev Ha:Stmt:=top 92
theorem Cg:aR ["_law_many","_law_rows","_law_net_here","_law_row"] ["_law_many","_law_rows"] (aI Ha):=sK9
theorem Jf {α β:Type}(f:α->β)(l:List α)(i:Nat)(e:α):(l.take i++e :: l.drop i).map f=(l.map f).take i++f e :: (l.map f).drop i:=by
 rw[map_append,map_cons,map_take,map_drop]
theorem Rts.take:∀{xs:List V} {ds:List RD} (n:Nat),Rts K H xs ds->Rts K H (xs.take n) (ds.take n)
 |_,_,0,_=>.nil
 |_,_,_+1,.nil=>.nil
 |_,_,n+1,.cons h f q=>.cons h f (Rts.take n q)
theorem Rts.drop:∀{xs:List V} {ds:List RD} (n:Nat),Rts K H xs ds->Rts K H (xs.drop n) (ds.drop n)
 |_,_,0,h=>h
 |_,_,_+1,.nil=>.nil
 |_,_,n+1,.cons _ _ q=>Rts.drop n q
theorem Lb {α:Type}(l:List α)(i:Nat)(e:α):(l.take i++e :: l.drop i).length=l.length+1:=by
 rw[List.length_append,length_cons,length_take,length_drop];lia
theorem zR (k:Kd):decide (V.str k.wd=V.str "piece")=decide (k=.pc):=dF k .pc
inductive Sj (K:Frag) (vs:List V) (H:Hp) (Q:VK) (E:XK):Prop where
 |mk (r e:Addr) (c:Int) (k:Kd) (us:List V) (ds:List RD) (i j:Int):vs=[.ref r,.int c,.str k.wd,.ref e]->H r=some (.lst us)->Rts K H us ds->ds.length<=60->SqT K H e [.int i,.int j]->(∀y t (d:RD) H' H'',y<=us.length->aV H H'->d.1=k->((d.2.1=i/\d.2.2.1=j)\/(d.2.1=j/\d.2.2.1=i))->Low d.2.2.2->Bd 7 d.2.2.2->Mq.B 4 d.2.2.2.2->(k=.pc->0 < d.2.2.2.1/\Bd 4 d.2.2.2)->H''=upd H' r (.lst (us.take y++.ref t :: us.drop y))->Rts K H'' (us.take y++.ref t :: us.drop y) (ds.take y++d :: ds.drop y)->Q .non H'')->Sj K vs H Q E
abbrev qi4:Stmt:=top 93
theorem Kb:aR ["_law_rows","_law_cell","_law_word","_law_ends","_law_size_here"] ["_law_rows","_law_cell","_law_word","_law_ends"] (aI qi4):=sK9
def kws (ks:List Kd):List V:=ks.map λk=>V.str k.wd
theorem qd5 (h0:0<=r)(h:r < (ks.length:Int)):∃k,k∈ks/\atI (kws ks) r=some (.str (Kd.wd k)):=by
 obtain⟨n,rfl⟩:∃n:Nat,r=(n:Int):=⟨r.toNat,()⟩
 have hn:n < ks.length:=by lia
 refine⟨ks[n],getElem_mem hn,cO ?_⟩;unfold kws;rw[getElem?_map,getElem?_eq_getElem hn];rfl
theorem Dh {m t k:Nat}(m1:1<=m):Int.fmod ((k:Int)+(t:Int)) (m:Int)=((rot m t k:Nat):Int):=by
 rw[Int.fmod_eq_emod_of_nonneg _ ()];show ((k:Int)+(t:Int)) % (m:Int)=(((k+t) % m:Nat):Int)
 rw[Int.natCast_emod,Int.natCast_add]
theorem qr9 (xs:List V)(j:Nat):(jC xs (some 8) (some (8+(j:Int)))).length<=j:=by
 unfold jC;have h1:HT.sIx xs.length xs.length (some (8+(j:Int)))=min (8+j) xs.length:=by
  simp only[HT.sIx];split<;>lia
 have h2:HT.sIx xs.length 0 (some 8)=min 8 xs.length:=by simp[HT.sIx]
 rw[h1,h2,length_take,length_drop];lia
theorem Vf (m1:1<=m)(k1:1<=k)(km:k < m)(jk:j < k)(npu:d.1≠.pu)(lp:Low d.2.2.2)(bp:Bd 7 d.2.2.2)(hpc:d.1=.pc->0 < d.2.2.2.1/\Bd 4 d.2.2.2)(hij:(d.2.1=((rot m t k:Nat):Int)/\d.2.2.1=((rot m t j:Nat):Int))\/(d.2.1=((rot m t j:Nat):Int)/\d.2.2.1=((rot m t k:Nat):Int))):Qf m t (some (k,j),d):=by
 have a:=Oy (t:=t) m1 k;have b:=Oy (t:=t) m1 j;refine⟨?_,lp,bp,hpc,(λ_ z=>by cases z),λk' j' e=>?_⟩
 .rcases hij with ⟨x,y⟩ | ⟨x,y⟩<;>(show dD (m:Int) d.2.1 d.2.2.1;rw[x,y];exact⟨(),(),(),()⟩)
 .have e:=Option.some.inj e;injection e with e1 e2
  subst e1 e2;exact⟨npu,k1,km,jk,hij⟩
theorem Ww {m t:Nat}(pt:dD (m:Int) d.2.1 d.2.2.1)(nho:d.1≠.ho)(lp:Low d.2.2.2)(bp:Bd 7 d.2.2.2)(hpc:d.1=.pc->0 < d.2.2.2.1/\Bd 4 d.2.2.2):Qf m t (none,d):=⟨pt,lp,bp,hpc,λh=>absurd h nho,λk j e=>by cases e⟩
theorem Um {L:List RD}(h:∀x∈L,Mq.B 4 x.2.2.2.2)(hd:Mq.B 4 d.2.2.2.2):∀x∈L.take y++d :: L.drop y,Mq.B 4 x.2.2.2.2:=λx hx=>by
 rcases mem_append.mp hx with a | a
 .exact h x (mem_of_mem_take a)
 .rcases mem_cons.mp a with rfl | a
  .exact hd
  .exact h x (mem_of_mem_drop a)
inductive Ic (K:Frag) (vs:List V) (H:Hp) (Q:VK) (E:XK):Prop where
 |mk (a w:Addr) (ns:List Int) (m ms:Nat) (ks:List Kd):vs=[.ref a,.int (m:Int),.int (ms:Int),.ref w]->SqL K H a (ns.map V.int)->ns.length<=63->1<=m->m<=20->ms<=20->SqL K H w (kws ks)->1<=ks.length->(∀k∈ks,k≠.pu)->(∀r us t E H',aV H H'->H r=none->H' r=some (.lst us)->Rts K H' us (rwH E)->Hng m t m E->E.length<=m - 1+ms->(∀d∈rwH E,Mq.B 4 d.2.2.2.2)->Q (.ref r) H')->Ic K vs H Q E
abbrev Rt:Stmt:=top 94
theorem lK:aR ["_law_script","_law_many","_law_most","_law_words","_law_rows","_law_turn","_law_k","_law_cell","_law_ends"] ["_law_script","_law_many","_law_most","_law_words"] (aI Rt):=sK9
inductive Ch (K:Frag) (vs:List V) (H:Hp) (Q:VK) (E:XK):Prop where
 |mk (c:Int) (k:Kd):vs=[.int c,.str k.wd]->(∀p:Q2,Low p->Bd 31 p->p.2.natAbs<=12->(k=.pc->0 < p.1)->pI H Q p)->Ch K vs H Q E
abbrev Qs:Stmt:=top 96
theorem Bb:aR ["_law_cell","_law_word","_law_top"] ["_law_cell","_law_word"] (aI Qs):=sK9
theorem jM (h:gR X CN CA CW K H x m ds):∃dx a n,H x=some (.ins CW dx (fU a n)):=by
 obtain⟨dx,a,n,l,dxa,li,le,fo,dn,xs,ys,ts,lv,fl,hw,_⟩:=h.e;exact⟨dx,a,n,hw⟩
def ExA (H:Hp)(a C:Addr)(od:Option Addr):Prop:=H a=some (pV a (.ref C) od)/\∀dx,od=some dx->∃fs,H dx=some (.xd fs)
theorem ExA.same (s:aV H H')(h:ExA H a C od):ExA H' a C od:=⟨s _ _ h.1,λdx e=>let ⟨fs,h⟩:=h.2 dx e;⟨fs,s _ _ h⟩⟩
theorem dL:oX X (.builtin "isinstance") (λxs H Q=>∃a C od c cv b,xs=[.ref a,c]/\ExA H a C od/\zV X.K C/\cG c cv/\(∀u,cG c u->u=cv)/\W.kitOne X.K (.ref C) cv=some b/\Q (.bl b) H):=by
 intro pins s σ H xs us Q I r h;obtain⟨a,C,od,c,cv,b,rfl,⟨ea,ed⟩,ex,rc,ru,k,q⟩:=h
 cases od with
 |none=>exact Lu pins s σ H _ us Q I r ⟨a,C,c,cv,b,rfl,ea,ex,rc,ru,k,q⟩
 |some dx=>
  obtain⟨fs,hd⟩:=ed dx rfl;exact Hb pins s σ H _ us Q I r ⟨a,C,dx,fs,c,cv,b,rfl,ea,hd,ex,rc,ru,k,q⟩
inductive Pbs (K:Frag) (H:Hp):List V->List (Str × Bool)->Prop where
 |nil:Pbs K H [] []
 |cons {t:Addr} {xs:List V} {p:Str × Bool} {ps:List (Str × Bool)} (h:SqT K H t [.str p.1,.bl p.2]) (r:Pbs K H xs ps):Pbs K H (.ref t :: xs) (p :: ps)
theorem Pbs.same (s:aV H H'):∀{xs:List V} {ps:List (Str × Bool)},Pbs K H xs ps->Pbs K H' xs ps
 |_,_,.nil=>.nil
 |_,_,.cons h r=>.cons (s.seqT h) (r.same s)
theorem Pbs.app:∀{xs ys:List V} {ps qs:List (Str × Bool)},Pbs K H xs ps->Pbs K H ys qs->Pbs K H (xs++ys) (ps++qs)
 |_,_,_,_,.nil,h=>h
 |_,_,_,_,.cons h r,g=>.cons h (r.app g)
theorem Pbs.length:∀{xs:List V} {ps:List (Str × Bool)},Pbs K H xs ps->xs.length=ps.length
 |_,_,.nil=>rfl
 |_,_,.cons _ r=>congrArg (· + 1) r.length
theorem Pbs.at:∀{xs:List V} {ps:List (Str × Bool)} {i:Nat} {x:V},Pbs K H xs ps->xs[i]?=some x->∃t p,x=.ref t/\ps[i]?=some p/\SqT K H t [.str p.1,.bl p.2]
 |_,_,0,_,.cons h _,e=>⟨_,_,(Option.some.inj e).symm,rfl,h⟩
 |_,_,i+1,_,.cons _ r,e=>Pbs.at (i:=i) r e
abbrev kNm:List Str:=["NoNumber","NoPoint","NoSize","NoRow","NoWord","NoName","NoStreams","NoRoad","TooMany","Lame","Ring","Floats","Held"]
structure KiC (K:Frag) (mg:Str->Option Value) (C:Addr) (j:Nat):Prop where
 ex:zV K C
 ve:W.kitOne K (.ref C) (.type "ValueError")=some true
 ks:∀i n,kNm[i]?=some n->∃c,mg n=some (.ref c)/\W.kitOne K (.ref C) (.ref c)=some (decide (i=j))
inductive Cq (K:Frag) (mg:Str->Option Value) (vs:List V) (H:Hp) (Q:VK) (E:XK):Prop where
 |mk (a C:Addr) (od:Option Addr) (j:Nat) (n:Str):vs=[.ref a]->ExA H a C od->KiC K mg C j->kNm[j]?=some n->(∀l H',aV H H'->H l=none->H' l=some (.lst [.str n])->Q (.ref l) H')->Cq K mg vs H Q E
theorem oW:(["_law_name","_law_truth"]:List Str).Nodup:=by decide +kernel
theorem qb0 (h:kNm[j]?=some n):((((List.range 13).map λi=>(kNm.getD i "",decide (i=j))).filter λp=>p.2).map λp=>V.str p.1)=[.str n]:=by
 have hj:j < 13:=(List.getElem?_eq_some_iff.mp h).1;have:j=0\/j=1\/j=2\/j=3\/j=4\/j=5\/j=6\/j=7\/j=8\/j=9\/j=10\/j=11\/j=12:=by lia
 rcases this with rfl | rfl | rfl | rfl | rfl | rfl | rfl | rfl | rfl | rfl | rfl | rfl | rfl<;>(cases h;rfl)
abbrev sKi:Stmt:=top 95
theorem Hg:aR ["_law_kept","_law_found"] ["_law_kept"] (aI sKi):=sK9
structure OhC (K:Frag) (mg:Str->Option Value) (CR1 CZ:Addr):Prop where
 oe:∃CO,mg "OhmError"=some (.ref CO)/\W.exmOne K (.ref CR1) (.ref CO)=some true/\W.exmOne K (.ref CZ) (.ref CO)=some true
inductive zX (CN CA CW CR1 CZ:Addr) (K:Frag) (vs:List V) (H:Hp) (Q:VK) (E:XK):Prop where
 |mk (w:Addr) (v z:V) (m:Nat) (L:Int) (ds:List RD) (o:Option Int) (oz:Option Q2):vs=[.ref w,v,z]->gR [] CN CA CW K H w m ds->Dw m L ds->Pn K H ds.length v o->Zv K H z oz->Bz oz->(o=none->∀t a H',aV H H'->SqT K H' t [.non,.ref a]->H' a=some (pV a (.ref CR1) none)->Q (.ref t) H')->(∀(k:Nat) d,o=some (k:Int)->ds[k]?=some d->(okz d.1 oz=false->∀t a H',aV H H'->SqT K H' t [.non,.ref a]->H' a=some (pV a (.ref CZ) none)->Q (.ref t) H')/\∀p,oz=some p->okz d.1 oz=true->SzW L d.1 p/\
  ∀t r q H',bG w H H'->SqT K H' t [.ref r,.non]->Fq K H' r q->Se m ds k d p q->(∀X:List Addr,(∀y∈X,∃o,H y=some o)->gR X CN CA CW K H' w m (szS ds k p))->(∀X:List Addr,(∀y∈X,∃o,H y=some o)->kM X CA CW K H' w m (szS ds k p))->Q (.ref t) H')->zX CN CA CW CR1 CZ K vs H Q E
abbrev Rg:Stmt:=top 97
theorem sQ:aR ["_law_watch","_law_k","_law_size_here","_law_kept","_law_found","e"] ["_law_watch","_law_k","_law_size_here"] (aI Rg):=sK9
inductive Ua (CN CA CW:Addr) (K:Frag) (vs:List V) (H:Hp) (Q:VK) (E:XK):Prop where
 |mk (x r:Addr) (us:List V) (m:Nat) (L:Int) (ds:List RD) (f:Bool):vs=[.ref x,.int (m:Int),.ref r,.bl f]->gR [] CN CA CW K H x m ds->Dw m L ds->SqL K H r us->Rts K H us ds->(∀H',aV H H'->Q (.bl true) H')->Ua CN CA CW K vs H Q E
abbrev qk4:Stmt:=top 98
theorem Yv:aR ["_law_watch","_law_many","_law_rows","_law_turned","_law_answer"] ["_law_watch","_law_many","_law_rows","_law_turned"] (aI qk4):=sK9
theorem Az (h1:SqL K H a xs)(f1:Rts K H xs ds)(h2:SqL K H b [])(z:Q (.bl (if neg then !ds.isEmpty else ds.isEmpty)) H):vS K neg (.ref a) (.ref b) H Q:=by
 refine⟨_,_,.lst h1 f1.dat,.lst h2 .nil,xD ds,rfl,?_,?_⟩
 .have:(PyData.list []).depth<=1:=by decide
  lia
 .cases ds<;>exact z
theorem Ji (h1:SqL K H a [.str n])(h2:SqL K H b [.str n])(hl:(PyData.list [.str n]).canLay0=true)(z:Q (.bl (!neg)) H):vS K neg (.ref a) (.ref b) H Q:=
 Gr (d:=.list [.str n]) (.lst h1 (.cons (.str _) .nil)) (.lst h2 (.cons (.str _) .nil)) hl (by simp[PyData.depth,PyData.depthAll]) z
theorem gc2 (a b:Int):gc (2*a) (2*b)≠1:=by
 unfold gc;rw[Int.gcd_mul_left];have:(2:Int).natAbs=2:=rfl;rw[this];lia
theorem qg1 (n:Nat)(ht:H t=some (.tup xs))(h0:0<=j)(h5:j < 5):∃x:V,atI [V.int (-1),.int (n:Int),.bl true,.non,.ref t] j=some x/\∀H',aV H H'->Pn K H' (n:Int) x none:=by
 have:j=0\/j=1\/j=2\/j=3\/j=4:=by lia
 rcases this with rfl | rfl | rfl | rfl | rfl
 .exact⟨_,rfl,λ_ _=>.no ()⟩
 .exact⟨_,rfl,λ_ _=>.no ()⟩
 .exact⟨_,rfl,λ_ _=>.ty (.bl _) (by simp[jI])⟩
 .exact⟨_,rfl,λ_ _=>.ty .non (by simp[jI])⟩
 .exact⟨_,rfl,λH' s=>.ty (.tup (s _ _ ht)) (by simp[jI])⟩
theorem qh4 (b1:1<=b)(hu:SqT K H u [.int (2*a),.int (2*b)])(hl:H l=some (.lst xs))(ht:SqT K H t [.int 1,.int 0])(h0:0<=j)(h5:j < 5):∃x:V,atI [V.ref u,.int i,.ref l,.non,.ref t] j=some x/\∀H',aV H H'->Zv K H' x none:=by
 have:j=0\/j=1\/j=2\/j=3\/j=4:=by lia
 rcases this with rfl | rfl | rfl | rfl | rfl
 .exact⟨_,rfl,λH' s=>.fb (p:=(2*a,2*b)) (s.seqT hu) (.inr ⟨by show (1:Int)<=2*b;lia,gc2 a b⟩)⟩
 .exact⟨_,rfl,λ_ _=>.ty (.of (.int _)) rfl⟩
 .exact⟨_,rfl,λH' s=>.ty (.of (.lst (s _ _ hl))) rfl⟩
 .exact⟨_,rfl,λ_ _=>.ty (.of .non) rfl⟩
 .exact⟨_,rfl,λH' s=>.fb (p:=(1,0)) (s.seqT ht) (.inl (by show (0:Int) < 1;decide))⟩
inductive Rx (CN CA CW:Addr) (K:Frag) (vs:List V) (H:Hp) (Q:VK) (E:XK):Prop where
 |mk (x r:Addr) (c:Int) (us:List V) (m:Nat) (L:Int) (ds:List RD):vs=[.ref x,.int (m:Int),.ref r,.int c]->gR [] CN CA CW K H x m ds->Dw m L ds->SqL K H r us->Rts K H us ds->(∀H',aV H H'->Q (.bl true) H')->Rx CN CA CW K vs H Q E
abbrev qc7:Stmt:=top 99
theorem zF:aR ["_law_watch","_law_many","_law_rows","_law_cell","_law_size_here","_law_odd","_law_at","_law_bad"] ["_law_watch","_law_many","_law_rows","_law_cell"] (aI qc7):=sK9
theorem kC:(["_law_one","_law_two","_law_found"]:List Str).Nodup:=by decide +kernel
theorem qn2 {a:Int}(h:1<=a)(h2:a < 16):a ∣ 360360:=by
 have:a=1\/a=2\/a=3\/a=4\/a=5\/a=6\/a=7\/a=8\/a=9\/a=10\/a=11\/a=12\/a=13\/a=14\/a=15:=by lia
 rcases this with rfl | rfl | rfl | rfl | rfl | rfl | rfl | rfl | rfl | rfl | rfl | rfl | rfl | rfl | rfl<;>decide +kernel
structure Cl (m n:Nat) (ds:List RD):Prop where
 e:∃L,Dw m L ds/\Mq.B n L/\ds.length<=10
theorem qe7 (h:Hng m t m E)(m4:m<=4)(le:E.length<=m - 1+7)(b4:∀d∈rwH E,Mq.B 4 d.2.2.2.2):Cl m 19 (rwH E):=by
 obtain⟨DZ,_,w7,len,bds⟩:=h.dz m4 le;have lE:(rwH E).length=E.length:=length_map ..;refine⟨360360,⟨DZ.o,DZ.m5,DZ.w8,∅,Mq.B.mono (n:=19) (by show (360360:Nat) < 2 ^ 19;decide) (),λd hd=>⟨(DZ.ok d hd).1,?_⟩,()⟩,by show (360360:Nat) < 2 ^ 19;decide,()⟩;have ro:=(DZ.ok d hd).1;have lp:=ro.2.2.2.2.1.pos;have b2:d.2.2.2.2.natAbs < 2 ^ 4:=b4 d hd;refine⟨ro.2.2.2.2.1,(bds d hd).1.mono (),λc=>⟨(DZ.dv d hd c).1,?_,(DZ.dv d hd c).2.2.2⟩,λc=>qn2 lp ()⟩;have:=(DZ.dv d hd c).1;have b1:d.2.2.2.1.natAbs < 2 ^ 4:=((bds d hd).2 c).a;exact qn2 () ()
theorem Cl.new (h:Cl m n ds)(n119:n<=119)(s:NwS k p):∃L,Dw m L ds/\SzW L k p/\Mq.B (n+31) L/\ds.length<=10:=by
 obtain⟨L,D,B,l10⟩:=h.e;obtain⟨c1,cB⟩:=s.c1;have L1:=D.L1;have mp:=Int.mul_pos (show 0 < L by lia) (show 0 < cwD k p by lia);exact⟨L*cwD k p,D.mul () ((B.mul cB).mono ()) ⟨_,rfl⟩,s.sz ⟨L,Int.mul_comm _ _⟩,B.mul cB,l10⟩
theorem qd4 (hd:ds[k]?=some d):(szS ds k p).length=ds.length:=by
 rw[rW hd,length_set]
theorem qd6 (D:Dw m L ds)(hd:ds[k]?=some d)(sz:SzW L d.1 p)(AV:rV m ds lv fl)(S:qn6 m ds k d hp)(F:Se m ds k d p q)(AW:rV m (szS ds k p) lw gl):lw=zipWith (λa b=>kT a (jB q b)) lv hp:=by
 have o:=D.o;have m1:=o.m1;have D2:=D.set hd sz;have bwl:=D.bwle;obtain⟨ps,elv,_,lps,lops,OV,sv⟩:=AV.e;obtain⟨qs,elw,_,lqs,loqs,_,sw⟩:=AW.e;have e1:wd m ds=m - 1+bO ds:=rfl;have e2:wd m (szS ds k p)=m - 1+bO (szS ds k p):=rfl;obtain⟨s,ss,es⟩:=S.sv;have lh:=S.len;have lvl:lv.length=m:=by rw[elv];exact oF m1 ()
 have lwl:lw.length=m:=by rw[elw];exact oF m1 ()
 have lvo:eI lv:=by rw[elv];exact nH lops
 have lwo:eI lw:=by rw[elw];exact nH loqs
 have sh:=Sv.shift o hd sv ss (F.fv _ _ sv ss);refine ext_getElem (by rw[length_zipWith];lia) λi hi hi'=>?_;have im:i < m:=by lia
 have ev:=Sv.uni D2.o sw sh i (by unfold wd;lia);rw[getElem_zipWith];have la:=lvo _ (getElem_mem (show i < lv.length by lia));have lb:=S.lo _ (getElem_mem (show i < hp.length by lia));have lt:=oA F.lo.pos lb.pos;refine Bv (lwo _ (getElem_mem hi)) (rB la.pos lt.pos) ?_;rw[qO la.pos lt.pos,rQ F.lo.pos lb.pos];have a1:Mq.val lw[i]=uP qs i:=by
  have:=nY (m:=m) (ps:=qs) () im;rw[<- elw,getD_eq_getElem?_getD,getElem?_eq_getElem ()] at this;exact this
 have a2:Mq.val lv[i]=uP ps i:=by
  have:=nY (m:=m) (ps:=ps) () im;rw[<- elv,getD_eq_getElem?_getD,getElem?_eq_getElem ()] at this;exact this
 have a3:Mq.val hp[i]=s i:=by
  have:=es i im;rw[getD_eq_getElem?_getD,getElem?_eq_getElem ()] at this;exact this
 rw[a1,a2,a3];exact ev
theorem qi9 (D:Dw m L ds)(AV:rV m ds lv fl):lv.length=m/\eI lv/\∀a∈lv,Bd 1763 a:=by
 have m1:=D.o.m1;obtain⟨ps,elv,_,lps,lops,OV,sv⟩:=AV.e;have e1:wd m ds=m - 1+bO ds:=rfl;have lvo:eI lv:=by rw[elv];exact nH lops
 have OVl:Ovr (bw 190 (wd m ds)) lv:=by rw[elv];exact Am OV
 exact⟨by rw[elv];exact oF m1 (),lvo,λa ha=>(Ovr.minus OVl lvo ha ha).2.1.mono D.bwle⟩
theorem Nf {f:Q2->Q2->Q2}(hx:xs[i]?=some x)(hy:ys[i]?=some y):(zipWith f xs ys).take (i+1)=(zipWith f xs ys).take i++[f x y]:=by
 have:(zipWith f xs ys)[i]?=some (f x y):=by rw[getElem?_zipWith,hx,hy]
 rw[take_add_one,this];rfl
inductive Pp (CN CA CW:Addr) (K:Frag) (vs:List V) (H:Hp) (Q:VK) (E:XK):Prop where
 |mk (x r:Addr) (c:Int) (us:List V) (m n:Nat) (ds:List RD):vs=[.ref x,.int (m:Int),.ref r,.int c]->gR [r] CN CA CW K H x m ds->kM [r] CA CW K H x m ds->Cl m n ds->n<=119->H r=some (.lst us)->Rts K H us ds->(∀us' ds' H',SWR x r H H'->H' r=some (.lst us')->Rts K H' us' ds'->Cl m (n+31) ds'->gR [r] CN CA CW K H' x m ds'->kM [r] CA CW K H' x m ds'->Q (.bl true) H')->Pp CN CA CW K vs H Q E
abbrev qb1:Stmt:=top 100
theorem tI:aR ["_law_watch","_law_many","_law_rows","_law_cell","_law_at","_law_size_here","_law_ahead","_law_shape","_law_found","_law_kept","_law_due"] ["_law_watch","_law_many","_law_rows","_law_cell"] (aI qb1):=sK9
def lqd (ps:List Q2):PyData:=.list (ps.map qd)
theorem Dj:∀X:List (List Q2),PyData.canLayAll0 (X.map lqd)=true
 | []=>rfl
 |r :: X=>by
  show (PyData.canLayAll0 (r.map qd) && PyData.canLayAll0 (X.map lqd))=true;rw[Dj X,qY];rfl
theorem vH:∀X:List (List Q2),PyData.depthAll (X.map lqd)<=2
 | []=>by simp[PyData.depthAll]
 |r :: X=>by
  have h:=vH X;have h1:=sS r;simp only[map_cons,PyData.depthAll];have:(lqd r).depth<=2:=by simp only[lqd,PyData.depth];lia
  lia
theorem qa8 (xs:List V)(i j:Nat):(jC xs (some (i:Int)) (some (j:Int))).length<=j - i:=by
 unfold jC;rw[HT.sIx_nat,HT.sIx_nat,length_take];lia
theorem Kh (h:Fmd K H0 D H us M):rF K H us (M.map lqd):=by
 induction h with
 |nil=>exact .nil
 |cons n0 ne h f q ih=>exact .cons (.lst (SqL.of h) f.dat) ih
theorem Uk (h1:SqL K H a us)(h2:SqL K H b vs)(f1:Fmd K H0 D H us M)(f2:Fmd K H1 E H vs M)(z:Q (.bl (!neg)) H):vS K neg (.ref a) (.ref b) H Q:=
 Gr (d:=.list (M.map lqd)) (.lst h1 (Kh f1)) (.lst h2 (Kh f2)) (Dj M) (by have:=vH M;simp only[PyData.depth];lia) z
structure FsT (CN:Addr) (K:Frag) (H:Hp) (m:Nat) (ds:List RD) (t wt r:Addr):Prop where
 e:∃(n l l2 dn:Addr) (ts us:List V),SqT K H t [.ref n,.ref l2]/\H n=some (.ins CN dn (gP (m:Int) l))/\H l=some (.lst ts)/\Rts K H ts ds/\H l2=some (.lst us)/\Rts K H us ds/\n≠wt/\l≠r/\l2≠r
theorem FsT.same (s:aV H H')(h:FsT CN K H m ds t wt r):FsT CN K H' m ds t wt r:=by
 obtain⟨n,l,l2,dn,ts,us,h1,h2,h3,h4,h5,h6,h7⟩:=h.e;exact⟨n,l,l2,dn,ts,us,s.seqT h1,s _ _ h2,s _ _ h3,h4.same s,s _ _ h5,h6.same s,h7⟩
theorem FsT.wr (hx:H wt=some (.ins C dx fs))(hr:H r=some (.lst vs))(s:SWR wt r H H')(h:FsT CN K H m ds t wt r):FsT CN K H' m ds t wt r:=by
 obtain⟨n,l,l2,dn,ts,us,h1,h2,h3,h4,h5,h6,h7,h8,h9⟩:=h.e;exact⟨n,l,l2,dn,ts,us,Oc hx hr s h1,s _ _ h2 h7 (cZ h2 hr (λz=>by cases z)),Zd hx s h8 h3,Yn hx hr s h4,Zd hx s h9 h5,Yn hx hr s h6,h7,h8,h9⟩
structure LwS (CN CA CW:Addr) (K:Frag) (H:Hp) (m n:Nat) (ds ds0:List RD) (r w t:Addr) (us:List V):Prop where
 cl:Cl m n ds
 er:H r=some (.lst us)
 hR:Rts K H us ds
 wa:gR [r] CN CA CW K H w m ds
 wp:kM [r] CA CW K H w m ds
 fs:FsT CN K H m ds0 t w r
theorem LwS.same {r w t:Addr}(s:aV H H')(h:LwS CN CA CW K H m n ds ds0 r w t us):LwS CN CA CW K H' m n ds ds0 r w t us:=⟨h.cl,s _ _ h.er,h.hR.same s,h.wa.same s,h.wp.same s,h.fs.same s⟩
theorem qo5:Low (1,97):=⟨∅,∅⟩
theorem qo7:Low (1,1):=⟨∅,∅⟩
theorem Zq {m:Nat}(h:1<=m):Ag (m:Int) (.pu,0,0,(1,1)):=by
 have a:(0:Int) < (m:Int):=by lia
 exact⟨∅,a,∅,a,qo7,(λz=>by cases z),Bd.mono (n:=1) (m:=1000) ⟨by show (1:Nat) < 2 ^ 1;decide,by show (1:Nat) < 2 ^ 1;decide⟩ ()⟩
inductive Ew (K:Frag) (vs:List V) (H:Hp) (Q:VK) (E:XK):Prop where
 |mk (a:Addr) (ns:List Int):vs=[.ref a]->SqL K H a (ns.map V.int)->ns.length<=63->(∀H',Q (.bl true) H')->Ew K vs H Q E
abbrev Da:Stmt:=top 101
theorem tN:aR ["_law_script","_law_many","_law_rows","_law_net_here","_law_watch","_law_first","_law_cell","_law_told_here"] ["_law_script"] (aI Da):=sK9
theorem Wd (F:aL P w K mg base CX0 2 g gd ["thing","bound"] (Jz K)):aL P w K mg base CX0 2 g gd ["thing","bound"] qh0:=
 F.weak λvs H Q E h=>by
  obtain⟨i,b,rfl,h0,h1,q⟩:=h;exact⟨_,b,some i,rfl,.ok h0 h1,q⟩
theorem qm0 (F:aL P w K mg base (CX1 P w) 3 g gd ["k","count"] (Jv K CN)):aL P w K mg base CX0 3 g gd ["k","count"] qc5:=
 F.calm.weak λvs H Q E h=>by
  obtain⟨i,b,rfl,h0,h1,q⟩:=h;exact⟨_,b,some i,rfl,.ok h0 h1,λ_=>q,λz=>by cases z⟩
theorem qn5 (F:aL P w K mg base (CX1 P w) 4 g gd ["word","size"] (Ja K CZ)):aL P w K mg base CX0 4 g gd ["word","size"] (qh3 K):=
 F.calm.weak λvs H Q E h=>by
  obtain⟨k,z,p,rfl,fz,lp,h0,bp,q⟩:=h;refine⟨k,.ref z,some p,rfl,.fr fz lp,λp' e=>by cases e;exact bp,λ_=>q,λe=>?_⟩;have:okz k (some p)=true:=by
   cases k with
   |pc=>exact decide_eq_true (h0 rfl)
   |pu=>rfl
   |ho=>rfl
  rw[this] at e;cases e
theorem qq1 (F:aL P w K mg base (CX1 P w) 5 g gd ["self","k","size"] (oI CN K CR1 CZ)):aL P w K mg base CX0 5 g gd ["self","k","size"] (wD CN K):=
 F.calm.weak λvs H Q E h=>by
  obtain⟨n,l,z,m,q,ds,k,i,j,p0,p,rfl,nt,q0,hd,fz,lp,h0,bp,r⟩:=h;have hl:=(List.getElem?_eq_some_iff.mp hd).1;refine⟨n,l,m,ds,_,_,some q,some p,rfl,nt,.ok q0 (),.fr fz lp,(λp' e=>by cases e;exact bp),(λe=>by cases e),λq' d e hd'=>?_⟩
  cases e
  rw[hd] at hd'
  cases hd'
  refine⟨λe=>?_,λp' e _=>by cases e;exact r⟩;have:okz k (some p)=true:=by
   cases k with
   |pc=>exact decide_eq_true (h0 rfl)
   |pu=>rfl
   |ho=>rfl
  rw[this] at e;cases e
theorem Ev:∀{cs:List Value},W.kitAny K t cs=some false->∀c∈cs,W.kitOne K t c=some false
 | [],_,c,h=>by cases h
 |d :: r,e,c,h=>by
  unfold W.kitAny at e
  cases hd:W.kitOne K t d with
  |none=>rw[hd] at e;cases e
  |some b=>
   rw[hd] at e
   cases b with
   |true=>cases e
   |false=>
    rcases mem_cons.mp h with z | z
    .rw[z];exact hd
    .exact Ev e c z
theorem Yi {mg:Str->Option Value}(h0:mg "NoNumber"=some (.ref n0))(h1:mg "NoPoint"=some (.ref n1))(h2:mg "NoSize"=some (.ref n2))(h3:mg "NoRow"=some (.ref n3))(h4:mg "NoWord"=some (.ref n4))(h5:mg "NoName"=some (.ref n5))(h6:mg "NoStreams"=some (.ref n6))(h7:mg "NoRoad"=some (.ref n7))(h8:mg "TooMany"=some (.ref n8))(h9:mg "Lame"=some (.ref n9))(h10:mg "Ring"=some (.ref n10))(h11:mg "Floats"=some (.ref n11))(h12:mg "Held"=some (.ref n12)):∀(i:Nat) (n:Str),kNm[i]?=some n->∃c,[n0,n1,n2,n3,n4,n5,n6,n7,n8,n9,n10,n11,n12][i]?=some c/\mg n=some (.ref c):=λi n h=>by
 match i,h with
 |0,h=>cases h;exact⟨_,rfl,h0⟩
 |1,h=>cases h;exact⟨_,rfl,h1⟩
 |2,h=>cases h;exact⟨_,rfl,h2⟩
 |3,h=>cases h;exact⟨_,rfl,h3⟩
 |4,h=>cases h;exact⟨_,rfl,h4⟩
 |5,h=>cases h;exact⟨_,rfl,h5⟩
 |6,h=>cases h;exact⟨_,rfl,h6⟩
 |7,h=>cases h;exact⟨_,rfl,h7⟩
 |8,h=>cases h;exact⟨_,rfl,h8⟩
 |9,h=>cases h;exact⟨_,rfl,h9⟩
 |10,h=>cases h;exact⟨_,rfl,h10⟩
 |11,h=>cases h;exact⟨_,rfl,h11⟩
 |12,h=>cases h;exact⟨_,rfl,h12⟩
theorem Qe {cs:List Addr}(ex:zV K C)(ve:W.kitOne K (.ref C) (.type "ValueError")=some true)(hm:∀(i:Nat) (n:Str),kNm[i]?=some n->∃c,cs[i]?=some c/\mg n=some (.ref c))(hj:cs[j]?=some C)(hf:W.kitAny K (.ref C) ((cs.eraseIdx j).map Value.ref)=some false):KiC K mg C j:=
 ⟨ex,ve,λi n h=>by
  obtain⟨c,hc,mc⟩:=hm i n h;refine⟨c,mc,?_⟩
  by_cases e:i=j
  .subst e;rw[hj] at hc;cases hc;rw[decide_eq_true rfl];exact qC _ _
  .rw[decide_eq_false e];refine Ev hf _ (mem_map.mpr ⟨c,?_,rfl⟩);rw[mem_eraseIdx_iff_getElem?];exact⟨i,e,hc⟩⟩
instance:Inhabited World:=⟨⟨λ_ _=>0,{strHash:=λ_=>0,shareClass:=id,mergeTok:=id,idOf:=λ_=>0,idOfShared:=λ_ _=>0,followText:=λ_=>true,idOfImm:=λ_=>0}⟩⟩
set_option genInjectivity false in
structure CZ where
 P:Program
 w:World
 K:Frag
 mg:Str->Option Value
 (c_Row c_Piece c_Push c_Hold c_Net c_Answer c_Watch c_NoNumber c_NoPoint c_NoSize c_NoRow c_NoWord c_NoName c_NoStreams c_NoRoad c_TooMany c_Lame c_Ring c_Floats c_Held f1 f2 f3 f4 f5 f6 f7 f8 f9 f10 f11 f12 f13 f14 f15 f16 f17 f18 f19 f20 f21 f22 f23 f24 f25 f26 f27 f28 f29 f30 f31 f32 f33 f34 f35 f36 f37 f38 f39 f40 f41 f42 f43 f44 f45 f46 f47 f48 f49 f50 f51 f52 f53 f54 f55 f56 f57 f58 f59 f60 f61 f62 f63 f64 f65 f66 f67 f68 f69 f70 f71 f72 f73 f74 f75 f76 f77 f78 f79 f80 f81 f82 f83 f84 f85 f86 f87 f88 f89 f90 f91:Addr)
 (d1 d2 d3 d5 d6 d7 d8 d9 d10 d11 d12 d13 d14 d15 d16 d17 d18 d19 d20 d21 d22 d23 d24 d25 d26 d27 d28 d29 d30 d31 d32 d33 d34 d35 d36 d37 d38 d40 d41 d42 d43 d44 d45 d46 d47 d48 d49 d50 d51 d52 d53 d54 d55 d56 d57 d58 d59 d60 d61 d62 d63 d64 d65 d66 d67 d68 d69 d70 d71 d72 d73 d74 d75 d76 d77 d78 d79 d80 d81 d82 d83 d84 d85 d86 d87 d88 d89 d90:FuncData)
 (od4 an4:Option Addr)
 sl4:Array (Option Value)
 (oc4 kV4 dc4 pm4 cd4 ct4:Value)
 T4:Addr
 oT4:Value
 dT4:Option Addr
 nT4:Nat
 sT4:Array (Option Value)
 tk4:Tok
 (od39 an39:Option Addr)
 sl39:Array (Option Value)
 (oc39 kV39 dc39 pm39 cd39 ct39:Value)
 T39:Addr
 oT39:Value
 dT39:Option Addr
 nT39:Nat
 sT39:Array (Option Value)
 (od91 an91:Option Addr)
 sl91:Array (Option Value)
 (oc91 kV91 dc91 pm91 cd91 ct91:Value)
 (aO aN aJ:Addr)
 dJ:Option Addr
 nJ:Nat
 sJ:Array (Option Value)
 (tj0 tj1 tM tR:Tok)
noncomputable instance:Inhabited CZ:=⟨by constructor<;>exact default⟩
class GZ (c:outParam CZ):Prop where
 mc_NoSize:mI9 c.mg "NoSize" c.c_NoSize
 mc_NoRow:mI9 c.mg "NoRow" c.c_NoRow
 m1:mI9 c.mg "is_whole" c.f1
 F1:aU c.K "is_whole" "is_whole" Fo .none c.f1 c.d1
 m2:mI9 c.mg "greatest_common" c.f2
 F2:aU c.K "greatest_common" "greatest_common" sGc .none c.f2 c.d2
 m3:mI9 c.mg "under" c.f3
 F3:aU c.K "under" "under" Gw .none c.f3 c.d3
 m4:mI9 c.mg "fraction" c.f4
 l4:c.K.lookup c.f4=some ⟨c.oc4,c.od4,.func (W.fnOf "fraction" "fraction" (eX kX) (cV kX) (aI kX) (.ref c.T4) c.kV4 c.dc4 c.pm4 c.an4 c.cd4 c.ct4),c.sl4⟩
 c4:W.codeIn c.K c.cd4 "fraction"=true
 k4:kI9 c.K c.f4
 lt4:c.K.lookup c.T4=some ⟨c.oT4,c.dT4,.seq #[.int 1 c.tk4] c.nT4,c.sT4⟩
 m5:mI9 c.mg "minus" c.f5
 F5:aU c.K "minus" "minus" Hf .none c.f5 c.d5
 m6:mI9 c.mg "plus" c.f6
 F6:aU c.K "plus" "plus" Ta .none c.f6 c.d6
 m7:mI9 c.mg "over" c.f7
 F7:aU c.K "over" "over" Sb .none c.f7 c.d7
 m8:mI9 c.mg "times" c.f8
 F8:aU c.K "times" "times" Gd .none c.f8 c.d8
 F9:aU c.K "__init__" "Row.__init__" Gf .none c.f9 c.d9
 m10:mI9 c.mg "is_fraction" c.f10
 F10:aU c.K "is_fraction" "is_fraction" qa3 .none c.f10 c.d10
 a11_0:W.findIn c.K (.ref c.c_Piece) "word"=some (some (.ref c.f11))
 i11:W.isFn c.K (.ref c.f11)=true
 F11:aU c.K "word" "Piece.word" wY .none c.f11 c.d11
 a12_0:W.findIn c.K (.ref c.c_Push) "word"=some (some (.ref c.f12))
 i12:W.isFn c.K (.ref c.f12)=true
 F12:aU c.K "word" "Push.word" wQ .none c.f12 c.d12
 a13_0:W.findIn c.K (.ref c.c_Hold) "word"=some (some (.ref c.f13))
 i13:W.isFn c.K (.ref c.f13)=true
 F13:aU c.K "word" "Hold.word" xU .none c.f13 c.d13
 a14_0:W.findIn c.K (.ref c.c_Piece) "joins"=some (some (.ref c.f14))
 i14:W.isFn c.K (.ref c.f14)=true
 F14:aU c.K "joins" "Piece.joins" sZ .none c.f14 c.d14
 a15_0:W.findIn c.K (.ref c.c_Push) "joins"=some (some (.ref c.f15))
 i15:W.isFn c.K (.ref c.f15)=true
 F15:aU c.K "joins" "Push.joins" rM .none c.f15 c.d15
 a16_0:W.findIn c.K (.ref c.c_Hold) "joins"=some (some (.ref c.f16))
 i16:W.isFn c.K (.ref c.f16)=true
 F16:aU c.K "joins" "Hold.joins" rP .none c.f16 c.d16
 a17_0:W.findIn c.K (.ref c.c_Piece) "told"=some (some (.ref c.f17))
 a17_1:W.findIn c.K (.ref c.c_Push) "told"=some (some (.ref c.f17))
 a17_2:W.findIn c.K (.ref c.c_Hold) "told"=some (some (.ref c.f17))
 i17:W.isFn c.K (.ref c.f17)=true
 F17:aU c.K "told" "Row.told" Gz .none c.f17 c.d17
 m18:mI9 c.mg "row_of" c.f18
 F18:aU c.K "row_of" "row_of" Gj .none c.f18 c.d18
 a19_0:W.findIn c.K (.ref c.c_Piece) "stream"=some (some (.ref c.f19))
 i19:W.isFn c.K (.ref c.f19)=true
 F19:aU c.K "stream" "Piece.stream" pE .none c.f19 c.d19
 a20_0:W.findIn c.K (.ref c.c_Push) "stream"=some (some (.ref c.f20))
 i20:W.isFn c.K (.ref c.f20)=true
 F20:aU c.K "stream" "Push.stream" pF .none c.f20 c.d20
 a21_0:W.findIn c.K (.ref c.c_Hold) "stream"=some (some (.ref c.f21))
 i21:W.isFn c.K (.ref c.f21)=true
 F21:aU c.K "stream" "Hold.stream" pH .none c.f21 c.d21
 m22:mI9 c.mg "is_piece_size" c.f22
 F22:aU c.K "is_piece_size" "is_piece_size" sPS .none c.f22 c.d22
 m23:mI9 c.mg "is_number_below" c.f23
 F23:aU c.K "is_number_below" "is_number_below" sNB .none c.f23 c.d23
 m24:mI9 c.mg "refuse_size" c.f24
 F24:aU c.K "refuse_size" "refuse_size" sRS .none c.f24 c.d24
 m25:mI9 c.mg "refuse_points" c.f25
 F25:aU c.K "refuse_points" "refuse_points" sRP .none c.f25 c.d25
 m26:mI9 c.mg "refuse_number" c.f26
 F26:aU c.K "refuse_number" "refuse_number" sRN .none c.f26 c.d26
 F27:aU c.K "__init__" "Net.__init__" Hm .none c.f27 c.d27
 a28_0:W.findIn c.K (.ref c.c_Net) "many"=some (some (.ref c.f28))
 i28:W.isFn c.K (.ref c.f28)=true
 F28:aU c.K "many" "Net.many" Px .none c.f28 c.d28
 a29_0:W.findIn c.K (.ref c.c_Net) "told"=some (some (.ref c.f29))
 i29:W.isFn c.K (.ref c.f29)=true
 F29:aU c.K "told" "Net.told" Ir .none c.f29 c.d29
 a30_0:W.findIn c.K (.ref c.c_Net) "add"=some (some (.ref c.f30))
 i30:W.isFn c.K (.ref c.f30)=true
 F30:aU c.K "add" "Net.add" qg8 .none c.f30 c.d30
 a31_0:W.findIn c.K (.ref c.c_Net) "change"=some (some (.ref c.f31))
 i31:W.isFn c.K (.ref c.f31)=true
 F31:aU c.K "change" "Net.change" Ad .none c.f31 c.d31
 a32_0:W.findIn c.K (.ref c.c_Net) "rows"=some (some (.ref c.f32))
 i32:W.isFn c.K (.ref c.f32)=true
 F32:aU c.K "rows" "Net.rows" Ri .none c.f32 c.d32
 m33:mI9 c.mg "fall_of" c.f33
 F33:aU c.K "fall_of" "fall_of" Oa .none c.f33 c.d33
 m34:mI9 c.mg "joined" c.f34
 F34:aU c.K "joined" "joined" Ci .none c.f34 c.d34
 m35:mI9 c.mg "marks_of" c.f35
 F35:aU c.K "marks_of" "marks_of" Gm .none c.f35 c.d35
 m36:mI9 c.mg "floating" c.f36
 F36:aU c.K "floating" "floating" Iw .none c.f36 c.d36
 m37:mI9 c.mg "steps_from" c.f37
 F37:aU c.K "steps_from" "steps_from" Ie .none c.f37 c.d37
 m38:mI9 c.mg "way_along" c.f38
 F38:aU c.K "way_along" "way_along" qj6 .none c.f38 c.d38
 m39:mI9 c.mg "rings" c.f39
 l39:c.K.lookup c.f39=some ⟨c.oc39,c.od39,.func (W.fnOf "rings" "rings" (eX iK) (cV iK) (aI iK) (.ref c.T39) c.kV39 c.dc39 c.pm39 c.an39 c.cd39 c.ct39),c.sl39⟩
 c39:W.codeIn c.K c.cd39 "rings"=true
 k39:kI9 c.K c.f39
 lt39:c.K.lookup c.T39=some ⟨c.oT39,c.dT39,.seq #[.none] c.nT39,c.sT39⟩
 m40:mI9 c.mg "raise_at" c.f40
 F40:aU c.K "raise_at" "raise_at" Iz .none c.f40 c.d40
 m41:mI9 c.mg "enter_stream" c.f41
 F41:aU c.K "enter_stream" "enter_stream" Ge .none c.f41 c.d41
 m42:mI9 c.mg "enter_piece" c.f42
 F42:aU c.K "enter_piece" "enter_piece" Ca .none c.f42 c.d42
 m43:mI9 c.mg "enter_push" c.f43
 F43:aU c.K "enter_push" "enter_push" Ck .none c.f43 c.d43
 m44:mI9 c.mg "enter_hold" c.f44
 F44:aU c.K "enter_hold" "enter_hold" Af .none c.f44 c.d44
 m45:mI9 c.mg "equations" c.f45
 F45:aU c.K "equations" "equations" qj5 .none c.f45 c.d45
 m46:mI9 c.mg "in_wholes" c.f46
 F46:aU c.K "in_wholes" "in_wholes" sIW .none c.f46 c.d46
 m47:mI9 c.mg "pivot_place" c.f47
 F47:aU c.K "pivot_place" "pivot_place" qb6 .none c.f47 c.d47
 m48:mI9 c.mg "cleared" c.f48
 F48:aU c.K "cleared" "cleared" qk0 .none c.f48 c.d48
 m49:mI9 c.mg "cleared_rows" c.f49
 F49:aU c.K "cleared_rows" "cleared_rows" wH .none c.f49 c.d49
 m50:mI9 c.mg "eliminated" c.f50
 F50:aU c.K "eliminated" "eliminated" Rf .none c.f50 c.d50
 m51:mI9 c.mg "solved" c.f51
 F51:aU c.K "solved" "solved" Ab .none c.f51 c.d51
 m52:mI9 c.mg "refuse_unanswered" c.f52
 F52:aU c.K "refuse_unanswered" "refuse_unanswered" Zz .none c.f52 c.d52
 m53:mI9 c.mg "flows_of" c.f53
 F53:aU c.K "flows_of" "flows_of" Hh .none c.f53 c.d53
 F54:aU c.K "__init__" "Answer.__init__" Gk .none c.f54 c.d54
 a55_0:W.findIn c.K (.ref c.c_Answer) "heights"=some (some (.ref c.f55))
 i55:W.isFn c.K (.ref c.f55)=true
 F55:aU c.K "heights" "Answer.heights" Tv .none c.f55 c.d55
 a56_0:W.findIn c.K (.ref c.c_Answer) "streams"=some (some (.ref c.f56))
 i56:W.isFn c.K (.ref c.f56)=true
 F56:aU c.K "streams" "Answer.streams" Os .none c.f56 c.d56
 a57_0:W.findIn c.K (.ref c.c_Net) "copy"=some (some (.ref c.f57))
 i57:W.isFn c.K (.ref c.f57)=true
 F57:aU c.K "copy" "Net.copy" Sc .none c.f57 c.d57
 a58_0:W.findIn c.K (.ref c.c_Net) "count"=some (some (.ref c.f58))
 i58:W.isFn c.K (.ref c.f58)=true
 F58:aU c.K "count" "Net.count" Im .none c.f58 c.d58
 m59:mI9 c.mg "heights_by" c.f59
 F59:aU c.K "heights_by" "heights_by" qb9 .none c.f59 c.d59
 m60:mI9 c.mg "pushed_heights" c.f60
 F60:aU c.K "pushed_heights" "pushed_heights" qd9 .none c.f60 c.d60
 m61:mI9 c.mg "held_heights" c.f61
 F61:aU c.K "held_heights" "held_heights" qg9 .none c.f61 c.d61
 m62:mI9 c.mg "shape_of" c.f62
 F62:aU c.K "shape_of" "shape_of" Gp .none c.f62 c.d62
 m63:mI9 c.mg "factor_of" c.f63
 F63:aU c.K "factor_of" "factor_of" qa0 .none c.f63 c.d63
 F64:aU c.K "__init__" "Watch.__init__" Td .none c.f64 c.d64
 a65_0:W.findIn c.K (.ref c.c_Watch) "change"=some (some (.ref c.f65))
 i65:W.isFn c.K (.ref c.f65)=true
 F65:aU c.K "change" "Watch.change" Rj .none c.f65 c.d65
 a66_0:W.findIn c.K (.ref c.c_Watch) "heights"=some (some (.ref c.f66))
 i66:W.isFn c.K (.ref c.f66)=true
 F66:aU c.K "heights" "Watch.heights" Po .none c.f66 c.d66
 a67_0:W.findIn c.K (.ref c.c_Watch) "streams"=some (some (.ref c.f67))
 i67:W.isFn c.K (.ref c.f67)=true
 F67:aU c.K "streams" "Watch.streams" Rk .none c.f67 c.d67
 a68_0:W.findIn c.K (.ref c.c_Watch) "net"=some (some (.ref c.f68))
 i68:W.isFn c.K (.ref c.f68)=true
 F68:aU c.K "net" "Watch.net" Qd .none c.f68 c.d68
 m69:mI9 c.mg "beside_unit" c.f69
 F69:aU c.K "beside_unit" "beside_unit" Ro .none c.f69 c.d69
 m70:mI9 c.mg "over_pivot" c.f70
 F70:aU c.K "over_pivot" "over_pivot" Fv .none c.f70 c.d70
 m71:mI9 c.mg "multiples" c.f71
 F71:aU c.K "multiples" "multiples" Tm .none c.f71 c.d71
 a72_0:W.findIn c.K (.ref c.c_Answer) "paper"=some (some (.ref c.f72))
 i72:W.isFn c.K (.ref c.f72)=true
 F72:aU c.K "paper" "Answer.paper" Uf .none c.f72 c.d72
 a73_0:W.findIn c.K (.ref c.c_Watch) "paper"=some (some (.ref c.f73))
 i73:W.isFn c.K (.ref c.f73)=true
 F73:aU c.K "paper" "Watch.paper" Tt .none c.f73 c.d73
 m74:mI9 c.mg "_law_draw" c.f74
 F74:aU c.K "_law_draw" "_law_draw" Sr .none c.f74 c.d74
 m75:mI9 c.mg "_law_mix" c.f75
 F75:aU c.K "_law_mix" "_law_mix" Cb .none c.f75 c.d75
 m76:mI9 c.mg "_law_far" c.f76
 F76:aU c.K "_law_far" "_law_far" qe5 .none c.f76 c.d76
 m77:mI9 c.mg "_law_lowest" c.f77
 F77:aU c.K "_law_lowest" "_law_lowest" Cs .none c.f77 c.d77
 m78:mI9 c.mg "_law_plus" c.f78
 F78:aU c.K "_law_plus" "_law_plus" Hc .none c.f78 c.d78
 m79:mI9 c.mg "_law_times" c.f79
 F79:aU c.K "_law_times" "_law_times" Cz .none c.f79 c.d79
 m80:mI9 c.mg "_law_told" c.f80
 F80:aU c.K "_law_told" "_law_told" Pu .none c.f80 c.d80
 m81:mI9 c.mg "_law_size" c.f81
 F81:aU c.K "_law_size" "_law_size" So .none c.f81 c.d81
 m82:mI9 c.mg "_law_net" c.f82
 F82:aU c.K "_law_net" "_law_net" Ha .none c.f82 c.d82
 m83:mI9 c.mg "_law_put" c.f83
 F83:aU c.K "_law_put" "_law_put" qi4 .none c.f83 c.d83
 m84:mI9 c.mg "_law_hanging" c.f84
 F84:aU c.K "_law_hanging" "_law_hanging" Rt .none c.f84 c.d84
 m85:mI9 c.mg "_law_kinds" c.f85
 F85:aU c.K "_law_kinds" "_law_kinds" sKi .none c.f85 c.d85
 m86:mI9 c.mg "_law_new_size" c.f86
 F86:aU c.K "_law_new_size" "_law_new_size" Qs .none c.f86 c.d86
 m87:mI9 c.mg "_law_change" c.f87
 F87:aU c.K "_law_change" "_law_change" Rg .none c.f87 c.d87
 m88:mI9 c.mg "_law_as_answered" c.f88
 F88:aU c.K "_law_as_answered" "_law_as_answered" qk4 .none c.f88 c.d88
 m89:mI9 c.mg "_law_refused" c.f89
 F89:aU c.K "_law_refused" "_law_refused" qc7 .none c.f89 c.d89
 m90:mI9 c.mg "_law_changed" c.f90
 F90:aU c.K "_law_changed" "_law_changed" qb1 .none c.f90 c.d90
 m91:mI9 c.mg "law" c.f91
 l91:c.K.lookup c.f91=some ⟨c.oc91,c.od91,.func (W.fnOf "law" "law" (eX Da) (cV Da) (aI Da) .none c.kV91 c.dc91 c.pm91 c.an91 c.cd91 c.ct91),c.sl91⟩
 c91:W.codeIn c.K c.cd91 "law"=true
 k91:kI9 c.K c.f91
 mv_ONE:mI9 c.mg "ONE" c.aO
 mv_NOUGHT:mI9 c.mg "NOUGHT" c.aN
 mv_JOINING_WORDS:mI9 c.mg "JOINING_WORDS" c.aJ
 mv_MOST_POINTS:c.mg "MOST_POINTS"=some (.int 20 c.tM)
 mv_MOST_ROWS:c.mg "MOST_ROWS"=some (.int 40 c.tR)
 x1_NoRow:W.excIn c.K c.c_NoRow qb3 "ValueError.__new__"=true
 x1_NoSize:W.excIn c.K c.c_NoSize qb3 "ValueError.__new__"=true
 vR:W.kitOne c.K (.ref c.c_NoRow) (.type "ValueError")=some true
 x2_NoRow:W.findIn c.K (.ref c.c_NoRow) "__getattribute__"=some (some (.builtin "BaseException.__getattribute__"))
 x3_NoRow:W.findIn c.K (.ref c.c_NoRow) "__getattr__"=some none
 x4_NoRow:W.mroIn c.K c.c_NoRow (.type "BaseException")=some true
 x5_NoRow:W.mroIn c.K c.c_NoRow (.type "object")=some true
 x6_NoRow:W.findIn c.K (.ref c.c_NoRow) "__class__"=some (some (.builtin "object.__class__"))
 x7_NoRow:W.specialIn c.K (.builtin "object.__class__") "__get__"=some (some (.builtin "getset_descriptor.__get__"))
 x8_NoRow:W.takesIn c.K (.builtin "object.__class__")=some true
 x9_NoRow:(W.clsIn c.K c.c_NoRow).isSome=true
 qRR:W.kitAny c.K (.ref c.c_NoRow) [.ref c.c_NoNumber,.ref c.c_NoPoint,.ref c.c_NoSize,.ref c.c_NoWord,.ref c.c_NoName,.ref c.c_NoStreams,.ref c.c_NoRoad,.ref c.c_TooMany,.ref c.c_Lame,.ref c.c_Ring,.ref c.c_Floats,.ref c.c_Held]=some false
 tZ:W.kitAny c.K (.ref c.c_NoSize) [.ref c.c_NoNumber,.ref c.c_NoPoint,.ref c.c_NoRow,.ref c.c_NoWord,.ref c.c_NoName,.ref c.c_NoStreams,.ref c.c_NoRoad,.ref c.c_TooMany,.ref c.c_Lame,.ref c.c_Ring,.ref c.c_Floats,.ref c.c_Held]=some false
 vZ:W.kitOne c.K (.ref c.c_NoSize) (.type "ValueError")=some true
 x2_NoSize:W.findIn c.K (.ref c.c_NoSize) "__getattribute__"=some (some (.builtin "BaseException.__getattribute__"))
 x3_NoSize:W.findIn c.K (.ref c.c_NoSize) "__getattr__"=some none
 x4_NoSize:W.mroIn c.K c.c_NoSize (.type "BaseException")=some true
 x5_NoSize:W.mroIn c.K c.c_NoSize (.type "object")=some true
 x6_NoSize:W.findIn c.K (.ref c.c_NoSize) "__class__"=some (some (.builtin "object.__class__"))
 x9_NoSize:(W.clsIn c.K c.c_NoSize).isSome=true
 lJ:c.K.lookup c.aJ=some ⟨.type "tuple",c.dJ,.seq #[.str "piece" c.tj0,.str "hold" c.tj1] c.nJ,c.sJ⟩
 n_len:c.mg "len"=none
 n_range:c.mg "range"=none
 n_str:c.mg "str"=none
 n_tuple:c.mg "tuple"=none
 n_list:c.mg "list"=none
 n_all:c.mg "all"=none
 n_zip:c.mg "zip"=none
 n_enumerate:c.mg "enumerate"=none
 n_ValueError:c.mg "ValueError"=none
 bl:Bl c.mg
 T:RT c.K c.mg c.c_Row (kd3 c.c_Piece c.c_Push c.c_Hold)
 fN:∀H:Hp,Fq c.K H c.aN (0,1)
 fO:∀H:Hp,Fq c.K H c.aO (1,1)
 NTx:NT c.K c.mg c.c_Net
 ABx:AB c.K c.mg c.c_Answer
 WBx:WB c.K c.mg c.c_Watch
 hm:∀(i:Nat) (n:Str),kNm[i]?=some n->∃ (q:Addr),[c.c_NoNumber,c.c_NoPoint,c.c_NoSize,c.c_NoRow,c.c_NoWord,c.c_NoName,c.c_NoStreams,c.c_NoRoad,c.c_TooMany,c.c_Lame,c.c_Ring,c.c_Floats,c.c_Held][i]?=some q ∧ c.mg n=some (.ref q)
 oc:OhC c.K c.mg c.c_NoRow c.c_NoSize
 MK:∀k:Kd,Mk c.K (kd3 c.c_Piece c.c_Push c.c_Hold k) c.f9
 MN:Mk c.K c.c_Net c.f27
 MA:Mk c.K c.c_Answer c.f54
 MWa:Mk c.K c.c_Watch c.f64
def OZ (c:CZ)(b:Heap):Prop:=aL c.P c.w c.K c.mg b CX0 15 c.f91 (W.fnOf ("law") ("law") (eX Da) (cV Da) (aI Da) .none c.kV91 c.dc91 c.pm91 c.an91 c.cd91 c.ct91) ["_law_script"] (Ew c.K)
noncomputable def TZ:CZ×Heap:=Classical.epsilon λx=>GZ x.1/\¬OZ x.1 x.2
@[irreducible] noncomputable def Z:CZ:=TZ.1
@[irreducible] noncomputable def ZB:Heap:=TZ.2
abbrev FZ:=aL Z.P Z.w Z.K Z.mg ZB
abbrev DZ:=D9 Z.P Z.w Z.K Z.mg ZB
section
open Shp
open GZ hiding mk
variable [GZ Z]
theorem F4:aU Z.K ("fraction") ("fraction") kX (.ref Z.T4) Z.f4 (W.fnOf ("fraction") ("fraction") (eX kX) (cV kX) (aI kX) (.ref Z.T4) Z.kV4 Z.dc4 Z.pm4 Z.an4 Z.cd4 Z.ct4):=uG (st:=kX) l4 c4 k4
theorem b4:aM Z.K (W.fnOf ("fraction") ("fraction") (eX kX) (cV kX) (aI kX) (.ref Z.T4) Z.kV4 Z.dc4 Z.pm4 Z.an4 Z.cd4 Z.ct4) ["top","bottom"] []:=λs us XX hl=>match us,hl with | [_,_],_=>W.binds_K (fd:=W.fnOf "fraction" "fraction" (eX kX) (cV kX) (aI kX) (.ref Z.T4) Z.kV4 Z.dc4 Z.pm4 Z.an4 Z.cd4 Z.ct4) XX rfl lt4 rfl rfl rfl
theorem bd4:aM Z.K (W.fnOf ("fraction") ("fraction") (eX kX) (cV kX) (aI kX) (.ref Z.T4) Z.kV4 Z.dc4 Z.pm4 Z.an4 Z.cd4 Z.ct4) ["top","bottom"] [.int 1 Z.tk4]:=λs us XX hl=>match us,(show us.length=1 by simp at hl;lia) with | [_],_=>W.binds_K (fd:=W.fnOf "fraction" "fraction" (eX kX) (cV kX) (aI kX) (.ref Z.T4) Z.kV4 Z.dc4 Z.pm4 Z.an4 Z.cd4 Z.ct4) XX rfl lt4 rfl rfl rfl
theorem b9:aM Z.K Z.d9 ["self","start","goal","size"] []:=F9.b4 "self" "start" "goal" "size" (by intros;rfl)
theorem b11:aM Z.K Z.d11 ["self"] []:=F11.b1 "self" (by intros;rfl)
theorem b12:aM Z.K Z.d12 ["self"] []:=F12.b1 "self" (by intros;rfl)
theorem b13:aM Z.K Z.d13 ["self"] []:=F13.b1 "self" (by intros;rfl)
theorem b14:aM Z.K Z.d14 ["self"] []:=F14.b1 "self" (by intros;rfl)
theorem b15:aM Z.K Z.d15 ["self"] []:=F15.b1 "self" (by intros;rfl)
theorem b16:aM Z.K Z.d16 ["self"] []:=F16.b1 "self" (by intros;rfl)
theorem b17:aM Z.K Z.d17 ["self"] []:=F17.b1 "self" (by intros;rfl)
theorem b19:aM Z.K Z.d19 ["self","fall","held"] []:=F19.b3 "self" "fall" "held" (by intros;rfl)
theorem b20:aM Z.K Z.d20 ["self","fall","held"] []:=F20.b3 "self" "fall" "held" (by intros;rfl)
theorem b21:aM Z.K Z.d21 ["self","fall","held"] []:=F21.b3 "self" "fall" "held" (by intros;rfl)
theorem b24:aM Z.K Z.d24 ["word","size"] []:=F24.b2 "word" "size" (by intros;rfl)
theorem b26:aM Z.K Z.d26 ["k","count"] []:=F26.b2 "k" "count" (by intros;rfl)
theorem b27:aM Z.K Z.d27 ["self","many"] []:=F27.b2 "self" "many" (by intros;rfl)
theorem b28:aM Z.K Z.d28 ["self"] []:=F28.b1 "self" (by intros;rfl)
theorem b29:aM Z.K Z.d29 ["self"] []:=F29.b1 "self" (by intros;rfl)
theorem b30:aM Z.K Z.d30 ["self","row"] []:=F30.b2 "self" "row" (by intros;rfl)
theorem b31:aM Z.K Z.d31 ["self","k","size"] []:=F31.b3 "self" "k" "size" (by intros;rfl)
theorem b32:aM Z.K Z.d32 ["self"] []:=F32.b1 "self" (by intros;rfl)
theorem F39:aU Z.K ("rings") ("rings") iK (.ref Z.T39) Z.f39 (W.fnOf ("rings") ("rings") (eX iK) (cV iK) (aI iK) (.ref Z.T39) Z.kV39 Z.dc39 Z.pm39 Z.an39 Z.cd39 Z.ct39):=uG (st:=iK) l39 c39 k39
theorem b39:aM Z.K (W.fnOf ("rings") ("rings") (eX iK) (cV iK) (aI iK) (.ref Z.T39) Z.kV39 Z.dc39 Z.pm39 Z.an39 Z.cd39 Z.ct39) ["net","words"] []:=λs us XX hl=>match us,hl with | [_,_],_=>W.binds_K (fd:=W.fnOf "rings" "rings" (eX iK) (cV iK) (aI iK) (.ref Z.T39) Z.kV39 Z.dc39 Z.pm39 Z.an39 Z.cd39 Z.ct39) XX rfl lt39 rfl rfl rfl
theorem bd39:aM Z.K (W.fnOf ("rings") ("rings") (eX iK) (cV iK) (aI iK) (.ref Z.T39) Z.kV39 Z.dc39 Z.pm39 Z.an39 Z.cd39 Z.ct39) ["net","words"] [.none]:=λs us XX hl=>match us,(show us.length=1 by simp at hl;lia) with | [_],_=>W.binds_K (fd:=W.fnOf "rings" "rings" (eX iK) (cV iK) (aI iK) (.ref Z.T39) Z.kV39 Z.dc39 Z.pm39 Z.an39 Z.cd39 Z.ct39) XX rfl lt39 rfl rfl rfl
theorem b54:aM Z.K Z.d54 ["self","net"] []:=F54.b2 "self" "net" (by intros;rfl)
theorem b55:aM Z.K Z.d55 ["self"] []:=F55.b1 "self" (by intros;rfl)
theorem b56:aM Z.K Z.d56 ["self"] []:=F56.b1 "self" (by intros;rfl)
theorem b57:aM Z.K Z.d57 ["self"] []:=F57.b1 "self" (by intros;rfl)
theorem b58:aM Z.K Z.d58 ["self"] []:=F58.b1 "self" (by intros;rfl)
theorem b64:aM Z.K Z.d64 ["self","net"] []:=F64.b2 "self" "net" (by intros;rfl)
theorem b65:aM Z.K Z.d65 ["self","k","size"] []:=F65.b3 "self" "k" "size" (by intros;rfl)
theorem b66:aM Z.K Z.d66 ["self"] []:=F66.b1 "self" (by intros;rfl)
theorem b67:aM Z.K Z.d67 ["self"] []:=F67.b1 "self" (by intros;rfl)
theorem b68:aM Z.K Z.d68 ["self"] []:=F68.b1 "self" (by intros;rfl)
theorem b72:aM Z.K Z.d72 ["self"] []:=F72.b1 "self" (by intros;rfl)
theorem b73:aM Z.K Z.d73 ["self"] []:=F73.b1 "self" (by intros;rfl)
theorem F91:aU Z.K ("law") ("law") Da .none Z.f91 (W.fnOf ("law") ("law") (eX Da) (cV Da) (aI Da) .none Z.kV91 Z.dc91 Z.pm91 Z.an91 Z.cd91 Z.ct91):=uG (st:=Da) l91 c91 k91
theorem fJ0:∀H:Hp,SqT Z.K H Z.aJ [V.str ("piece"),V.str ("hold")]:=λH=>.inr ⟨_,_,_,lJ,rfl,rfl,(zl9 2),.cons ⟨_,rfl⟩ (.cons ⟨_,rfl⟩ .nil)⟩
theorem kR:KiC Z.K Z.mg Z.c_NoRow 3:=Qe ⟨x2_NoRow,x3_NoRow,x4_NoRow,x5_NoRow,x6_NoRow,x7_NoRow,x8_NoRow,x9_NoRow⟩ vR hm rfl qRR
theorem kZ:KiC Z.K Z.mg Z.c_NoSize 2:=Qe ⟨x2_NoSize,x3_NoSize,x4_NoSize,x5_NoSize,x6_NoSize,x7_NoRow,x8_NoRow,x9_NoSize⟩ vZ hm rfl tZ
theorem Y1:DZ 1 Z.f1 Z.d1 ["thing"] (nU Z.K) "is_whole":=by
 refine⟨?_,F1.b1 _ (by intros;rfl),F1.kp,m1⟩
 refine F1.ok9 Wz λ_ _ _ s H _ Q E hr h=>?_;obtain⟨x,rfl,h⟩:=h;refine⟨_,aG (aT (tD (iP (i:=0) rfl (Or.inl rfl) bl.isi bl.int rfl rfl PyProof.Rows.boot_int) (xG (qk3 (iP (i:=0) rfl (Or.inl rfl) bl.isi bl.bool rfl rfl PyProof.Rows.boot_bool))))),?_⟩;rcases h with ⟨i,rfl,q⟩ | ⟨t,ty,nw,q⟩
 .exact⟨_,_,_,rfl,.of (.int i),rfl,_,rfl,gC ⟨_,_,false,rfl,.of (.int i),(by with_unfolding_all rfl),_,rfl,q⟩⟩
 .rcases nw with rfl | rfl | rfl | rfl | rfl
  .exact⟨_,_,true,rfl,.of ty,(by with_unfolding_all rfl),_,rfl,gC ⟨_,_,_,rfl,.of ty,rfl,_,rfl,q⟩⟩
  all_goals exact⟨_,_,false,rfl,.of ty,(by with_unfolding_all rfl),_,rfl,gH q⟩
theorem Y2:DZ 1 Z.f2 Z.d2 ["one","other"] Qz "greatest_common":=by
 refine⟨?_,F2.b2 _ _ (by intros;rfl),F2.kp,m2⟩
 refine F2.ok9 Vc λ_ _ _ s H _ Q E hr h=>?_;obtain⟨x,y,rfl,q⟩:=h;refine⟨_,aD (xS PassesOwn.never (bA qK (pv 1) aE (bC _)) (aD (qQ0 (i:=2) Vc.nd (aY kK (pv 0) (pv 1)))
  (aD (qQ0 (i:=0) Vc.nd (pv 1)) (aG (qQ0 (i:=1) Vc.nd (pv 2))))))
  (aG (aT (bL qX rfl bl.abs PyProof.Rows.boot_abs (aA (pv 0) aC)))),?_⟩
 refine wN (λσ H'=>H'=H/\∃u v z,σ=[some (.int u),some (.int v),z]/\gc u v=gc x y) (λσ _=>match σ with | [_,some (.int v),_]=>v.natAbs | _=>0) ⟨rfl,x,y,none,rfl,rfl⟩ ?_ ?_
 .rintro σ H' ⟨rfl,u,v,z,rfl,e⟩;refine⟨_,rfl,rfl,_,rfl,?_⟩;refine pC (λc=>?_) (λc=>?_)
  .have hv:v≠0:=by intro q;subst q;simp at c
   refine⟨_,rfl,_,rfl,_,_,rfl,rfl,hv,_,rfl,_,rfl,⟨rfl,v,Int.fmod u v,_,rfl,(Kl u v).trans e⟩,yN hv⟩
  .have hv:v=0:=by
    simp at c;exact c
   subst hv;refine⟨_,rfl,_,rfl,?_⟩;rw[<- Jp,e];exact q
 .rintro σ H Q Q' m ⟨v,h1,h2,k,h3,h4⟩;exact⟨v,h1,h2,k,h3,m _ _ h4⟩
theorem Y3:DZ 1 Z.f3 Z.d3 ["one","other"] (By Z.K) "under":=by
 refine⟨?_,F3.b2 _ _ (by intros;rfl),F3.kp,m3⟩
 refine F3.ok9 Wk λ_ _ _ s H _ Q E hr h=>?_;obtain⟨a,b,p,q,n,m,rfl,ha,hb,bp,bq,hn,z⟩:=h;refine⟨_,aG (aT (gL xW (aY cW (aW aZ (pv 0) aE (λ_ _=>rfl)) (aW aZ (pv 1) aE (λ_ _=>rfl))) (aY cW (aW aZ (pv 1) aE (λ_ _=>rfl)) (aW aZ (pv 0) aE (λ_ _=>rfl))) (bC _))),?_⟩;exact fB rfl ha (cX rfl hb (cU bp.a bq.b () () (fB rfl hb (cX rfl ha (cU bq.a bp.b () () ⟨_,_,rfl,rfl,z⟩)))))
theorem Y4:DZ 2 Z.f4 (W.fnOf ("fraction") ("fraction") (eX kX) (cV kX) (aI kX) (.ref Z.T4) Z.kV4 Z.dc4 Z.pm4 Z.an4 Z.cd4 Z.ct4) ["top","bottom"] hG "fraction":=by
 refine⟨?_,b4,F4.kp,m4⟩
 refine F4.ok9 Iu λ_ _ _ s H _ Q E hr h=>?_;obtain⟨t,b,n,rfl,hb,hB,hn,q⟩:=h;refine⟨_,aD (cC (PW.pt (kY (fY (dQ (d9 Y1 hr rfl (aA (pv 0) aC)))) (kY (fY (dQ (d9 Y1 hr rfl (aA (pv 1) aC)))) (jT (bA eQ (pv 1) aE (bC _)))))) Me bF)
  (aD (qQ0 (i:=2) Iu.nd (d9 Y2 hr rfl (aA (pv 0) (aA (pv 1) aC))))
  (aD (cC (bA xW (pv 1) aE (bC _)) (aG (qQ0 (i:=2) Iu.nd (Eu wR (pv 2)))) bF)
  (aG (aT (cF (aA (aY jE (pv 0) (pv 2)) (aA (aY jE (pv 1) (pv 2)) aC))))))),?_⟩
 have hd:=rH (t:=t) hb;have hdB:Mq.B n (dvr t b):=hB.le (Fu hb);have c0:decide (V.int b=V.int 0)=false:=decide_eq_false (λz=>hb (by cases z;rfl));refine⟨_,rfl,_,rfl,.inl ⟨t,rfl,_,rfl,gH ⟨_,rfl,_,rfl,.inl ⟨b,rfl,_,rfl,gH ⟨_,rfl,rfl,_,rfl,?_⟩⟩⟩⟩⟩;rw[c0];refine gH ⟨_,rfl,_,rfl,t,b,rfl,?_⟩;refine⟨_,rfl,_,_,rfl,rfl,_,rfl,?_⟩;refine pC (λc=>?_) (λc=>?_)
 .have hlt:b < 0:=of_decide_eq_true c;have e:dvr t b=-gc t b:=by unfold dvr;rw[if_pos hlt]
  rw[e] at hd hdB;have q':pI H Q (t.fdiv (-gc t b),b.fdiv (-gc t b)):=by
   have z:=q;unfold red at z;rw[e] at z;exact z
  refine⟨_,rfl,_,rfl,?_⟩;refine⟨_,rfl,_,rfl,?_⟩;refine gE hd hdB hn ⟨_,rfl,_,rfl,gE hd hdB hn ⟨zl9 2,λp hp=>?_⟩⟩;exact q' p _ (aF hp _) aB
 .have hlt:¬b < 0:=λz=>c (decide_eq_true z);have e:dvr t b=gc t b:=by unfold dvr;rw[if_neg hlt]
  rw[e] at hd hdB;have q':pI H Q (t.fdiv (gc t b),b.fdiv (gc t b)):=by
   have z:=q;unfold red at z;rw[e] at z;exact z
  refine⟨_,rfl,_,rfl,?_⟩;refine gE hd hdB hn ⟨_,rfl,_,rfl,gE hd hdB hn ⟨zl9 2,λp hp=>?_⟩⟩;exact q' p _ (aF hp _) aB
theorem Y5:DZ 3 Z.f5 Z.d5 ["one","other"] (iI Z.K Mq.minus) "minus":=by
 refine⟨?_,F5.b2 _ _ (by intros;rfl),F5.kp,m5⟩
 refine F5.ok9 Vo λ_ _ _ s H _ Q E hr h=>?_;obtain⟨a,b,p,q,n,m,rfl,ha,hb,lp,lq,bp,bq,hn,z⟩:=h;refine⟨_,aG (aT (d9 Y4 hr rfl (aA
  (aY iW (aY cW (aW aZ (pv 0) aE (λ_ _=>rfl)) (aW aZ (pv 1) aE (λ_ _=>rfl))) (aY cW (aW aZ (pv 1) aE (λ_ _=>rfl)) (aW aZ (pv 0) aE (λ_ _=>rfl))))
  (aA (aY cW (aW aZ (pv 0) aE (λ_ _=>rfl)) (aW aZ (pv 1) aE (λ_ _=>rfl))) aC)))),?_⟩
 refine fB rfl ha (cX rfl hb (cU bp.a bq.b () () (fB rfl hb (cX rfl ha (cU bq.a bp.b () () ⟨_,_,rfl,rfl,?_⟩)))));refine cX rfl ha (cX rfl hb (cU bp.b bq.b () () ⟨_,_,n+m,rfl,gZ lp lq,bp.b.mul bq.b,(),z⟩))
theorem Y6:DZ 3 Z.f6 Z.d6 ["one","other"] (iI Z.K Mq.kT) "plus":=by
 refine⟨?_,F6.b2 _ _ (by intros;rfl),F6.kp,m6⟩
 refine F6.ok9 qc2 λ_ _ _ s H _ Q E hr h=>?_;obtain⟨a,b,p,q,n,m,rfl,ha,hb,lp,lq,bp,bq,hn,z⟩:=h;refine⟨_,aG (aT (d9 Y4 hr rfl (aA
  (aY dS (aY cW (aW aZ (pv 0) aE (λ_ _=>rfl)) (aW aZ (pv 1) aE (λ_ _=>rfl))) (aY cW (aW aZ (pv 1) aE (λ_ _=>rfl)) (aW aZ (pv 0) aE (λ_ _=>rfl))))
  (aA (aY cW (aW aZ (pv 0) aE (λ_ _=>rfl)) (aW aZ (pv 1) aE (λ_ _=>rfl))) aC)))),?_⟩
 refine fB rfl ha (cX rfl hb (cU bp.a bq.b () () (fB rfl hb (cX rfl ha (cU bq.a bp.b () () ⟨_,_,rfl,rfl,?_⟩)))));refine cX rfl ha (cX rfl hb (cU bp.b bq.b () () ⟨_,_,n+m,rfl,gZ lp lq,bp.b.mul bq.b,(),z⟩))
theorem Y7:DZ 3 Z.f7 Z.d7 ["one","other"] (wX Z.K) "over":=by
 refine⟨?_,F7.b2 _ _ (by intros;rfl),F7.kp,m7⟩
 refine F7.ok9 qe3 λ_ _ _ s H _ Q E hr h=>?_;obtain⟨a,b,p,q,n,m,rfl,ha,hb,lp,lq,h0,bp,bq,hn,z⟩:=h;refine⟨_,(aD (cC (bA eQ (aW aZ (pv 1) aE (λ_ _=>rfl)) aE (bC _)) (aG gW) bF)
  (aG (aT (d9 Y4 hr rfl (aA (aY cW (aW aZ (pv 0) aE (λ_ _=>rfl)) (aW aZ (pv 1) aE (λ_ _=>rfl))) (aA (aY cW (aW aZ (pv 0) aE (λ_ _=>rfl)) (aW aZ (pv 1) aE (λ_ _=>rfl))) aC)))))),?_⟩
 refine fB rfl hb ⟨rfl,_,rfl,?_⟩;rw[decide_eq_false (λe=>absurd (show q.1=0 by injection e) ())];refine gH ?_;refine fB rfl ha (cX rfl hb (cU bp.a bq.b () () ?_));exact cX rfl ha (fB rfl hb (cU bp.b bq.a () () ⟨_,_,n+m,rfl,Mq.uY lp (),bp.b.mul bq.a,(),z⟩))
theorem Y8:DZ 3 Z.f8 Z.d8 ["one","other"] (iI Z.K Mq.jB) "times":=by
 refine⟨?_,F8.b2 _ _ (by intros;rfl),F8.kp,m8⟩
 refine F8.ok9 Xk λ_ _ _ s H _ Q E hr h=>?_;obtain⟨a,b,p,q,n,m,rfl,ha,hb,lp,lq,bp,bq,hn,z⟩:=h;refine⟨_,aG (aT (d9 Y4 hr rfl (aA
  (aY cW (aW aZ (pv 0) aE (λ_ _=>rfl)) (aW aZ (pv 1) aE (λ_ _=>rfl)))
  (aA (aY cW (aW aZ (pv 0) aE (λ_ _=>rfl)) (aW aZ (pv 1) aE (λ_ _=>rfl))) aC)))),?_⟩
 refine fB rfl ha (fB rfl hb (cU bp.a bq.a () () ?_));refine cX rfl ha (cX rfl hb (cU bp.b bq.b () () ⟨_,_,n+m,rfl,gZ lp lq,bp.b.mul bq.b,(),z⟩))
theorem R9:FZ CX0 1 Z.f9 Z.d9 ["self","start","goal","size"] (vC (kd3 Z.c_Piece Z.c_Push Z.c_Hold)):=by
 refine F9.ok9 Up λ_ _ _ s H _ Q E hr h=>?_;obtain⟨x,dx,k,s,g,z,rfl,hx,q⟩:=h;refine⟨_,(aD (iC (pv 0) (pv 1) rfl) (aD (iC (pv 0) (pv 2) rfl) (aG (iC (pv 0) (pv 3) rfl)))),?_⟩;have l1:=dU ("start":Str) s [];have l2:=dU ("goal":Str) g (cP "start" s []);simp only[length_nil] at l1;refine⟨_,rfl,_,rfl,x,(kd3 Z.c_Piece Z.c_Push Z.c_Hold) k,dx,[],rfl,hx,T.cl k,T.nS k,(by show 0 < 1000;decide),?_⟩;refine⟨_,rfl,_,rfl,x,(kd3 Z.c_Piece Z.c_Push Z.c_Hold) k,dx,_,rfl,aB,T.cl k,T.nG k,(),?_⟩;refine⟨_,rfl,_,rfl,x,(kd3 Z.c_Piece Z.c_Push Z.c_Hold) k,dx,_,rfl,aB,T.cl k,T.nZ k,(),?_⟩;rw[rC,rC];exact q
theorem Y10:DZ 2 Z.f10 Z.d10 ["thing"] (Cj Z.K) "is_fraction":=by
 refine⟨?_,F10.b1 _ (by intros;rfl),F10.kp,m10⟩
 refine F10.ok9 qq6 λ_ _ _ s H _ Q E hr h=>?_;obtain⟨v,o,rfl,hz,q⟩:=h;refine⟨_,(aD (cC (PW.pt (kY (fY (dQ (iP (i:=0) rfl (Or.inl rfl) bl.isi n_tuple rfl rfl PyProof.Rows.boot_tuple))) (jT (bA qK (bL bQ rfl n_len PySem.boot_len (aA (pv 0) aC)) aE (bC _))))) (aG (aT gY)) bF)
  (aD (cC (PW.pt (kY (fY (dQ (d9 Y1 hr rfl (aA (aW aZ (pv 0) aE (λ_ _=>rfl)) aC)))) (jT (fY (dQ (d9 Y1 hr rfl (aA (aW aZ (pv 0) aE (λ_ _=>rfl)) aC))))))) (aG (aT gY)) bF)
  (aG (aT (tD (gL Ru (aW aZ (pv 0) aE (λ_ _=>rfl)) aE (bC _)) (xG (gL eQ (d9 Y2 hr rfl (aA (aW aZ (pv 0) aE (λ_ _=>rfl)) (aA (aW aZ (pv 0) aE (λ_ _=>rfl)) aC))) aE (bC _)))))))),?_⟩
 cases hz with
 |fr fa hp=>
  refine⟨_,_,true,rfl,.tup fa,rfl,_,rfl,gH ⟨_,rfl,_,_,rfl,.inr fa,rfl,_,rfl,gH ?_⟩⟩;refine fB rfl fa ⟨_,rfl,.inl ⟨_,rfl,_,rfl,gH (cX rfl fa ⟨_,rfl,.inl ⟨_,rfl,_,rfl,gH ?_⟩⟩)⟩⟩;have h1:=hp.pos;refine cX rfl fa ⟨_,_,rfl,rfl,_,rfl,ifT (decide_eq_true ()) (fB rfl fa (cX rfl fa ⟨_,_,rfl,rfl,?_⟩))⟩;rw[hp.one];exact q
 |ty h n=>exact⟨_,_,false,rfl,h,n,_,rfl,gC q⟩
 |len h=>exact⟨_,_,true,rfl,.tup h,rfl,_,rfl,gH ⟨_,rfl,_,_,rfl,.inr h,rfl,_,rfl,gC q⟩⟩
 |n0 h ty n=>
  refine⟨_,_,true,rfl,.tup h,rfl,_,rfl,gH ⟨_,rfl,_,_,rfl,.inr h,rfl,_,rfl,gH ?_⟩⟩;exact⟨_,rfl,_,_,0,_,rfl,rfl,h,rfl,_,rfl,.inr ⟨_,ty,n,_,rfl,gC q⟩⟩
 |n1 h ty n=>
  refine⟨_,_,true,rfl,.tup h,rfl,_,rfl,gH ⟨_,rfl,_,_,rfl,.inr h,rfl,_,rfl,gH ?_⟩⟩;exact⟨_,rfl,_,_,0,_,rfl,rfl,h,rfl,_,rfl,.inl ⟨_,rfl,_,rfl,gH ⟨_,rfl,_,_,1,_,rfl,rfl,h,rfl,_,rfl,.inr ⟨_,ty,n,_,rfl,gC q⟩⟩⟩⟩
 |fb fa c=>
  refine⟨_,_,true,rfl,.tup fa,rfl,_,rfl,gH ⟨_,rfl,_,_,rfl,.inr fa,rfl,_,rfl,gH ?_⟩⟩;refine fB rfl fa ⟨_,rfl,.inl ⟨_,rfl,_,rfl,gH (cX rfl fa ⟨_,rfl,.inl ⟨_,rfl,_,rfl,gH ?_⟩⟩)⟩⟩;rcases c with c | ⟨c,d⟩
  .exact cX rfl fa ⟨_,_,rfl,rfl,_,rfl,ifF (decide_eq_false ()) q⟩
  .refine cX rfl fa ⟨_,_,rfl,rfl,_,rfl,ifT (decide_eq_true c) (fB rfl fa (cX rfl fa ⟨_,_,rfl,rfl,?_⟩))⟩;rw[decide_eq_false (λe=>d (by injection e))];exact q
theorem R11:FZ CX0 1 Z.f11 Z.d11 ["self"] (iM Kd.pc):=by
 refine F11.ok9 Mi λ_ _ _ s H _ Q E hr h=>?_;obtain⟨x,rfl,q⟩:=h;exact⟨_,(aG (aT bV)),q⟩
theorem R12:FZ CX0 1 Z.f12 Z.d12 ["self"] (iM Kd.pu):=by
 refine F12.ok9 Mz λ_ _ _ s H _ Q E hr h=>?_;obtain⟨x,rfl,q⟩:=h;exact⟨_,(aG (aT bV)),q⟩
theorem R13:FZ CX0 1 Z.f13 Z.d13 ["self"] (iM Kd.ho):=by
 refine F13.ok9 Mh λ_ _ _ s H _ Q E hr h=>?_;obtain⟨x,rfl,q⟩:=h;exact⟨_,(aG (aT bV)),q⟩
theorem GW:∀k:Kd,aL Z.P Z.w Z.K Z.mg ZB CX0 1 (kd3 Z.f11 Z.f12 Z.f13 k) (kd3 Z.d11 Z.d12 Z.d13 k) ["self"] (iM k):=jD (R11) (R12) (R13)
theorem bW:∀k:Kd,aM Z.K (kd3 Z.d11 Z.d12 Z.d13 k) ["self"] []:=jD (b11) (b12) (b13)
theorem mW:∀k:Kd,dE Z.K (kd3 Z.c_Piece Z.c_Push Z.c_Hold k) ("word") (kd3 Z.f11 Z.f12 Z.f13 k):=jD (⟨a11_0,i11,F11.kp⟩) (⟨a12_0,i12,F12.kp⟩) (⟨a13_0,i13,F13.kp⟩)
theorem R14:FZ CX0 1 Z.f14 Z.d14 ["self"] (oC Kd.pc):=by
 refine F14.ok9 Go λ_ _ _ s H _ Q E hr h=>?_;obtain⟨x,rfl,q⟩:=h;exact⟨_,(aG (aT gY)),q⟩
theorem R15:FZ CX0 1 Z.f15 Z.d15 ["self"] (oC Kd.pu):=by
 refine F15.ok9 Fz λ_ _ _ s H _ Q E hr h=>?_;obtain⟨x,rfl,q⟩:=h;exact⟨_,(aG (aT gY)),q⟩
theorem R16:FZ CX0 1 Z.f16 Z.d16 ["self"] (oC Kd.ho):=by
 refine F16.ok9 Ip λcdv A outer s H vs Q E hr h=>?_;obtain⟨x,rfl,q⟩:=h;exact⟨_,(aG (aT gY)),q⟩
theorem GJ:∀k:Kd,aL Z.P Z.w Z.K Z.mg ZB CX0 1 (kd3 Z.f14 Z.f15 Z.f16 k) (kd3 Z.d14 Z.d15 Z.d16 k) ["self"] (oC k):=jD (R14) (R15) (R16)
theorem bJ:∀k:Kd,aM Z.K (kd3 Z.d14 Z.d15 Z.d16 k) ["self"] []:=jD (b14) (b15) (b16)
theorem mJ:∀k:Kd,dE Z.K (kd3 Z.c_Piece Z.c_Push Z.c_Hold k) ("joins") (kd3 Z.f14 Z.f15 Z.f16 k):=jD (⟨a14_0,i14,F14.kp⟩) (⟨a15_0,i15,F15.kp⟩) (⟨a16_0,i16,F16.kp⟩)
theorem R17:FZ CX0 2 Z.f17 Z.d17 ["self"] (uJ (kd3 Z.c_Piece Z.c_Push Z.c_Hold)):=by
 refine F17.ok9 Uq λ_ _ _ s H _ Q E hr h=>?_;obtain⟨x,k,s,g,z,rfl,⟨dx,hx⟩,q⟩:=h;refine⟨_,(aG (aT (cF (aA (eJ (pv 0) T.cl mW GW hr bW .nil aK) (aA (bX (pv 0) rfl) (aA (bX (pv 0) rfl) (aA (bX (pv 0) rfl) aC))))))),?_⟩;refine⟨_,rfl,k,x,dx,_,rfl,hx,(cT _ _ _ ∅ ∅ ∅),_,rfl,?_⟩;refine⟨_,rfl,x,(kd3 Z.c_Piece Z.c_Push Z.c_Hold) k,dx,_,_,rfl,hx,T.cl k,T.nS k,dI _ _ _,?_⟩;refine⟨_,rfl,x,(kd3 Z.c_Piece Z.c_Push Z.c_Hold) k,dx,_,_,rfl,hx,T.cl k,T.nG k,dW _ _ _,?_⟩;refine⟨_,rfl,x,(kd3 Z.c_Piece Z.c_Push Z.c_Hold) k,dx,_,_,rfl,hx,T.cl k,T.nZ k,eU _ _ _,?_⟩;exact⟨zl9 4,q⟩
theorem mT:∀k:Kd,dE Z.K (kd3 Z.c_Piece Z.c_Push Z.c_Hold k) ("told") Z.f17:=jD (⟨a17_0,i17,F17.kp⟩) (⟨a17_1,i17,F17.kp⟩) (⟨a17_2,i17,F17.kp⟩)
theorem Y18:DZ 3 Z.f18 Z.d18 ["told"] (lW Z.K (kd3 Z.c_Piece Z.c_Push Z.c_Hold)) "row_of":=by
 refine⟨?_,F18.b1 _ (by intros;rfl),F18.kp,m18⟩
 refine F18.ok9 Lf λ_ _ _ s H _ Q E hr h=>?_;obtain⟨t,v,s,g,z,rfl,hT,k,rfl,q⟩:=h;refine⟨_,(aD (qQ0 (i:=1) Lf.nd (aW aZ (pv 0) aE (λ_ _=>rfl)))
  (aD (cC (PW.pt (rT (dQ (iP (i:=1) rfl (Or.inl rfl) bl.isi n_str rfl rfl PyProof.Rows.boot_str)) (nQ (bA eQ (pv 1) bV (bC _))))) (aG (aT (gN (MK .pc) R9 hr rfl (T.mK .pc) b9 .nil aK (aA (aW aZ (pv 0) aE (λ_ _=>rfl)) (aA (aW aZ (pv 0) aE (λ_ _=>rfl)) (aA (aW aZ (pv 0) aE (λ_ _=>rfl)) aC)))))) bF)
  (aD (cC (PW.pt (rT (dQ (iP (i:=1) rfl (Or.inl rfl) bl.isi n_str rfl rfl PyProof.Rows.boot_str)) (nQ (bA eQ (pv 1) bV (bC _))))) (aG (aT (gN (MK .pu) R9 hr rfl (T.mK .pu) b9 .nil aK (aA (aW aZ (pv 0) aE (λ_ _=>rfl)) (aA (aW aZ (pv 0) aE (λ_ _=>rfl)) (aA (aW aZ (pv 0) aE (λ_ _=>rfl)) aC)))))) bF)
  (aD (cC (PW.pt (rT (dQ (iP (i:=1) rfl (Or.inl rfl) bl.isi n_str rfl rfl PyProof.Rows.boot_str)) (nQ (bA eQ (pv 1) bV (bC _))))) (aG (aT (gN (MK .ho) R9 hr rfl (T.mK .ho) b9 .nil aK (aA (aW aZ (pv 0) aE (λ_ _=>rfl)) (aA (aW aZ (pv 0) aE (λ_ _=>rfl)) (aA (aW aZ (pv 0) aE (λ_ _=>rfl)) aC)))))) bF)
  (aG gW))))),?_⟩
 cases k
 .refine Ij (λ_ _=>False) (λX _=>?_) (λ_ _ h=>h.elim);refine⟨_,rfl,t,_,0,_,rfl,rfl,hT,rfl,?_⟩;exact⟨_,_,true,rfl,.of (.str _),rfl,_,rfl,gC ⟨_,rfl,rfl,_,rfl,ifT (dF .pc .pc) ⟨_,rfl,t,_,1,s,rfl,rfl,hT,rfl,_,rfl,t,_,2,g,rfl,rfl,hT,rfl,_,rfl,t,_,3,z,rfl,rfl,hT,rfl,λx dx h1 h2 ne=>⟨x,dx,.pc,s,g,z,rfl,aB,rfl,by rw[rC];exact q x _ (Rw.new h1 h2 ne) h1 ⟨dx,aB⟩⟩⟩⟩⟩
 .refine qe0 (λ_ _=>False) (λX _=>?_) (λ_ _ h=>h.elim);refine⟨_,rfl,t,_,0,_,rfl,rfl,hT,rfl,?_⟩;exact⟨_,_,true,rfl,.of (.str _),rfl,_,rfl,gC ⟨_,rfl,rfl,_,rfl,ifF (dF .pu .pc) (⟨_,_,true,rfl,.of (.str _),rfl,_,rfl,gC ⟨_,rfl,rfl,_,rfl,ifT (dF .pu .pu) ⟨_,rfl,t,_,1,s,rfl,rfl,hT,rfl,_,rfl,t,_,2,g,rfl,rfl,hT,rfl,_,rfl,t,_,3,z,rfl,rfl,hT,rfl,λx dx h1 h2 ne=>⟨x,dx,.pu,s,g,z,rfl,aB,rfl,by rw[rC];exact q x _ (Rw.new h1 h2 ne) h1 ⟨dx,aB⟩⟩⟩⟩⟩)⟩⟩
 .refine qs8 (λ_ _=>False) (λX _=>?_) (λ_ _ h=>h.elim);refine⟨_,rfl,t,_,0,_,rfl,rfl,hT,rfl,?_⟩;exact⟨_,_,true,rfl,.of (.str _),rfl,_,rfl,gC ⟨_,rfl,rfl,_,rfl,ifF (dF .ho .pc) (⟨_,_,true,rfl,.of (.str _),rfl,_,rfl,gC ⟨_,rfl,rfl,_,rfl,ifF (dF .ho .pu) (⟨_,_,true,rfl,.of (.str _),rfl,_,rfl,gC ⟨_,rfl,rfl,_,rfl,ifT (dF .ho .ho) ⟨_,rfl,t,_,1,s,rfl,rfl,hT,rfl,_,rfl,t,_,2,g,rfl,rfl,hT,rfl,_,rfl,t,_,3,z,rfl,rfl,hT,rfl,λx dx h1 h2 ne=>⟨x,dx,.ho,s,g,z,rfl,aB,rfl,by rw[rC];exact q x _ (Rw.new h1 h2 ne) h1 ⟨dx,aB⟩⟩⟩⟩⟩)⟩⟩)⟩⟩
theorem R19:FZ CX0 4 Z.f19 Z.d19 ["self","fall","held"] (rX Z.K (kd3 Z.c_Piece Z.c_Push Z.c_Hold) Kd.pc):=by
 refine F19.ok9 Dg λ_ _ _ s H _ Q E hr h=>?_;obtain⟨x,z,a,h,s,g,p,u,v,n,m,rfl,⟨dx,hx⟩,fz,fa,fh,hp,hu,bp,bu,hn,h0,q⟩:=h;refine⟨_,(aG (aT (d9 Y7 hr rfl (aA (pv 1) (aA (bX (pv 0) rfl) aC))))),?_⟩;exact⟨_,rfl,_,rfl,x,(kd3 Z.c_Piece Z.c_Push Z.c_Hold) .pc,dx,_,_,rfl,hx,T.cl _,T.nZ _,eU _ _ _,a,z,u,p,m,n,rfl,fa,fz,hu,hp,h0 rfl,bu,bp,(),λr H1 s1 e1=>q r H1 s1 (Fq.of e1)⟩
theorem R20:FZ CX0 4 Z.f20 Z.d20 ["self","fall","held"] (rX Z.K (kd3 Z.c_Piece Z.c_Push Z.c_Hold) Kd.pu):=zU (P:=Z.P) (w:=Z.w) (mg:=Z.mg) (base:=ZB) (CX:=CX0) F20 T
theorem R21:FZ CX0 4 Z.f21 Z.d21 ["self","fall","held"] (rX Z.K (kd3 Z.c_Piece Z.c_Push Z.c_Hold) Kd.ho):=As (P:=Z.P) (w:=Z.w) (mg:=Z.mg) (base:=ZB) (CX:=CX0) F21 T
theorem GS:∀k:Kd,aL Z.P Z.w Z.K Z.mg ZB CX0 4 (kd3 Z.f19 Z.f20 Z.f21 k) (kd3 Z.d19 Z.d20 Z.d21 k) ["self","fall","held"] (rX Z.K (kd3 Z.c_Piece Z.c_Push Z.c_Hold) k):=jD (R19) (R20) (R21)
theorem bS:∀k:Kd,aM Z.K (kd3 Z.d19 Z.d20 Z.d21 k) ["self","fall","held"] []:=jD (b19) (b20) (b21)
theorem mS:∀k:Kd,dE Z.K (kd3 Z.c_Piece Z.c_Push Z.c_Hold k) ("stream") (kd3 Z.f19 Z.f20 Z.f21 k):=jD (⟨a19_0,i19,F19.kp⟩) (⟨a20_0,i20,F20.kp⟩) (⟨a21_0,i21,F21.kp⟩)
theorem Y22:DZ 3 Z.f22 Z.d22 ["thing"] (Sz Z.K) "is_piece_size":=by
 refine⟨?_,F22.b1 _ (by intros;rfl),F22.kp,m22⟩
 refine F22.ok9 qs3 λ_ _ _ s H _ Q E hr h=>?_;obtain⟨v,o,rfl,hz,hb,q⟩:=h;have r1:=hr.mono (show 1<=2 by lia);refine⟨_,(aG (aT (tD (d9 Y10 hr rfl (aA (pv 0) aC)) (xG (d9 Y3 r1 rfl (aA (cQ (v:=.ref Z.aN) rfl mv_NOUGHT rfl) (aA (pv 0) aC))))))),?_⟩;refine⟨_,rfl,v,o,rfl,hz,_,rfl,?_⟩
 cases o with
 |none=>exact gH q
 |some p=>
  cases hz with
  |fr fa hp=>
   refine gC ⟨_,rfl,Z.aN,_,_,p,1,1000,rfl,fN _,fa,⟨show (0:Nat) < 2 ^ 1 by decide,show (1:Nat) < 2 ^ 1 by decide⟩,hb p rfl,(),?_⟩;have e:decide ((0,1).1*p.2 < p.1*(0,1).2)=okz .pc (some p):=by
    show decide ((0:Int)*p.2 < p.1*1)=decide (0 < p.1);rw[Int.zero_mul,Int.mul_one]
   rw[e];exact q
theorem Y23:DZ 2 Z.f23 Z.d23 ["thing","bound"] (Jz Z.K) "is_number_below":=by
 refine⟨?_,F23.b2 _ _ (by intros;rfl),F23.kp,m23⟩
 refine F23.ok9 qt1 λ_ _ _ s H _ Q E hr h=>?_;obtain⟨v,b',o,rfl,h,q⟩:=h;refine⟨_,(aG (aT (tD (d9 Y1 hr rfl (aA (pv 0) aC)) (tD (gL Ru (pv 0) aE (bC _)) (xG (gL xW (pv 0) (pv 1) (bC _))))))),?_⟩
 cases h with
 | @ok i h0 h1=>
  refine⟨_,rfl,_,rfl,.inl ⟨i,rfl,_,rfl,gC ⟨_,rfl,_,_,rfl,rfl,_,rfl,L2.ifT (decide_eq_true h0) ⟨_,rfl,_,rfl,_,_,rfl,rfl,?_⟩⟩⟩⟩;show Q (.bl (decide (i < b'))) H;rw[decide_eq_true h1];exact q
 | @no i h=>
  refine⟨_,rfl,_,rfl,.inl ⟨i,rfl,_,rfl,gC ⟨_,rfl,_,_,rfl,rfl,_,rfl,?_⟩⟩⟩
  by_cases h0:0<=i
  .refine L2.ifT (decide_eq_true h0) ⟨_,rfl,_,rfl,_,_,rfl,rfl,?_⟩;show Q (.bl (decide (i < b'))) H;rw[decide_eq_false (λz=>h ⟨h0,z⟩)];exact q
  .exact L2.ifF (decide_eq_false h0) q
 |ty ty n=>exact⟨_,rfl,_,rfl,.inr ⟨_,ty,n,_,rfl,gH q⟩⟩
theorem R24:FZ (CX1 Z.P Z.w) 4 Z.f24 Z.d24 ["word","size"] (Ja Z.K Z.c_NoSize):=by
 refine F24.okX qs0 (λvs H Q E h=>?_) λcdv A outer s H vs Q E hr h=>?_
 .obtain⟨_,_,_,rfl,_⟩:=h;rfl
 obtain⟨k,v,o,rfl,hz,hb,q1,q2⟩:=h;have r2:=hr.mono (show 2<=3 by lia);refine⟨_,(aD (cC (fY (dQ (d9 Y10 r2 rfl (aA (pv 1) aC)))) (aG (xC jA oH rfl rfl mc_NoSize x1_NoSize (aA bV aC))) bF)
  (aG (cC (PW.pt (rT (bA eQ (pv 0) bV (bC _)) (nQ (fY (dQ (d9 Y22 hr rfl (aA (pv 1) aC))))))) (aG (xC jA oH rfl rfl mc_NoSize x1_NoSize (aA bV aC))) bF))),?_⟩
 refine⟨_,rfl,v,o,rfl,hz,_,rfl,?_⟩
 cases o with
 |none=>exact gC ⟨zl9 1,q2 rfl⟩
 |some p=>
  refine gH ?_
  cases k
  .refine⟨_,rfl,rfl,_,rfl,L2.ifT (dF .pc .pc) ⟨_,rfl,v,some p,rfl,hz,hb,_,rfl,?_⟩⟩
   cases e:okz .pc (some p) with
   |true=>exact gH (q1 e)
   |false=>exact gC ⟨zl9 1,q2 e⟩
  .exact⟨_,rfl,rfl,_,rfl,L2.ifF (dF .pu .pc) (gH (q1 rfl))⟩
  .exact⟨_,rfl,rfl,_,rfl,L2.ifF (dF .ho .pc) (gH (q1 rfl))⟩
theorem X1:D9 Z.P Z.w Z.K Z.mg ZB 2 Z.f23 Z.d23 ["thing","bound"] qh0 "is_number_below":=⟨Wd Y23.G,Y23.b,F23.kp,m23⟩
theorem Y25:DZ 3 Z.f25 Z.d25 ["some","many"] (qg0 Z.K) "refuse_points":=by
 refine⟨?_,F25.b2 _ _ (by intros;rfl),F25.kp,m25⟩
 refine F25.ok9 qs9 λ_ _ _ s H _ Q E hr h=>?_;obtain⟨l,i,j,m,rfl,hl,i0,i1,j0,j1,q⟩:=h;refine⟨_,(aG (cC (fY (dQ (bL (Sy rfl) rfl n_all PyProof.Rows.boot_all (aA (fV (nl:=1) (fr:=[1]) (Nc:=["point","many"]) (cl:=[("many",s.heap.objs.size+1)]) rfl ⟨rfl,rfl,∅,∅,λx c h=>h,fI rfl,rfl,λi n h=>match i,h with | 0,h=>by cases h;exact⟨1,rfl,rfl,rfl,rfl,.inl rfl⟩ | k+1,h=>by rw[show 1+(k+1)=k+2 by lia] at h;cases h⟩
    (dM (pv 0)) (λ_ _ _ _ _=>(qQ1 (i:=0) yG)) (λ_ _ _ _ _=>fX)
    (λ_ _ _ _ _=>(d9 X1 hr rfl (aA (pv 0) (aA (pv 1) aC))))) aC)))) (aG gW) bF)),?_⟩
 refine⟨_,rfl,l,rfl,⟨_,hl⟩,λD hD=>?_⟩;have sD:=aF hD (.lst []);refine fC (xs:=[.int i,.int j]) (λk zs H'=>aV H H'/\H' D=some (.lst zs)/\zs=(replicate k true).map V.bl) ⟨sD,aB,rfl⟩ (λk zs H' h=>h.2.1) (λk zs H' _ h=>h.1.seq hl) ?_ ?_
 .rintro k zs x H1 hx ⟨s1,e1,rfl⟩ C hC;have hk:k < 2:=(List.getElem?_eq_some_iff.mp hx).1;obtain⟨y,rfl,y0,y1⟩:∃y,x=.int y/\0<=y/\y < m:=by
   rcases mem_cons.mp (mem_of_getElem? hx) with z | z
   .exact⟨i,z,i0,i1⟩
   .exact⟨j,by simpa using z,j0,j1⟩
  refine⟨fR.1,fR.2,gC ?_⟩;refine⟨_,rfl,_,rfl,y,m,rfl,y0,y1,e1,bK (by rw[length_map,length_replicate];lia),hC _ _ ⟨s1.change hD,aB,?_⟩⟩;rw[replicate_succ',map_append];rfl
 .rintro zs H1 ⟨s1,e1,rfl⟩;refine⟨D,_,rfl,SqL.of e1,_,rfl,ifF ?_ ?_⟩
  .simp
  .exact q _ s1
theorem R26:FZ (CX1 Z.P Z.w) 3 Z.f26 Z.d26 ["k","count"] (Jv Z.K Z.c_NoRow):=by
 refine F26.okX qt8 (λvs H Q E h=>?_) λcdv A outer s H vs Q E hr h=>?_
 .obtain⟨_,_,_,rfl,_⟩:=h;rfl
 obtain⟨v,c,o,rfl,h,q1,q2⟩:=h;refine⟨_,(aG (cC (fY (dQ (d9 Y23 hr rfl (aA (pv 0) (aA (pv 1) aC))))) (aG (xC jA oH rfl rfl mc_NoRow x1_NoRow (aA bV aC))) bF)),?_⟩;refine⟨_,rfl,_,rfl,v,c,o,rfl,h,_,rfl,?_⟩
 cases e:o.isSome with
 |true=>exact gH (q1 e)
 |false=>exact gC ⟨zl9 1,q2 e⟩
theorem R27:FZ CX0 2 Z.f27 Z.d27 ["self","many"] (vD Z.c_Net):=by
 refine F27.ok9 Wy λ_ _ _ s H _ Q E hr h=>?_;obtain⟨n,dx,m,rfl,hn,h1,h20,q⟩:=h;refine⟨_,(aD (cC (PW.pt (kY (fY (dQ (d9 Y1 hr rfl (aA (pv 1) aC)))) (kY (bA xW (pv 1) aE (bC _)) (jT (bA Jh (pv 1) (cQ (v:=.int 20) rfl mv_MOST_POINTS ⟨_,rfl⟩) (bC _)))))) (aG gW) bF)
  (aD (iC (pv 0) (pv 1) rfl)
  (aG (iC (pv 0) (cD aC) rfl)))),?_⟩
 refine⟨_,rfl,_,rfl,.inl ⟨m,rfl,_,rfl,gH ⟨_,rfl,_,_,rfl,rfl,_,rfl,ifF (decide_eq_false ()) ⟨_,rfl,_,_,rfl,rfl,_,rfl,ifF (decide_eq_false ()) ?_⟩⟩⟩⟩;refine⟨_,rfl,_,rfl,n,Z.c_Net,dx,[],rfl,hn,NTx.cl,NTx.nP,(by show 0 < 1000;decide),?_⟩;refine⟨zl9 0,λl hl=>?_⟩;have nl:n≠l:=λz=>by subst z;rw[aB] at hl;cases hl
 have hl0:H l=none:=by rw[aX (Ne.symm nl)] at hl;exact hl
 have l1:=dU ("point_count":Str) (.int m) [];simp only[length_nil] at l1;refine⟨_,rfl,n,Z.c_Net,dx,cP "point_count" (.int m) [],rfl,by rw[aX nl];exact aB,NTx.cl,NTx.nK,(),?_⟩;refine q l _ hl0 (λb o e hb=>?_) aB (by rw[aX (Ne.symm nl)];exact aB);rw[aX hb,aX (aQ e hl0),aX hb];exact e
theorem R28:FZ CX0 1 Z.f28 Z.d28 ["self"] (mB Z.c_Net Z.K):=by
 refine F28.ok9 Zw λ_ _ _ s H _ Q E hr h=>?_;obtain⟨n,l,m,ds,rfl,⟨⟨dx,hn⟩,ts,hl,hr'⟩,q⟩:=h;exact⟨_,(aG (aT (bX (pv 0) rfl))),_,rfl,n,Z.c_Net,dx,_,_,rfl,hn,NTx.cl,NTx.nP,vE _ _,q⟩
theorem R29:FZ CX0 1 Z.f29 Z.d29 ["self"] (Bw Z.c_Net Z.K):=by
 refine F29.ok9 Vx λ_ _ _ s H _ Q E hr h=>?_;obtain⟨n,l,m,ds,rfl,⟨⟨dx,hn⟩,ts,hl,hr'⟩,q⟩:=h;refine⟨_,(aG (aT (iQ gF rfl n_list PyProof.Rows.boot_list (aA (bX (pv 0) rfl) aC)))),_,rfl,n,Z.c_Net,dx,_,_,rfl,hn,NTx.cl,NTx.nK,eT _ _,l,ts,rfl,.inl (SqL.of hl),λa ha=>?_⟩;have sa:=aF ha (.lst ts);exact q a ts _ sa ha aB (hr'.same sa)
theorem X2:D9 Z.P Z.w Z.K Z.mg ZB 4 Z.f24 Z.d24 ["word","size"] (qh3 Z.K) "refuse_size":=⟨qn5 R24,b24,F24.kp,m24⟩
theorem R30:FZ CX0 5 Z.f30 Z.d30 ["self","row"] (Ke Z.c_Net Z.K (kd3 Z.c_Piece Z.c_Push Z.c_Hold)):=by
 refine F30.ok9 Ys λ_ _ _ s H _ Q E hr h=>?_;obtain⟨n,l,x,z,m,ds,k,i,j,p,rfl,⟨⟨dx,hn⟩,ts,hl,hR⟩,rw,fz,⟨i0,i1,j0,j1,lp,h0,bp⟩,h40,q⟩:=h;have r2:=hr.mono (show 2<=4 by lia);have r3:=hr.mono (show 3<=4 by lia);refine⟨_,(aD (qQ0 (i:=2) Ys.nd (eJ (f:=λ_=>Z.f17) (fd:=λ_=>Z.d17) (sp:=λ_=>uJ (kd3 Z.c_Piece Z.c_Push Z.c_Hold)) (pv 1) T.cl mT (λ_=>R17) r2 (λ_=>b17) .nil aK))
  (aD (bZ (d9 Y25 r3 rfl (aA (cD (aA (aW aZ (pv 2) aE (λ_ _=>rfl)) (aA (aW aZ (pv 2) aE (λ_ _=>rfl)) aC))) (aA (bX (pv 0) rfl) aC))))
  (aD (bZ (d9 X2 hr rfl (aA (aW aZ (pv 2) aE (λ_ _=>rfl)) (aA (aW aZ (pv 2) aE (λ_ _=>rfl)) aC))))
  (aD (cC (bA Ru (bL bQ rfl n_len PySem.boot_len (aA (bX (pv 0) rfl) aC)) (cQ (v:=.int 40) rfl mv_MOST_ROWS ⟨_,rfl⟩) (bC _)) (aG gW) bF)
  (aD (bZ (mY PySem.F.plainAttrs_list PySem.F.slot_list_append PySem.F.type_list_append fD (bX (pv 0) rfl) (aA (pv 2) aC)))
  (aG (aT (aY iW (bL bQ rfl n_len PySem.boot_len (aA (bX (pv 0) rfl) aC)) aE)))))))),?_⟩
 obtain⟨dr,hx⟩:=id rw;have len:=hR.length;refine⟨_,rfl,k,x,dr,_,rfl,hx,(cT _ _ _ ∅ ∅ ∅),x,k,_,_,_,rfl,rw,λt ht=>?_⟩;have st:=aF ht (.tup [.str k.wd,.int i,.int j,.ref z]);have et:SqT Z.K (upd H t (.tup [.str k.wd,.int i,.int j,.ref z])) t [.str k.wd,.int i,.int j,.ref z]:=SqT.of aB;generalize upd H t (.tup [.str k.wd,.int i,.int j,.ref z])=H1a at st et ⊢;have hn1:=st _ _ hn;have hl1:=st _ _ hl;refine⟨_,rfl,t,_,1,_,rfl,rfl,et,rfl,_,rfl,t,_,2,_,rfl,rfl,et,rfl,zl9 2,λlq hlq=>?_⟩;have sq:=aF hlq (.lst [.int i,.int j]);have eq:upd H1a lq (.lst [.int i,.int j]) lq=some (.lst [.int i,.int j]):=aB;generalize upd H1a lq (.lst [.int i,.int j])=H1b at sq eq ⊢;have hnb:=sq _ _ hn1;refine⟨_,rfl,n,Z.c_Net,dx,_,_,rfl,hnb,NTx.cl,NTx.nP,vE _ _,lq,i,j,m,rfl,SqL.of eq,i0,i1,j0,j1,λH1 sc=>?_⟩;have sqc:=sq.trans sc;have st:=st.trans sqc;have et:=sqc.seqT et;have hn1:=sqc _ _ hn1;have hl1:=sqc _ _ hl1;refine⟨_,rfl,t,_,0,_,rfl,rfl,et,rfl,_,rfl,t,_,3,_,rfl,rfl,et,rfl,k,z,p,rfl,st.fq fz,lp,h0,bp,?_⟩;refine⟨_,rfl,n,Z.c_Net,dx,_,_,rfl,hn1,NTx.cl,NTx.nK,eT _ _,l,ts,rfl,.inl (SqL.of hl1),_,_,rfl,rfl,_,rfl,ifF (decide_eq_false ()) ?_⟩;refine⟨_,rfl,n,Z.c_Net,dx,_,_,rfl,hn1,NTx.cl,NTx.nK,eT _ _,.inl ⟨rfl,_,SqL.of hl1⟩,_,rfl,l,ts,.ref t,rfl,rfl,hl1,bK (),?_⟩;have nn:n≠l:=cZ hn1 hl1 (λz=>by cases z);have hn2:upd H1 l (.lst (ts++[.ref t])) n=some (.ins Z.c_Net dx (gP m l)):=by rw[aX nn];exact hn1
 have hl2:upd H1 l (.lst (ts++[.ref t])) l=some (.lst (ts++[.ref t])):=aB;refine⟨_,rfl,n,Z.c_Net,dx,_,_,rfl,hn2,NTx.cl,NTx.nK,eT _ _,l,_,rfl,.inl (SqL.of hl2),_,_,rfl,rfl,?_⟩;show Q (.int (((ts++[V.ref t]).length:Int) - 1)) _;rw[List.length_append,length_singleton,len,show (((ds.length+1:Nat):Int) - 1)=(ds.length:Int) by lia];refine q _ (st.x.write) ⟨⟨dx,hn2⟩,_,hl2,Rts.upd hl1 ((hR.same st).app (.cons et (st.fq fz) .nil))⟩
theorem R31:FZ (CX1 Z.P Z.w) 5 Z.f31 Z.d31 ["self","k","size"] (oI Z.c_Net Z.K Z.c_NoRow Z.c_NoSize):=by
 refine F31.okX Ek (λvs H Q E h=>?_) λcdv A outer s H vs Q E hr h=>?_
 .obtain⟨_,_,_,_,_,_,_,_,rfl,_⟩:=h;rfl
 obtain⟨n,l,m,ds,v,zv,o,oz,rfl,⟨⟨dx,hn⟩,ts,hl,hR⟩,hp,hz,hb,qR,q⟩:=h;have r3:=hr.mono (show 3<=4 by lia);refine⟨_,(aD (bZ (aH R26 r3 rfl m26 F26.kp b26 .nil (rO jA oH) (aA (pv 1) (aA (bL bQ rfl n_len PySem.boot_len (aA (bX (pv 0) rfl) aC)) aC))))
  (aD (qQ0 (i:=3) Ek.nd (aW cA (bX (pv 0) rfl) (pv 1) (λ_ _=>rfl)))
  (aD (bZ (aH R24 hr rfl m24 F24.kp b24 .nil (rO jA oH) (aA (aW aZ (pv 3) aE (λ_ _=>rfl)) (aA (pv 2) aC))))
  (aG (mH (cF (aA (aW aZ (pv 3) aE (λ_ _=>rfl)) (aA (aW aZ (pv 3) aE (λ_ _=>rfl)) (aA (aW aZ (pv 3) aE (λ_ _=>rfl)) (aA (pv 2) aC))))) (pD (bX (pv 0) rfl) (pv 1) iZ)))))),?_⟩
 have len:=hR.length;refine⟨_,rfl,_,rfl,n,Z.c_Net,dx,_,_,rfl,hn,NTx.cl,NTx.nK,eT _ _,l,ts,rfl,.inl (SqL.of hl),v,_,o,rfl,by rw[len];exact hp,λeo=>?_,λeo=>qR (by cases o with | none=>rfl | some _=>cases eo)⟩
 cases hp with
 |no _=>cases eo
 |ty _ _=>cases eo
 | @ok q' q0 q1=>
 have lt:q'.toNat < ds.length:=by lia
 obtain⟨⟨k,i,j,p0⟩,hd⟩:∃d,ds[q'.toNat]?=some d:=⟨_,getElem?_eq_getElem lt⟩
 obtain⟨qZ,qG⟩:=q q' _ rfl hd;obtain⟨t,z0,et,ht,_⟩:=hR.at hd;have at_:atI ts q'=some (.ref t):=by
  have:=cO et
  rwa [show ((q'.toNat:Nat):Int)=q' by lia] at this
 have ix_:ixN ts.length q'=some q'.toNat:=by
  have:=kW (n:=ts.length) (k:=q'.toNat) ()
  rwa [show ((q'.toNat:Nat):Int)=q' by lia] at this
 refine⟨_,rfl,n,Z.c_Net,dx,_,_,rfl,hn,NTx.cl,NTx.nK,eT _ _,_,rfl,l,ts,q',_,rfl,rfl,SqL.of hl,at_,?_⟩;refine⟨_,rfl,t,_,0,_,rfl,rfl,ht,rfl,_,rfl,k,zv,oz,rfl,hz,hb,λez=>?_,λez=>qZ ez⟩
 cases oz with
 |none=>cases ez
 |some p=>
 cases hz with
 | @fr z _ fz lp=>
 refine⟨_,rfl,t,_,0,_,rfl,rfl,ht,rfl,_,rfl,t,_,1,_,rfl,rfl,ht,rfl,_,rfl,t,_,2,_,rfl,rfl,ht,rfl,_,rfl,zl9 4,λu hu=>?_⟩;have su:=aF hu (.tup [.str k.wd,.int i,.int j,.ref z]);have eu:SqT Z.K (upd H u (.tup [.str k.wd,.int i,.int j,.ref z])) u [.str k.wd,.int i,.int j,.ref z]:=SqT.of aB;generalize upd H u (.tup [.str k.wd,.int i,.int j,.ref z])=H1 at su eu ⊢;have hn1:=su _ _ hn;have hl1:=su _ _ hl;refine⟨_,rfl,n,Z.c_Net,dx,_,_,rfl,hn1,NTx.cl,NTx.nK,eT _ _,_,rfl,l,ts,q',q'.toNat,rfl,rfl,hl1,ix_,?_⟩;have nn:n≠l:=cZ hn1 hl1 (λz=>by cases z);exact qG p rfl ez _ (su.x.write) ⟨⟨dx,by rw[aX nn];exact hn1⟩,_,aB,Rts.upd hl1 (Rts.set eu (su.fq fz) _ (hR.same su))⟩
theorem R32:FZ CX0 4 Z.f32 Z.d32 ["self"] (kS Z.c_Net Z.K (kd3 Z.c_Piece Z.c_Push Z.c_Hold)):=by
 refine F32.ok9 qf7 λ_ _ _ s H _ Q E hr h=>?_;obtain⟨n,l,m,ds,rfl,⟨⟨dx,hn⟩,ts,hl,hR⟩,h100,q⟩:=h;refine⟨_,(aG (aT (fV (nl:=1) (fr:=[]) (Nc:=["told"]) (cl:=[]) rfl ⟨rfl,rfl,∅,∅,λx c h=>(by cases h),fI rfl,rfl,λi n h=>(by simp at h)⟩
    (dM (bX (pv 0) rfl)) (λ_ _ _ _ _=>(qQ1 (i:=0) Xl)) (λ_ _ _ _ _=>fX)
    (λ_ _ _ _ _=>(d9 Y18 hr rfl (aA (pv 0) aC)))))),?_⟩
 have len:=hR.length;refine⟨_,rfl,n,Z.c_Net,dx,_,_,rfl,hn,NTx.cl,NTx.nK,eT _ _,l,rfl,⟨_,SqL.of hl⟩,λD hD=>?_⟩;have sD:=aF hD (.lst []);refine fC (xs:=ts) (λi zs H'=>aV H H'/\H' D=some (.lst zs)/\hV (kd3 Z.c_Piece Z.c_Push Z.c_Hold) Z.K H' zs (ds.take i)) ⟨sD,aB,.nil⟩ (λi zs H' h=>h.2.1) (λi zs H' _ h=>h.1.seq (SqL.of hl)) ?_ ?_
 .rintro i zs x H1 hx ⟨s1,e1,R1⟩ C hC;have hi:i < ds.length:=by
   have:=(List.getElem?_eq_some_iff.mp hx).1;lia
  obtain⟨⟨k,u,v,p⟩,hd⟩:∃d,ds[i]?=some d:=⟨_,getElem?_eq_getElem hi⟩
  obtain⟨t,z,et,ht,fz⟩:=hR.at hd;have ex:x=.ref t:=by rw[et] at hx;exact(Option.some.inj hx).symm
  subst ex;have lz:=R1.length;rw[length_take] at lz;refine⟨fR.1,fR.2,gC ?_⟩;refine⟨_,rfl,t,_,_,_,_,rfl,s1.seqT ht,k,rfl,λy H2 s2 ny rw=>?_⟩;have e2:=s2 _ _ e1;refine⟨e2,bK (),hC _ _ ⟨(s1.trans s2).change hD,aB,?_⟩⟩;rw[take_add_one,hd];exact hV.upd e2 ((R1.same s2).app (.cons rw ((s1.trans s2).fq fz) .nil))
 .rintro zs H1 ⟨s1,e1,R1⟩;rw[len,take_length] at R1;exact q D zs H1 s1 hD e1 R1
theorem Y33:DZ 4 Z.f33 Z.d33 ["row","heights"] (uE Z.K (kd3 Z.c_Piece Z.c_Push Z.c_Hold)) "fall_of":=by
 refine⟨?_,F33.b2 _ _ (by intros;rfl),F33.kp,m33⟩
 refine F33.ok9 qk2 λcdv A outer s H vs Q E hr h=>?_;obtain⟨x,a,⟨k,i,j,p⟩,z,xs,hp,n,rfl,rw,st,pt,q⟩:=h;refine⟨_,(aG (aT (d9 Y5 hr rfl (aA (aW cA (pv 1) (bX (pv 0) rfl) (λ_ _=>rfl)) (aA (aW cA (pv 1) (bX (pv 0) rfl) (λ_ _=>rfl)) aC))))),?_⟩;obtain⟨dx,hx⟩:=id rw;obtain⟨i0,i1,j0,j1⟩:dD (n:Int) i j:=pt;have hl:=st.l;have ai:=xY (ps:=hp) (j:=i.toNat) ();have aj:=xY (ps:=hp) (j:=j.toNat) ();obtain⟨u,eu,fu⟩:=st.f.at ai;obtain⟨v,ev,fv⟩:=st.f.at aj;have ti:atI xs i=some (.ref u):=by
  have:=cO eu
  rwa [show ((i.toNat:Nat):Int)=i by lia] at this
 have tj:atI xs j=some (.ref v):=by
  have:=cO ev
  rwa [show ((j.toNat:Nat):Int)=j by lia] at this
 refine⟨_,rfl,_,rfl,x,(kd3 Z.c_Piece Z.c_Push Z.c_Hold) _,_,_,_,rfl,hx,T.cl _,T.nS _,dI _ _ _,a,xs,_,_,rfl,rfl,st.s,ti,?_⟩;refine⟨_,rfl,_,rfl,x,(kd3 Z.c_Piece Z.c_Push Z.c_Hold) _,_,_,_,rfl,hx,T.cl _,T.nG _,dW _ _ _,a,xs,_,_,rfl,rfl,st.s,tj,?_⟩;have bi:=st.b _ (mem_of_getElem? ai);have bj:=st.b _ (mem_of_getElem? aj);exact⟨u,v,_,_,3900,3900,rfl,fu,fv,bi.1.pos,bj.1.pos,bi.2,bj.2,(),q⟩
theorem Y34:DZ 1 Z.f34 Z.d34 ["marks","row"] (xZ Z.K (kd3 Z.c_Piece Z.c_Push Z.c_Hold)) "joined":=by
 refine⟨?_,F34.b2 _ _ (by intros;rfl),F34.kp,m34⟩
 refine F34.ok9 vP λ_ _ _ s H _ Q E hr h=>?_;obtain⟨a,x,ms,k,s0,g0,z,rfl,hS,rw,hs,hg,h100,q⟩:=h;refine⟨_,(aD (aS (i:=2) vP.nd rfl (Or.inr rfl) (aW cA (pv 0) (bX (pv 1) rfl) (λ_ _=>rfl)))
  (aD (aS (i:=3) vP.nd rfl (Or.inr rfl) (aW cA (pv 0) (bX (pv 1) rfl) (λ_ _=>rfl)))
  (aG (aT (fV (nl:=1) (fr:=[3,2]) (Nc:=["mark","lost","kept"]) (cl:=[("lost",s.heap.objs.size+2),("kept",s.heap.objs.size+1)]) rfl ⟨rfl,rfl,∅,∅,(dX rfl (dX rfl (oE))),fI rfl,rfl,λi n h=>match i,h with | 0,h=>by cases h;exact⟨3,rfl,rfl,rfl,rfl,.inl rfl⟩ | 1,h=>by cases h;exact⟨2,rfl,rfl,rfl,rfl,.inl rfl⟩ | k+2,h=>by rw[show 1+(k+2)=k+3 by lia] at h;cases h⟩
    (dM (pv 0)) (λ_ _ _ _ _=>(qQ1 (i:=0) pX)) (λ_ _ _ _ _=>fX)
    (λ_ _ _ _ _=>(qJ (bA eQ (pv 0) (pv 1) (bC _)) (pv 2) (pv 0)))))))),?_⟩
 obtain⟨dx,hx⟩:=id rw;have gi:∀{j:Nat},j < ms.length->atI (ms.map V.int) (j:Int)=some (.int (ms.getD j 0)):=λh=>cO (by rw[getElem?_map,getElem?_eq_getElem h,getD_eq_getElem?_getD,getElem?_eq_getElem h];rfl);refine⟨_,rfl,_,rfl,x,(kd3 Z.c_Piece Z.c_Push Z.c_Hold) _,_,_,_,rfl,hx,T.cl _,T.nS _,dI _ _ _,a,_,_,_,rfl,rfl,hS,gi hs,?_⟩;refine⟨_,rfl,_,rfl,x,(kd3 Z.c_Piece Z.c_Push Z.c_Hold) _,_,_,_,rfl,hx,T.cl _,T.nG _,dW _ _ _,a,_,_,_,rfl,rfl,hS,gi hg,?_⟩;refine⟨_,rfl,a,rfl,⟨_,hS⟩,λD hD=>?_⟩;have sD:=aF hD (.lst []);refine fC (xs:=ms.map V.int) (λi zs H'=>aV H H'/\H' D=some (.lst zs)/\zs=((jn ms s0 g0).take i).map V.int) ⟨sD,aB,rfl⟩ (λi zs H' h=>h.2.1) (λi zs H' _ h=>h.1.seq hS) ?_ ?_
 .rintro i zs x H1 hx' ⟨s1,e1,rfl⟩ C hC;rw[getElem?_map] at hx';obtain⟨c,hc,rfl⟩:=Option.map_eq_some_iff.mp hx';have hi:i < ms.length:=(List.getElem?_eq_some_iff.mp hc).1;have ej:(jn ms s0 g0)[i]?=some (if c=ms.getD g0 0 then ms.getD s0 0 else c):=by unfold jn;rw[getElem?_map,hc];rfl
  have lj:(jn ms s0 g0).length=ms.length:=by unfold jn;rw[length_map]
  refine⟨fR.1,fR.2,gC ?_⟩;refine⟨_,rfl,_,rfl,rfl,_,rfl,?_⟩
  by_cases h:c=ms.getD g0 0
  .rw[if_pos h] at ej;refine ifT (decide_eq_true (by rw[h])) ⟨_,rfl,e1,bK (by rw[length_map,length_take];lia),hC _ _ ⟨s1.change hD,aB,?_⟩⟩;rw[take_add_one,ej,map_append];rfl
  .rw[if_neg h] at ej;refine ifF (decide_eq_false (λz=>h (by injection z))) ⟨_,rfl,e1,bK (by rw[length_map,length_take];lia),hC _ _ ⟨s1.change hD,aB,?_⟩⟩;rw[take_add_one,ej,map_append];rfl
 .rintro zs H1 ⟨s1,e1,rfl⟩;have lj:(jn ms s0 g0).length=ms.length:=by unfold jn;rw[length_map]
  rw[length_map,<- lj,take_length] at e1;exact q D H1 s1 hD e1
theorem X3:dE Z.K Z.c_Net "many" Z.f28:=⟨a28_0,i28,F28.kp⟩
theorem X4:dE Z.K Z.c_Net "rows" Z.f32:=⟨a32_0,i32,F32.kp⟩
theorem Y35:DZ 5 Z.f35 Z.d35 ["net"] (Cd Z.c_Net Z.K) "marks_of":=by
 refine⟨?_,F35.b1 _ (by intros;rfl),F35.kp,m35⟩
 refine F35.ok9 uB λ_ _ _ s H _ Q E hr h=>?_;obtain⟨n,l,m,ds,rfl,nt,pt,hm,h100,q⟩:=h;have r1:=hr.mono (show 1<=4 by lia);refine⟨_,(aD (qQ0 (i:=1) uB.nd (Bs rfl rfl n_list rfl n_range (aA (bN (pv 0) NTx.cl X3 R28 r1 b28 .nil aK) aC)))
  (aD (gA PassesOwn.never rfl (dM (bN (pv 0) NTx.cl X4 R32 hr b32 .nil aK)) (qQ1 (i:=2) uB.nd)
   (aG (cC (dQ (eJ (pv 2) T.cl mJ GJ r1 bJ .nil aK)) (aG (qQ0 (i:=1) uB.nd (d9 Y34 r1 rfl (aA (pv 1) (aA (pv 2) aC))))) bF)))
  (aG (aT (pv 1))))),?_⟩
 obtain⟨dx,hn⟩:=nt.ob;refine⟨_,rfl,n,dx,_,rfl,hn,cI _ _ ∅ ∅,n,l,_,ds,rfl,nt,m,rfl,(),λD hD=>?_⟩;have sD:=aF hD (.lst ((List.range m).map λ(i:Nat)=>V.int (i:Int)));have eD:upd H D (.lst ((List.range m).map λ(i:Nat)=>V.int (i:Int))) D=some (.lst ((mks m (ds.take 0)).map V.int)):=by
  rw[aB];show some (HO.lst _)=some (HO.lst ((Ml m).map V.int));unfold Ml;rw[map_map];rfl
 generalize upd H D (.lst ((List.range m).map λ(i:Nat)=>V.int (i:Int)))=H1 at sD eD ⊢;refine⟨_,rfl,n,dx,_,rfl,sD _ _ hn,cI _ _ ∅ ∅,n,l,_,ds,rfl,nt.same sD,h100,λa xs H2 s2 na ea Rb=>?_⟩;have lxs:=Rb.length;refine⟨a,rfl,⟨_,SqL.of ea⟩,?_⟩;refine gU (xs:=xs) (λi σ H'=>aV H2 H'/\∃(c:Addr) (z:Option V),σ=[some (.ref n),some (.ref c),z]/\H c=none/\H' c=some (.lst ((mks m (ds.take i)).map V.int))) ⟨aV.refl _,D,none,rfl,hD,s2 _ _ eD⟩ (λi σ H' _ h=>h.1.seq (SqL.of ea)) ?_ ?_
 .rintro i x σ H3 hx ⟨s3,c,z,rfl,nc,ec⟩;have hi:i < ds.length:=by
   have:=(List.getElem?_eq_some_iff.mp hx).1;lia
  obtain⟨⟨k,u,v,p⟩,hd⟩:∃d,ds[i]?=some d:=⟨_,getElem?_eq_getElem hi⟩
  obtain⟨y,z',ey,rw,fz⟩:=Rb.at hd;have ex:x=.ref y:=by rw[ey] at hx;exact(Option.some.inj hx).symm
  subst ex;have rw3:=rw.same s3;obtain⟨dr,hy⟩:=id rw3;have et:ds.take (i+1)=ds.take i++[(k,u,v,p)]:=by rw[take_add_one,hd];rfl
  obtain⟨u0,u1,v0,v1⟩:dD (m:Int) u v:=pt _ (mem_of_getElem? hd);refine⟨_,rfl,k,y,dr,_,rfl,hy,(cT _ _ _ ∅ ∅ ∅),_,rfl,_,rfl,?_⟩
  by_cases hk:k=.pu
  .refine ifF (decide_eq_false (λz=>z hk)) ⟨s3,c,_,rfl,nc,?_⟩;rw[et,pO];unfold iX;rw[if_pos hk];exact ec
  .refine ifT (decide_eq_true hk) ⟨_,rfl,_,rfl,c,y,mks m (ds.take i),k,u.toNat,v.toNat,.ref z',rfl,SqL.of ec,?_,by rw[pQ];lia,by rw[pQ];lia,by rw[pQ];lia,λc' H4 s4 nc' ec'=>⟨s3.trans s4,c',_,rfl,?_,?_⟩⟩
   .rw[show ((u.toNat:Nat):Int)=u by lia,show ((v.toNat:Nat):Int)=v by lia];exact rw3
   .exact((sD.trans s2).trans s3).free nc'
   .rw[et,pO];unfold iX;rw[if_neg hk];exact ec'
 .rintro σ H3 ⟨s3,c,z,rfl,nc,ec⟩;rw[show ds.take xs.length=ds by rw[lxs,take_length]] at ec;exact⟨_,rfl,q c H3 ((sD.trans s2).trans s3) nc ec⟩
theorem Y36:DZ 6 Z.f36 Z.d36 ["net"] (Bn Z.c_Net Z.K) "floating":=by
 refine⟨?_,F36.b1 _ (by intros;rfl),F36.kp,m36⟩
 refine F36.ok9 Km λ_ _ _ s H _ Q E hr h=>?_;obtain⟨n,l,m,ds,rfl,nt,pt,h1,hm,h100,q⟩:=h;refine⟨_,(aD (aS (i:=1) Km.nd rfl (Or.inr rfl) (d9 Y35 hr rfl (aA (pv 0) aC)))
  (aG (aT (fV (nl:=2) (fr:=[1]) (Nc:=["point","mark","marks"]) (cl:=[("marks",s.heap.objs.size+1)]) (g:=(Fi Z.K 2 (kA (jJ 0) (kA (jJ 1) Hd)))) rfl ⟨rfl,rfl,∅,∅,λx c h=>h,fI rfl,rfl,λi n h=>match i,h with | 0,h=>by cases h;exact⟨1,rfl,rfl,rfl,rfl,.inl rfl⟩ | k+1,h=>by rw[show 2+(k+1)=k+3 by lia] at h;cases h⟩
    (uU rfl n_enumerate rfl (aA (pv 1) aC)) (λ_ _ _ _ _=>(kP rfl (dC (qQ1 (i:=0) iN) (dC (qQ1 (i:=1) iN) iO)))) (λ_ _ _ _ _=>(uA (bA qK (pv 1) (aW (Fc (K:=Z.K) rfl) (pv 2) aE (λ_ _=>rfl)) (bC _))))
    (λ_ _ _ _ _=>(pv 0)))))),?_⟩
 refine⟨_,rfl,n,l,m,ds,rfl,nt,pt,hm,h100,λM H1 s1 nM eM=>?_⟩;have mlen:=pQ m ds;have hS:SqL Z.K H1 M ((mks m ds).map V.int):=SqL.of eM;refine⟨_,rfl,M,rfl,⟨_,hS⟩,λD hD=>?_⟩;have sD:=aF hD (.lst []);refine yU (xs:=(mks m ds).map V.int) (λi zs H'=>aV H1 H'/\H' D=some (.lst zs)/\zs=(((List.range i).filter λp=>decide (mk m ds p≠mk m ds 0)).map λ(p:Nat)=>V.int (p:Int))) ⟨sD,aB,rfl⟩ (λi zs H' h=>h.2.1) (λi zs H' _ h=>h.1.seq hS) ?_ ?_
 .rintro i zs x H2 T2 hx ⟨s2,e2,rfl⟩ hT C hC;rw[getElem?_map] at hx;obtain⟨c,hc,rfl⟩:=Option.map_eq_some_iff.mp hx;have hi:i < m:=by have:=(List.getElem?_eq_some_iff.mp hc).1;lia
  have ec:c=mk m ds i:=by unfold mk;rw[getD_eq_getElem?_getD,hc];rfl
  have g0:atI ((mks m ds).map V.int) 0=some (.int (mk m ds 0)):=cO (j:=0) (by unfold mk;rw[getElem?_map,getElem?_eq_getElem (),getD_eq_getElem?_getD,getElem?_eq_getElem ()];rfl);have ll:(((List.range i).filter λp=>decide (mk m ds p≠mk m ds 0)).map λ(p:Nat)=>V.int (p:Int)).length<=20:=by
   rw[length_map];have:=length_filter_le (λp=>decide (mk m ds p≠mk m ds 0)) (List.range i);rw[length_range] at this;lia
  have sT:=aF hT (.tup [.int (i:Int),.int c]);refine⟨T2,_,rfl,SqT.of aB,rfl,_,_,rfl,_,_,rfl,rfl,lC.1,lC.2,?_⟩;generalize upd H2 T2 (.tup [.int (i:Int),.int c])=H3 at sT ⊢;have s3:=s2.trans sT;have e3:=sT _ _ e2;refine⟨_,rfl,_,rfl,M,_,_,_,rfl,rfl,s3.seq hS,g0,rfl,_,rfl,?_⟩;subst ec
  by_cases h:mk m ds i=mk m ds 0
  .refine ifF (by rw[h];simp) (hC _ _ ⟨s3,e3,?_⟩);rw[range_succ,filter_append,filter_cons_of_neg (by simp[h])];simp
  .refine ifT (by simp[h]) ⟨_,rfl,e3,bK (),hC _ _ ⟨s3.change hD,aB,?_⟩⟩;rw[range_succ,filter_append,filter_cons_of_pos (by simp[h]),map_append];rfl
 .rintro zs H2 ⟨s2,e2,rfl⟩;refine q D H2 (s1.trans s2) (s1.free hD) ?_;rw[length_map,mlen] at e2;rw[e2];unfold Nv;rw[map_map];rfl
theorem Y37:DZ 1 Z.f37 Z.d37 ["rows","numbers","point"] (Bg Z.K (kd3 Z.c_Piece Z.c_Push Z.c_Hold)) "steps_from":=by
 refine⟨?_,F37.b3 _ _ _ (by intros;rfl),F37.kp,m37⟩
 refine F37.ok9 uH λ_ _ _ s H _ Q E hr h=>?_;obtain⟨a,b,xs,ds,es,p,rfl,hA,Rb,hB,hE,h100,q⟩:=h;refine⟨_,(aD (qQ0 (i:=3) uH.nd (cD aC))
  (aD (gA PassesOwn.never rfl (dM (pv 1)) (qQ1 (i:=4) uH.nd)
   (aD (qQ0 (i:=5) uH.nd (aW cA (pv 0) (pv 4) (λ_ _=>rfl)))
  (aG (cC (bA eQ (bX (pv 5) rfl) (pv 2) (bC _)) (aG (bZ (mY PySem.F.plainAttrs_list PySem.F.slot_list_append PySem.F.type_list_append fD (pv 3) (aA (cF (aA (cF (aA (pv 4) (aA aE aC))) (aA (bX (pv 5) rfl) aC))) aC)))) (aG (cC (bA eQ (bX (pv 5) rfl) (pv 2) (bC _)) (aG (bZ (mY PySem.F.plainAttrs_list PySem.F.slot_list_append PySem.F.type_list_append fD (pv 3) (aA (cF (aA (cF (aA (pv 4) (aA (Eu wR aE) aC))) (aA (bX (pv 5) rfl) aC))) aC)))) bF))))))
  (aG (aT (pv 3))))),?_⟩
 refine⟨zl9 0,λl hl=>?_⟩;have s1:=aF hl (.lst []);have e1:upd H l (.lst []) l=some (.lst []):=aB;generalize upd H l (.lst [])=H1 at s1 e1 ⊢;refine⟨_,rfl,b,rfl,⟨_,s1.seq hB⟩,?_⟩;refine gU (xs:=es.map λ(e:Br)=>V.int ((e.1:Nat):Int)) (λi σ H'=>aV H H'/\∃(ys:List V) (z4 z5:Option V),σ=[some (.ref a),some (.ref b),some (.int (p:Int)),some (.ref l),z4,z5]/\H' l=some (.lst ys)/\Sds Z.K H' ys (stF (es.take i) p)) ⟨s1,[],none,none,rfl,e1,.nil⟩ (λi σ H' _ h=>h.1.seq hB) ?_ ?_
 .rintro i x σ H2 hx ⟨s2,ys,z4,z5,rfl,e2,S2⟩;rw[getElem?_map] at hx;obtain⟨e,he,rfl⟩:=Option.map_eq_some_iff.mp hx;have hi:i < es.length:=(List.getElem?_eq_some_iff.mp he).1;obtain⟨⟨k,u,v,q'⟩,hd,eu,ev⟩:=hE e (mem_of_getElem? he);have eu:u=(e.2.1:Int):=eu;have ev:v=(e.2.2:Int):=ev;subst eu;subst ev;obtain⟨y,z,ey,rw0,fz⟩:=Rb.at hd;have rw2:=rw0.same s2;obtain⟨dx,hx2⟩:=id rw2;have at_:atI xs (e.1:Int)=some (.ref y):=cO ey;have ly:ys.length<=es.length:=by
   have h1:=S2.length;have h2:(stF (es.take i) p).length<=(es.take i).length:=length_filterMap_le _ _;rw[length_take] at h2;lia
  refine⟨_,rfl,_,rfl,a,xs,_,_,rfl,rfl,s2.seq hA,at_,?_⟩;refine⟨_,rfl,y,(kd3 Z.c_Piece Z.c_Push Z.c_Hold) _,_,_,_,rfl,hx2,T.cl _,T.nS _,dI _ _ _,_,rfl,rfl,_,rfl,?_⟩
  by_cases c1:e.2.1=p
  .have tk:stF (es.take (i+1)) p=stF (es.take i) p++[((e.1,1),e.2.2)]:=by
    unfold stF;rw[take_add_one,he,filterMap_append];show _++[e].filterMap _=_;rw[filterMap_cons,if_pos c1];rfl
   refine ifT (decide_eq_true (by rw[c1])) ?_;refine⟨_,rfl,.inl ⟨rfl,_,SqL.of e2⟩,_,rfl,zl9 2,λu hu'=>?_⟩;have su:=aF hu' (.tup [.int (e.1:Int),.int (1)]);have eu:SqT Z.K (upd H2 u (.tup [.int (e.1:Int),.int (1)])) u [.int (e.1:Int),.int (1)]:=SqT.of aB;generalize upd H2 u (.tup [.int (e.1:Int),.int (1)])=H3 at su eu ⊢;obtain⟨dx3,hx3⟩:=id (rw2.same su);refine⟨_,rfl,y,(kd3 Z.c_Piece Z.c_Push Z.c_Hold) _,_,_,_,rfl,hx3,T.cl _,T.nG _,dW _ _ _,zl9 2,λt ht=>?_⟩;rw[show (k,(e.2.1:Int),(e.2.2:Int),q').2.2.1=(e.2.2:Int) from rfl];have st:=aF ht (.tup [.ref u,.int (e.2.2:Int)]);have et:SqT Z.K (upd H3 t (.tup [.ref u,.int (e.2.2:Int)])) t [.ref u,.int (e.2.2:Int)]:=SqT.of aB;generalize upd H3 t (.tup [.ref u,.int (e.2.2:Int)])=H4 at st et ⊢;have s24:=su.trans st;have e4:=s24 _ _ e2;refine⟨l,_,_,rfl,rfl,e4,bK (),⟨(s2.trans s24).change hl,_,_,_,rfl,aB,?_⟩⟩;rw[tk];exact Sds.upd e4 ((S2.same s24).app (.cons et (st.seqT eu) .nil))
  .refine ifF (decide_eq_false (λz=>c1 (by have:(e.2.1:Int)=(p:Int):=(by injection z);lia))) ?_;refine⟨_,rfl,y,(kd3 Z.c_Piece Z.c_Push Z.c_Hold) _,_,_,_,rfl,hx2,T.cl _,T.nG _,dW _ _ _,_,rfl,rfl,_,rfl,?_⟩
   by_cases c2:e.2.2=p
   .have tk:stF (es.take (i+1)) p=stF (es.take i) p++[((e.1,-1),e.2.1)]:=by
     unfold stF;rw[take_add_one,he,filterMap_append];show _++[e].filterMap _=_;rw[filterMap_cons,if_neg c1,if_pos c2];rfl
    refine ifT (decide_eq_true (by rw[c2])) ?_;refine⟨_,rfl,.inl ⟨rfl,_,SqL.of e2⟩,_,rfl,_,rfl,zl9 2,λu hu'=>?_⟩;have su:=aF hu' (.tup [.int (e.1:Int),.int (-1)]);have eu:SqT Z.K (upd H2 u (.tup [.int (e.1:Int),.int (-1)])) u [.int (e.1:Int),.int (-1)]:=SqT.of aB;generalize upd H2 u (.tup [.int (e.1:Int),.int (-1)])=H3 at su eu ⊢;obtain⟨dx3,hx3⟩:=id (rw2.same su);refine⟨_,rfl,y,(kd3 Z.c_Piece Z.c_Push Z.c_Hold) _,_,_,_,rfl,hx3,T.cl _,T.nS _,dI _ _ _,zl9 2,λt ht=>?_⟩;rw[show (k,(e.2.1:Int),(e.2.2:Int),q').2.1=(e.2.1:Int) from rfl];have st:=aF ht (.tup [.ref u,.int (e.2.1:Int)]);have et:SqT Z.K (upd H3 t (.tup [.ref u,.int (e.2.1:Int)])) t [.ref u,.int (e.2.1:Int)]:=SqT.of aB;generalize upd H3 t (.tup [.ref u,.int (e.2.1:Int)])=H4 at st et ⊢;have s24:=su.trans st;have e4:=s24 _ _ e2;refine⟨l,_,_,rfl,rfl,e4,bK (),⟨(s2.trans s24).change hl,_,_,_,rfl,aB,?_⟩⟩;rw[tk];exact Sds.upd e4 ((S2.same s24).app (.cons et (st.seqT eu) .nil))
   .have tk:stF (es.take (i+1)) p=stF (es.take i) p:=by
     unfold stF;rw[take_add_one,he,filterMap_append];show _++[e].filterMap _=_;rw[filterMap_cons,if_neg c1,if_neg c2];simp
    refine ifF (decide_eq_false (λz=>c2 (by have:(e.2.2:Int)=(p:Int):=(by injection z);lia))) ⟨s2,ys,_,_,rfl,e2,?_⟩;rw[tk];exact S2
 rintro σ H2 ⟨s2,ys,z4,z5,rfl,e2,S2⟩;rw[length_map,take_length] at S2;exact⟨_,rfl,q l ys H2 s2 hl e2 S2⟩
theorem Y38:DZ 2 Z.f38 Z.d38 ["rows","numbers","begin","end"] (Pb Z.K (kd3 Z.c_Piece Z.c_Push Z.c_Hold)) "way_along":=by
 refine⟨?_,F38.b4 _ _ _ _ (by intros;rfl),F38.kp,m38⟩
 refine F38.ok9 Dl λ_ _ _ s H _ Q E hr h=>?_;obtain⟨a,b,xs,ds,es,m,f,t,rfl,hA,Rb,hB,hE,h100,hm,h20,hf,qN,qS⟩:=h;refine⟨_,(aD (qQ0 (i:=4) Dl.nd (Jb (mI (pv 2) (cD aC) Lg) rfl rfl ⋯ ∅))
  (aD (qQ0 (i:=5) Dl.nd (cD (aA (pv 2) aC)))
  (aD (xS PassesOwn.never (bA Jh (bL bQ rfl n_len PySem.boot_len (aA (pv 5) aC)) aE (bC _))
   (aD (qQ0 (i:=6) Dl.nd (qc4 PySem.F.plainAttrs_list PySem.F.slot_list_pop PySem.F.type_list_pop qi7 (pv 5)))
   (aG (gA PassesOwn.never rfl (dM (d9 Y37 hr rfl (aA (pv 0) (aA (pv 1) (aA (pv 6) aC))))) (qQ1 (i:=7) Dl.nd)
    (aG (cC (wT (Nq (zH hr) (aW aZ (pv 7) aE (λ_ _=>rfl)) (pv 4)))
     (aD (Vs (zH hr) (pv 4) (aW aZ (pv 7) aE (λ_ _=>rfl)) (aY jF (kU (zH hr) (pv 4) (pv 6) (λ_ _=>rfl)) (cD (aA (aW aZ (pv 7) aE (λ_ _=>rfl)) aC))) rfl)
     (aG (bZ (mY PySem.F.plainAttrs_list PySem.F.slot_list_append PySem.F.type_list_append fD (pv 5) (aA (aW aZ (pv 7) aE (λ_ _=>rfl)) aC)))))
     bF))))))
  (aG (aT (Pm (zH hr) (pv 4) (pv 3) ⟨rfl,rfl,rfl,rfl⟩)))))),?_⟩
 refine λD hD=>?_;have sD:=aF hD (.dK []);have eD:upd H D (.dK []) D=some (.dK []):=aB;generalize upd H D (.dK [])=H1 at sD eD ⊢;refine⟨_,rfl,zl9 0,λL hL=>?_⟩;have nLD:L≠D:=Ne.symm (aQ eD hL);have nL:H L=none:=sD.free hL;have sL:=aF hL (.lst []);have eL:upd H1 L (.lst []) L=some (.lst []):=aB;generalize upd H1 L (.lst [])=H2 at sL eL ⊢;refine⟨sL _ _ eD,[((Sum.inl (f:Int):Key),V.ref L)],rfl,by show 1<=15;decide,?_⟩;have s3:aV H (upd H2 D (.dK (jU [] [((Sum.inl (f:Int):Key),V.ref L)]))):=(sD.trans sL).change hD;have e3:upd H2 D (.dK (jU [] [((Sum.inl (f:Int):Key),V.ref L)])) D=some (.dK [((Sum.inl (f:Int):Key),V.ref L)]):=aB;have eL3:upd H2 D (.dK (jU [] [((Sum.inl (f:Int):Key),V.ref L)])) L=some (.lst []):=by rw[aX nLD];exact eL
 generalize upd H2 D (.dK (jU [] [((Sum.inl (f:Int):Key),V.ref L)]))=H3 at s3 e3 eL3 ⊢;refine⟨_,rfl,zl9 1,λW hW=>?_⟩;have nLW:L≠W:=aQ eL3 hW;have nDW:D≠W:=aQ e3 hW;have nW:H W=none:=s3.free hW;have sW:=aF hW (.lst [.int (f:Int)]);have eW:upd H3 W (.lst [.int (f:Int)]) W=some (.lst [.int (f:Int)]):=aB;generalize upd H3 W (.lst [.int (f:Int)])=H4 at sW eW ⊢;have s4:=s3.trans sW;have w4:Wys Z.K H W H4 [((Sum.inl (f:Int):Key),V.ref L)] (cJ es f 0).1:=.cons nL nLW (sW _ _ eL3) .nil .nil;refine wN (λσ H'=>aV H H'/\∃(i:Nat) (kvs:List (Key × V)) (z6 z7:Option V),σ=[some (.ref a),some (.ref b),some (.int (f:Int)),some (.int (t:Int)),some (.ref D),some (.ref W),z6,z7]/\H' D=some (.dK kvs)/\H' W=some (.lst ((cJ es f i).2.map λ(p:Nat)=>V.int (p:Int)))/\Wys Z.K H W H' kvs (cJ es f i).1/\i<=40) muW ⟨s4,0,_,none,none,rfl,sW _ _ e3,eW,w4,()⟩ ?_ ?_
 .rintro σ H5 ⟨s5,i,kvs,z6,z7,rfl,e5,q5,w5,hi⟩;have lk:=w5.length;have wi:=kQ es f i;have le20:=Sg hm hf wi.nd wi.pt;refine⟨_,rfl,W,_,rfl,.inl (SqL.of q5),_,_,rfl,rfl,_,rfl,?_⟩
  by_cases hq:(cJ es f i).2=[]
  .-- it ends
   rw[hq] at q5;refine ifF (by rw[hq];rfl) ?_;have e60:=Xu hq ();refine⟨_,rfl,D,rfl,.inl ⟨kvs,.inl e5⟩,_,rfl,_,kD.k (k:=Sum.inl (t:Int)) e5,?_⟩
   by_cases c:t∈cH (cJ es f i).1
   .obtain⟨l,ys,st,ev,eg,nl,_,hl,f'⟩:=w5.some_ c;rw[ev];refine qS st ?_ l ys H5 s5 nl hl f';unfold xX;rw[e60];exact eg
   .rw[(w5.none_ c).1];refine qN ?_ H5 s5;unfold xX;rw[e60];exact rS c
  .have mu0:=Sh (a:=some (.ref a)) (b:=some (.ref b)) (c:=some (.int (f:Int))) (d:=some (.int (t:Int))) (e:=z6) (f:=z7) e5 q5;have hi39:i+muF (cJ es f i)<=39:=by
    rcases rY hm hf h20 i with z | z
    .exact absurd z hq
    .exact z
   have stp:cJ es f (i+1)=(stF es ((cJ es f i).2.getLastD 0)).foldl (inF ((cJ es f i).2.getLastD 0)) ((cJ es f i).1,(cJ es f i).2.dropLast):=by
    show lD es (cJ es f i)=_;unfold lD;rw[if_neg hq]
   have iX:=Jd hm hf h20 wi hq;have iX:muF (cJ es f (i+1))+1<=muF (cJ es f i):=iX;have wj0:=xE wi hq;have pk:=wj0.kp;obtain⟨ml1,ml2⟩:=Sa hq;generalize hp:(cJ es f i).2.getLastD 0=p at *
   have ll:0 < ((cJ es f i).2.map λ(p:Nat)=>V.int (p:Int)).length:=by rw[length_map];exact length_pos_iff.mpr hq
   refine ifT (by show decide (0 < ((((cJ es f i).2.map λ(p:Nat)=>V.int (p:Int)).length:Nat):Int))=true;exact decide_eq_true ()) ?_;refine⟨_,rfl,.inl ⟨rfl,_,SqL.of q5⟩,W,_,_,rfl,rfl,q5,ml1,?_⟩;rw[ml2];have s6:aV H (upd H5 W (.lst ((cJ es f i).2.dropLast.map λ(p:Nat)=>V.int (p:Int)))):=s5.change nW;have e6:upd H5 W (.lst ((cJ es f i).2.dropLast.map λ(p:Nat)=>V.int (p:Int))) D=some (.dK kvs):=by rw[aX nDW];exact e5
   have q6:upd H5 W (.lst ((cJ es f i).2.dropLast.map λ(p:Nat)=>V.int (p:Int))) W=some (.lst ((cJ es f i).2.dropLast.map λ(p:Nat)=>V.int (p:Int))):=aB;have w6:=w5.updW (o:=.lst ((cJ es f i).2.dropLast.map λ(p:Nat)=>V.int (p:Int))) q5;generalize upd H5 W (.lst ((cJ es f i).2.dropLast.map λ(p:Nat)=>V.int (p:Int)))=H6 at s6 e6 q6 w6 ⊢;refine⟨_,rfl,_,rfl,_,rfl,a,b,xs,ds,es,p,rfl,s6.seq hA,Rb.same s6,s6.seq hB,hE,h100,λl ys H7 s7 nl el S7=>?_⟩;have s07:=s6.trans s7;have nlW:l≠W:=Ne.symm (aQ q6 nl);have nlD:l≠D:=Ne.symm (aQ e6 nl);have nlH:H l=none:=s6.free nl;have lys:=S7.length;refine⟨l,rfl,⟨_,SqL.of el⟩,?_⟩;refine gU (xs:=ys) (λj σ H'=>aV H H'/\H' l=some (.lst ys)/\Sds Z.K H' ys (stF es p)/\∃(kvs:List (Key × V)) (z7:Option V),σ=[some (.ref a),some (.ref b),some (.int (f:Int)),some (.int (t:Int)),some (.ref D),some (.ref W),some (.int (p:Int)),z7]/\H' D=some (.dK kvs)/\H' W=some (.lst ((((stF es p).take j).foldl (inF p) ((cJ es f i).1,(cJ es f i).2.dropLast)).2.map λ(p:Nat)=>V.int (p:Int)))/\Wys Z.K H W H' kvs (((stF es p).take j).foldl (inF p) ((cJ es f i).1,(cJ es f i).2.dropLast)).1) ⟨s07,el,S7,kvs,z7,rfl,s7 _ _ e6,s7 _ _ q6,w6.same s7⟩ (λj σ H' _ h=>SqL.of h.2.1) ?_ ?_
   .rintro j x σ H8 hx ⟨s8,el8,S8,kv8,z7',rfl,e8,q8,w8⟩;obtain⟨tt,u,s,rfl,es',hT,hU⟩:=S8.get hx;have hj:j < (stF es p).length:=(List.getElem?_eq_some_iff.mp es').1;have gs:qA es s.1 p s.2:=lL (mem_of_getElem? es');have wj:=Be ((stF es p).take j) [] wj0 λz hz=>lL (mem_of_mem_take hz);have fold1:((stF es p).take (j+1)).foldl (inF p) ((cJ es f i).1,(cJ es f i).2.dropLast)=inF p (((stF es p).take j).foldl (inF p) ((cJ es f i).1,(cJ es f i).2.dropLast)) s:=by
     rw[take_add_one,es',foldl_append];rfl
    rw[fold1];have wj':=Jm wj gs;have le8:=Sg hm hf wj.nd wj.pt;have lS:=qb4 hm hf h20 wj0 (j:=j) (T:=stF es p) (λz hz=>lL hz);have mb:=Dx hq;generalize ((stF es p).take j).foldl (inF p) ((cJ es f i).1,(cJ es f i).2.dropLast)=S at q8 w8 wj wj' le8 lS ⊢;have lS2:S.2.length<=100:=by lia
    have lk8:=w8.length;obtain⟨⟨sn,sw⟩,sx⟩:=s;have hT:SqT Z.K H8 tt [.ref u,.int (sx:Int)]:=hT;refine⟨_,rfl,tt,_,1,_,rfl,rfl,hT,rfl,_,rfl,D,_,rfl,kD.k (k:=Sum.inl (sx:Int)) e8,_,rfl,?_⟩
    by_cases c:sx∈cH S.1
    .refine ifF (by rw[w8.isSome,decide_eq_true c];rfl) ⟨s8,el8,S8,kv8,_,rfl,e8,?_,?_⟩
     .show H8 W=some (.lst ((inF p S ((sn,sw),sx)).2.map λ(p:Nat)=>V.int (p:Int)));unfold inF;rw[if_pos c];exact q8
     .show Wys Z.K H W H8 kv8 (inF p S ((sn,sw),sx)).1;unfold inF;rw[if_pos c];exact w8
    .refine ifT (by rw[w8.isSome,decide_eq_false c];rfl) ?_;obtain⟨ap,xp,sp,ev,eg,nap,nwp,hap,fp⟩:=w8.some_ wj.kp;have lsp:=fp.length;have lsp2:sp.length<=20:=by
      obtain⟨pts,pt1,pt2⟩:=wj.pt p sp (iD eg);exact qb7 hm hf h20 wj.nd wj.pt pt1 pt2
     refine⟨_,rfl,_,rfl,D,.ref ap,rfl,(by have:=kD.k (k:=Sum.inl (p:Int)) e8;rw[ev] at this;exact this),?_⟩;refine⟨_,rfl,tt,_,0,_,rfl,rfl,hT,rfl,zl9 1,λL1 hL1=>?_⟩;have s9:=aF hL1 (.lst [.ref u]);have e9:upd H8 L1 (.lst [.ref u]) L1=some (.lst [.ref u]):=aB;generalize upd H8 L1 (.lst [.ref u])=H9 at s9 e9 ⊢;refine⟨ap,L1,_,_,rfl,rfl,s9 _ _ hap,e9,by rw[sizeLine_eq];simp only[length_cons,length_nil];lia,λC hC=>?_⟩;have nC8:H8 C=none:=s9.free hC;have sA:=aF hC (.lst (xp++[.ref u]));have eA:upd H9 C (.lst (xp++[.ref u])) C=some (.lst (xp++[.ref u])):=aB;generalize upd H9 C (.lst (xp++[.ref u]))=HA at sA eA ⊢;have s8A:=s9.trans sA;have nCW:C≠W:=Ne.symm (aQ q8 nC8);have nCD:C≠D:=Ne.symm (aQ e8 nC8);have eDA:=s8A _ _ e8;refine⟨_,rfl,_,rfl,tt,_,1,_,rfl,rfl,s8A.seqT hT,rfl,D,_,rfl,Rp.k (k:=Sum.inl (sx:Int)) eDA (by rw[sizeLine_eq];lia),?_⟩;have put:lU kv8 (Sum.inl (sx:Int)) (.ref C)=kv8++[(Sum.inl (sx:Int),.ref C)]:=by unfold lU;rw[if_neg (by rw[(w8.none_ c).2];simp)]
     rw[put];have eB:upd HA D (.dK (kv8++[(Sum.inl (sx:Int),.ref C)])) D=some (.dK (kv8++[(Sum.inl (sx:Int),.ref C)])):=aB;have qB:upd HA D (.dK (kv8++[(Sum.inl (sx:Int),.ref C)])) W=some (.lst (S.2.map λ(p:Nat)=>V.int (p:Int))):=by rw[aX (Ne.symm nDW)];exact s8A _ _ q8
     have sB:aV H (upd HA D (.dK (kv8++[(Sum.inl (sx:Int),.ref C)]))):=(s8.trans s8A).change hD;have wB:Wys Z.K H W (upd HA D (.dK (kv8++[(Sum.inl (sx:Int),.ref C)]))) (kv8++[(Sum.inl (sx:Int),.ref C)]) (S.1++[(sx,sp++[(sn,sw)])]):=
      Wys.snoc (s8.free nC8) nCW (by rw[aX nCD];exact eA) (((fp.same s8A).app (.cons (s8A.seqT hU) .nil)).updD eDA) ((w8.same s8A).updD eDA)
     have elB:upd HA D (.dK (kv8++[(Sum.inl (sx:Int),.ref C)])) l=some (.lst ys):=by rw[aX nlD];exact s8A _ _ el8
     have SB:=(S8.same s8A).updD (o:=.dK (kv8++[(Sum.inl (sx:Int),.ref C)])) eDA;have hTB:=SqT.updD (o:=.dK (kv8++[(Sum.inl (sx:Int),.ref C)])) (s8A.seqT hT) eDA;generalize upd HA D (.dK (kv8++[(Sum.inl (sx:Int),.ref C)]))=HB at eB qB sB wB elB SB hTB ⊢;refine⟨_,rfl,.inl ⟨rfl,_,SqL.of qB⟩,_,rfl,tt,_,1,_,rfl,rfl,hTB,rfl,W,_,_,rfl,rfl,qB,bK (by rw[length_map];lia),?_⟩;have inE:inF p S ((sn,sw),sx)=(S.1++[(sx,sp++[(sn,sw)])],S.2++[sx]):=by
      unfold inF;rw[if_neg c,eg];rfl
     rw[inE];refine⟨sB.change nW,by rw[aX nlW];exact elB,SB.upd qB,_,_,rfl,by rw[aX nDW];exact eB,?_,wB.updW qB⟩;rw[aB,map_append];rfl
   .rintro σ H8 ⟨s8,el8,S8,kv8,z7',rfl,e8,q8,w8⟩;rw[lys,take_length,<- stp] at q8 w8;have lk8:=w8.length;refine⟨⟨s8,i+1,kv8,_,_,rfl,e8,q8,w8,()⟩,?_⟩;rw[mu0,Sh e8 q8,length_map,length_map,lk,lk8];unfold muF at iX;lia
 .rintro σ H Q Q' mono ⟨v,h1,p',ys,h2,h3,i,j,h4,h5,k,h6,h7⟩;exact⟨v,h1,p',ys,h2,h3,i,j,h4,h5,k,h6,mono _ _ h7⟩
theorem Y39:DZ 5 Z.f39 (W.fnOf ("rings") ("rings") (eX iK) (cV iK) (aI iK) (.ref Z.T39) Z.kV39 Z.dc39 Z.pm39 Z.an39 Z.cd39 Z.ct39) ["net","words"] (Cu Z.c_Net Z.K) "rings":=by
 refine⟨?_,b39,F39.kp,m39⟩
 refine F39.ok9 jN λ_ _ _ s H _ Q E hr h=>?_;obtain⟨n,l,v,m,ds,W,rfl,nt,pt,h20,h40,hW,q⟩:=h;have r1:=hr.mono (show 1<=4 by lia);have r2:=hr.mono (show 2<=4 by lia);refine⟨_,(aD (qQ0 (i:=2) jN.nd (qJ (wT (Iy (pv 1))) (cQ (v:=.ref Z.aJ) rfl mv_JOINING_WORDS rfl) (pv 1)))
  (aD (qQ0 (i:=3) jN.nd (bN (pv 0) NTx.cl X4 R32 hr b32 .nil aK))
  (aD (qQ0 (i:=4) jN.nd (cD aC))
  (aD (qQ0 (i:=5) jN.nd (cD aC))
  (aD (gA PassesOwn.never rfl (uU rfl n_enumerate rfl (aA (pv 3) aC)) (kP rfl (dC (qQ1 (i:=6) jN.nd) (dC (qQ1 (i:=7) jN.nd) iO)))
   (aG (cC (bA Lx (eJ (pv 7) T.cl mW GW r1 bW .nil aK) (pv 2) rfl) (aD (qQ0 (i:=8) jN.nd (d9 Y38 r2 rfl (aA (pv 3) (aA (pv 4) (aA (bX (pv 7) rfl) (aA (bX (pv 7) rfl) aC))))))
  (aG (cC (wT (Iy (pv 8))) (aG (bZ (mY PySem.F.plainAttrs_list PySem.F.slot_list_append PySem.F.type_list_append fD (pv 4) (aA (pv 6) aC)))) (aG (bZ (mY PySem.F.plainAttrs_list PySem.F.slot_list_append PySem.F.type_list_append fD (pv 5) (aA (aY jF (cD (aA (cF (aA (pv 6) (aA aE aC))) aC)) (pv 8)) aC))))))) bF)))
  (aG (aT (pv 5)))))))),?_⟩
 refine lQ (λσ' H'=>H'=H/\∃wv,σ'=[some (.ref n),some v,some wv,none,none,none,none,none,none]/\WdA Z.K H wv W) (λX hX=>?_) ?_
 .cases hW with
  |non=>exact⟨_,rfl,_,rfl,ifT rfl (hX _ _ ⟨rfl,_,rfl,Z.aJ,_,rfl,.inr (fJ0 H),rfl,qr1⟩)⟩
  | @seq a ws h Z.f39=>exact⟨_,rfl,_,rfl,ifF rfl ⟨_,rfl,hX _ _ ⟨rfl,_,rfl,a,_,rfl,.inl h,Z.f39,λ_=>rfl⟩⟩⟩
 rintro σ' H' ⟨hH',wv,rfl,hw⟩;subst hH';obtain⟨dx,hn⟩:=nt.ob;refine⟨_,rfl,n,dx,_,rfl,hn,cI _ _ ∅ ∅,n,l,_,ds,rfl,nt,(),λa xs H1 s1 na ea Rb=>?_⟩;have lxs:=Rb.length;refine⟨zl9 0,λB hB=>?_⟩;have nB:H' B=none:=s1.free hB;have sB:=aF hB (.lst []);have eB:upd H1 B (.lst []) B=some (.lst []):=aB;generalize upd H1 B (.lst [])=H2 at sB eB ⊢;refine⟨zl9 0,λF39 hF=>?_⟩;have nF:H' F39=none:=(s1.trans sB).free hF;have nBF:B≠F39:=aQ eB hF;have sF:=aF hF (.lst []);have eF:upd H2 F39 (.lst []) F39=some (.lst []):=aB;generalize upd H2 F39 (.lst [])=H3 at sF eF ⊢;have s3:=s1.trans (sB.trans sF);have ea3:=(sB.trans sF) _ _ ea;have naB:a≠B:=aQ ea hB;have naF:a≠F39:=aQ (sB _ _ ea) hF;have sk:=Qc ds;have slt:=ql0 pt;have s13:=sB.trans sF;refine⟨_,rfl,a,rfl,⟨_,SqL.of ea3⟩,?_⟩;have nB1:H1 B=none:=hB;have nF1:H1 F39=none:=sB.free hF;refine Eo (xs:=xs) (λi σ HH=>aV H1 HH/\∃(us:List V) (z6 z7 z8:Option V),σ=[some (.ref n),some v,some wv,some (.ref a),some (.ref B),some (.ref F39),z6,z7,z8]/\HH B=some (.lst ((fF W (skl ds) i).1.map λ(e:Br)=>V.int ((e.1:Nat):Int)))/\HH F39=some (.lst us)/\Rgs Z.K H' HH us ((fF W (skl ds) i).2.map (·.2))/\∀x∈us,x≠.ref F39/\x≠.ref B) ⟨s13,[],none,none,none,rfl,sF _ _ eB,eF,.nil,λx hx=>(by cases hx)⟩ (λi σ HH _ h=>h.1.seq (SqL.of ea)) ?_ ?_
 .rintro i x σ H4 T2 hx ⟨s4,us,z6,z7,z8,rfl,eB4,eF4,G4,nx4⟩ hT;have hi:i < ds.length:=by
   have:=(List.getElem?_eq_some_iff.mp hx).1;lia
  obtain⟨⟨k0,u,v0,p0⟩,hd⟩:∃d,ds[i]?=some d:=⟨_,getElem?_eq_getElem hi⟩
  obtain⟨y,z,ey,rw0,fz0⟩:=Rb.at hd;have ex:x=.ref y:=by rw[ey] at hx;exact(Option.some.inj hx).symm
  subst ex;obtain⟨u0,u1,v1,v2⟩:dD (m:Int) u v0:=pt _ (mem_of_getElem? hd);obtain⟨uN,rfl⟩:∃n:Nat,u=(n:Int):=⟨u.toNat,()⟩
  obtain⟨vN,rfl⟩:∃n:Nat,v0=(n:Int):=⟨v0.toNat,()⟩
  have skd:(skl ds)[i]?=some (k0,uN,vN):=by
   have:=Zb hd
   rwa [show ((k0,(uN:Int),(vN:Int),p0):RD).2.1.toNat=uN from Int.toNat_natCast uN,show ((k0,(uN:Int),(vN:Int),p0):RD).2.2.1.toNat=vN from Int.toNat_natCast vN] at this
  have ri:=wJ (W:=W) slt i ();have bo:=Uy pt ri;have bl':=Nz (W:=W) (sk:=skl ds) i;have gl:=G4.l;rw[length_map] at gl;have rl:=ri.rl;have succ:=jG (W:=W) skd;generalize fF W (skl ds) i=S at eB4 G4 ri bo bl' gl rl succ;have sT:=aF hT (.tup [.int (i:Int),.ref y]);refine⟨T2,_,rfl,SqT.of aB,rfl,_,_,rfl,_,_,rfl,rfl,?_⟩;have nT1:H1 T2=none:=s4.free hT;generalize upd H4 T2 (.tup [.int (i:Int),.ref y])=H5 at sT ⊢;have s5:=s4.trans sT;have eB5:=sT _ _ eB4;have eF5:=sT _ _ eF4;have G5:=G4.same sT;obtain⟨dr,hy⟩:=id (rw0.same s5);obtain⟨pw,ws,ew,hws,fl,hinv⟩:=hw.same (s1.trans s5);refine⟨_,rfl,k0,y,dr,_,rfl,hy,(cT _ _ _ ∅ ∅ ∅),_,rfl,_,rfl,pw,ws,ew,hws,rfl,fl,_,rfl,?_⟩;have hin:inV (.str k0.wd) ws=W k0:=hinv k0
  by_cases hk:W k0=true
  .refine ifT (by show (if false=true then _ else inV (V.str k0.wd) ws)=true;rw[if_neg ∅,hin];exact hk) ?_;refine⟨_,rfl,_,rfl,_,rfl,y,(kd3 Z.c_Piece Z.c_Push Z.c_Hold) _,_,_,_,rfl,hy,T.cl _,T.nG _,dW _ _ _,_,rfl,y,(kd3 Z.c_Piece Z.c_Push Z.c_Hold) _,_,_,_,rfl,hy,T.cl _,T.nS _,dI _ _ _,a,B,xs,ds,S.1,m,vN,uN,rfl,s5.seq (SqL.of ea),Rb.same s5,SqL.of eB5,bo,(),ri.pt,h20,(),λhnone H6 s6=>?_,λst hst l' ys H6 s6 nl el S6=>?_⟩
   .refine⟨_,rfl,_,rfl,ifT rfl ?_⟩;have eB6:=s6 _ _ eB5;have s06:=s5.trans s6;refine⟨_,rfl,.inl ⟨rfl,_,SqL.of eB6⟩,_,rfl,B,_,_,rfl,rfl,eB6,bK (by rw[length_map];lia),?_⟩;have eS:iV W S i (k0,uN,vN)=(S.1++[(i,uN,vN)],S.2):=by
     unfold iV;rw[if_pos hk,hnone]
    rw[succ,eS];refine⟨s06.change nB1,us,_,_,_,rfl,?_,by rw[aX (Ne.symm nBF)];exact s6 _ _ eF5,(G5.same s6).updO eB6 (λx hx=>(nx4 x hx).2),nx4⟩;rw[aB,map_append];rfl
   .refine⟨_,rfl,_,rfl,ifF rfl ?_⟩;have eF6:=s6 _ _ eF5;have s06:=s5.trans s6;refine⟨_,rfl,.inl ⟨rfl,_,SqL.of eF6⟩,_,rfl,zl9 2,λt ht=>?_⟩;have st7:=aF ht (.tup [.int (i:Int),.int 1]);have et:SqT Z.K (upd H6 t (.tup [.int (i:Int),.int 1])) t [.int (i:Int),.int 1]:=SqT.of aB;generalize upd H6 t (.tup [.int (i:Int),.int 1])=H7 at st7 et ⊢;refine⟨zl9 1,λL1 hL1=>?_⟩;have s8:=aF hL1 (.lst [.ref t]);have e8:upd H7 L1 (.lst [.ref t]) L1=some (.lst [.ref t]):=aB;generalize upd H7 L1 (.lst [.ref t])=H8 at s8 e8 ⊢;have lst':=yV ri.pt (show vN < m by lia) hst;have lys:=S6.length;refine⟨_,rfl,L1,l',_,_,rfl,rfl,e8,(st7.trans s8) _ _ el,by rw[sizeLine_eq];simp only[length_cons,length_nil];lia,λC hC=>?_⟩;have nC8:H8 C=none:=hC;have s9:=aF hC (.lst ([.ref t]++ys));have e9:upd H8 C (.lst ([.ref t]++ys)) C=some (.lst ([.ref t]++ys)):=aB;generalize upd H8 C (.lst ([.ref t]++ys))=H9 at s9 e9 ⊢;have s69:=st7.trans (s8.trans s9);have eF9:=s69 _ _ eF6;have s09:=s06.trans s69;have nCF:C≠F39:=Ne.symm (aQ ((st7.trans s8) _ _ eF6) nC8);have nCB:C≠B:=Ne.symm (aQ ((st7.trans s8) _ _ (s6 _ _ eB5)) nC8);refine⟨F39,_,_,rfl,rfl,eF9,bK (),?_⟩;have eS:iV W S i (k0,uN,vN)=(S.1,S.2++[(i,(i,1) :: st)]):=by
     unfold iV;rw[if_pos hk,hst]
    rw[succ,eS];have SC:Sts Z.K H9 ([.ref t]++ys) ((i,1) :: st):=.cons ((s8.trans s9).seqT et) (S6.same s69);refine⟨s09.change nF1,us++[.ref C],_,_,_,rfl,by rw[aX nBF];exact s69 _ _ (s6 _ _ eB5),aB,?_,λx hx=>?_⟩
    .rw[map_append];have G9:=((G5.same s6).same s69).snoc (((s1.trans s06).trans (st7.trans s8)).free nC8) e9 SC;refine G9.updO eF9 λx hx=>?_;rcases mem_append.mp hx with z | z
     .exact(nx4 x z).1
     .have:x=.ref C:=by simpa using z
      rw[this];exact λz=>nCF (by injection z)
    .rcases mem_append.mp hx with z | z
     .exact nx4 x z
     .have:x=.ref C:=by simpa using z
      rw[this];exact⟨λz=>nCF (by injection z),λz=>nCB (by injection z)⟩
  .refine ifF (by show (if false=true then _ else inV (V.str k0.wd) ws)=false;rw[if_neg ∅,hin];simpa using hk) ?_;have eS:iV W S i (k0,uN,vN)=S:=by
    unfold iV;rw[if_neg hk]
   rw[succ,eS];exact⟨s5,us,_,_,_,rfl,eB5,eF5,G5,nx4⟩
 rintro σ H4 ⟨s4,us,z6,z7,z8,rfl,eB4,eF4,G4,nx4⟩;rw[lxs] at G4;exact⟨_,rfl,q F39 us H4 (s1.trans s4) nF eF4 G4 λx hx=>(nx4 x hx).1⟩
theorem Y40:DZ 4 Z.f40 Z.d40 ["line","column","amount"] (pW Z.K) "raise_at":=by
 refine⟨?_,F40.b3 _ _ _ (by intros;rfl),F40.kp,m40⟩
 refine F40.ok9 Us λ_ _ _ s H _ Q E hr h=>?_;obtain⟨l,z,j,xs,ps,a,n,m,rfl,hl,hF,hj,p1,bp,fz,a1,ba,hn,q⟩:=h;refine⟨_,(aG (mH (d9 Y6 hr rfl (aA (aW cA (pv 0) (pv 1) (λ_ _=>rfl)) (aA (pv 2) aC))) (pD (pv 0) (pv 1) iZ))),?_⟩;have lx:=hF.length;obtain⟨u,eu,fu⟩:=hF.at (xY hj);refine⟨_,rfl,_,rfl,l,xs,_,_,rfl,rfl,SqL.of hl,cO eu,_,rfl,u,z,_,a,n,m,rfl,fu,fz,p1,a1,bp,ba,hn,λv H1 s1 e1=>?_⟩;exact⟨_,rfl,_,rfl,l,xs,_,j,rfl,rfl,s1 _ _ hl,kW (),q v H1 s1 (Fq.of e1)⟩
theorem Y41:DZ 5 Z.f41 Z.d41 ["matrix","row","column","amount"] (uZ Z.K (kd3 Z.c_Piece Z.c_Push Z.c_Hold)) "enter_stream":=by
 refine⟨?_,F41.b4 _ _ _ _ (by intros;rfl),F41.kp,m41⟩
 refine F41.ok9 Wu λ_ _ _ s H _ Q E hr h=>?_;obtain⟨D,x,z,zz,as,M,⟨k0,u,v,p⟩,w,n,k,c,a,rfl,mx,mb,rw,pt,hc,fz,la,ba,hn,q⟩:=h;have r3:=hr.mono (show 3<=4 by lia);refine⟨_,(aD (bZ (aH Y40.G hr rfl m40 F40.kp Y40.b .nil aK (aA (aW cA (pv 0) (bX (pv 1) rfl) (λ_ _=>rfl)) (aA (pv 2) (aA (pv 3) aC)))))
  (aG (bZ (aH Y40.G hr rfl m40 F40.kp Y40.b .nil aK (aA (aW cA (pv 0) (bX (pv 1) rfl) (λ_ _=>rfl)) (aA (pv 2) (aA (aH Y5.G r3 rfl m5 F5.kp Y5.b .nil aK (aA (cQ (v:=.ref Z.aN) rfl mv_NOUGHT rfl) (aA (pv 3) aC))) aC))))))),?_⟩
 obtain⟨i0,i1,j0,j1⟩:dD (w:Int) u v:=pt;obtain⟨uN,rfl⟩:∃uN:Nat,u=(uN:Int):=⟨u.toNat,()⟩
 obtain⟨vN,rfl⟩:∃vN:Nat,v=(vN:Int):=⟨v.toNat,()⟩
 have hu':uN < w:=by lia
 have hv':vN < w:=by lia
 obtain⟨ln,bn,_⟩:=mU la ba;obtain⟨dx,hx⟩:=id rw;obtain⟨e1,m40,w1⟩:=mb.row hu';obtain⟨e2,l2,Y5.b⟩:=mb.at hu' hc;have lam:=mx.la;obtain⟨a1,ha1⟩:∃a1,as[uN]?=some a1:=⟨_,getElem?_eq_getElem (by rw[lam,mb.h];exact hu')⟩
 obtain⟨xs,hxs,hF⟩:=mx.r uN a1 _ ha1 e1;have at1:atI (as.map V.ref) (uN:Int)=some (.ref a1):=cO (by rw[getElem?_map,ha1];rfl);refine⟨_,rfl,_,rfl,x,(kd3 Z.c_Piece Z.c_Push Z.c_Hold) _,_,_,_,rfl,hx,T.cl _,T.nS _,dI _ _ _,D,_,_,_,rfl,rfl,SqL.of mx.d,at1,_,rfl,_,rfl,a1,z,c,xs,_,a,n,k,rfl,hxs,hF,by rw[w1];exact hc,l2.pos,Y5.b,fz,la.pos,ba,(),λv1 H1 s1 f1=>?_⟩;obtain⟨mx2,sx2⟩:=mx.set (j:=c) ha1 e1 hxs hF s1 f1;have mb2:=mb.rz hu' hc la ba;generalize upd H1 a1 (.lst (xs.set c (.ref v1)))=H2 at mx2 sx2 ⊢;have mx2:Mx Z.K H2 D as (rz M uN c a):=mx2;have ls:=mx.lsts;have fz2:Fq Z.K H2 z a:=sx2.seqT ls fz;obtain⟨dx2,hx2⟩:=id (sx2.rw ls rw);obtain⟨e3,m3,w3⟩:=mb2.row hv';obtain⟨e4,l4,b4⟩:=mb2.at hv' hc;obtain⟨a2,ha2⟩:∃a2,as[vN]?=some a2:=⟨_,getElem?_eq_getElem (by rw[lam,mb.h];exact hv')⟩
 obtain⟨xs2,hxs2,hF2⟩:=mx2.r vN a2 _ ha2 e3;have at2:atI (as.map V.ref) (vN:Int)=some (.ref a2):=cO (by rw[getElem?_map,ha2];rfl);have b01:Bd 1 (0,1):=⟨show (0:Nat) < 2 ^ 1 by decide,show (1:Nat) < 2 ^ 1 by decide⟩
 refine⟨_,rfl,_,rfl,x,(kd3 Z.c_Piece Z.c_Push Z.c_Hold) _,_,_,_,rfl,hx2,T.cl _,T.nG _,dW _ _ _,D,_,_,_,rfl,rfl,SqL.of mx2.d,at2,_,rfl,_,rfl,Z.aN,z,(0,1),a,1,k,rfl,fN _,fz2,∅,la.pos,b01,ba,(),λv3 H3 s3 e5=>?_⟩;refine⟨a2,v3,c,xs2,_,_,n+k+1,k+2,rfl,s3 _ _ hxs2,hF2.same s3,by rw[w3];exact hc,l4.pos,b4,Fq.of e5,ln.pos,bn,(),λv4 H4 s4 f4=>?_⟩;obtain⟨mx3,sx3⟩:=(mx2.same s3).set (j:=c) ha2 e3 (s3 _ _ hxs2) (hF2.same s3) s4 f4;exact q _ (sx2.trans (s3.sx.trans sx3)) mx3
theorem Y42:DZ 6 Z.f42 Z.d42 ["matrix","row"] (xQ Z.K (kd3 Z.c_Piece Z.c_Push Z.c_Hold)) "enter_piece":=by
 refine⟨?_,F42.b2 _ _ (by intros;rfl),F42.kp,m42⟩
 refine F42.ok9 Ed λ_ _ _ s H _ Q E hr h=>?_;obtain⟨D,x,zz,as,M,⟨k0,u,v,p⟩,w,n,k,rfl,mx,mb,rw,fp,pt,lp,p0,bp,hn,q⟩:=h;have r3:=hr.mono (show 3<=5 by lia);refine⟨_,(aD (qQ0 (i:=2) Ed.nd (d9 Y7 r3 rfl (aA (cQ (v:=.ref Z.aO) rfl mv_ONE rfl) (aA (bX (pv 1) rfl) aC))))
  (aD (bZ (d9 Y41 hr rfl (aA (pv 0) (aA (pv 1) (aA (bX (pv 1) rfl) (aA (pv 2) aC))))))
  (aG (bZ (d9 Y41 hr rfl (aA (pv 0) (aA (pv 1) (aA (bX (pv 1) rfl) (aA (d9 Y5 r3 rfl (aA (cQ (v:=.ref Z.aN) rfl mv_NOUGHT rfl) (aA (pv 2) aC))) aC))))))))),?_⟩
 have lp:Low p:=lp;have p0:0 < p.1:=p0;have bp:Bd k p:=bp;have fp:Fq Z.K H zz p:=fp;obtain⟨i0,i1,j0,j1⟩:dD (w:Int) u v:=pt;obtain⟨uN,rfl⟩:∃uN:Nat,u=(uN:Int):=⟨u.toNat,()⟩
 obtain⟨vN,rfl⟩:∃vN:Nat,v=(vN:Int):=⟨v.toNat,()⟩
 obtain⟨ls,bs,_⟩:=El lp p0 bp;obtain⟨ln,bn,_⟩:=mU ls bs;have pt':dD (w:Int) (uN:Int) (vN:Int):=⟨i0,i1,j0,j1⟩
 obtain⟨dx,hx⟩:=id rw;refine⟨_,rfl,x,(kd3 Z.c_Piece Z.c_Push Z.c_Hold) _,_,_,_,rfl,hx,T.cl _,T.nZ _,eU _ _ _,Z.aO,zz,(1,1),p,1,k,rfl,fO _,fp,h11,lp.pos,p0,iE,bp,(),λs' H1 s1 e1=>?_⟩;have fs:Fq Z.K H1 s' (lH (1,1) p):=Fq.of e1;have rw1:=rw.same s1;obtain⟨dx1,hx1⟩:=id rw1;have mx1:=mx.same s1;refine⟨_,rfl,_,rfl,_,rfl,x,(kd3 Z.c_Piece Z.c_Push Z.c_Hold) _,_,_,_,rfl,hx1,T.cl _,T.nS _,dI _ _ _,_,rfl,D,x,s',_,as,M,(k0,(uN:Int),(vN:Int),p),w,n,k+1,uN,_,rfl,mx1,mb,rw1,pt',(),fs,ls,bs,(),λH2 sx2 mx2=>?_⟩;have lst:=mx1.lsts;have fs2:Fq Z.K H2 s' (lH (1,1) p):=sx2.seqT lst fs;have rw2:=sx2.rw lst rw1;obtain⟨dx2,hx2⟩:=id rw2;obtain⟨mb2,_⟩:=Fe (d:=(k0,(uN:Int),(vN:Int),p)) mb pt' (c:=uN) () ls bs;have b01:Bd 1 (0,1):=⟨show (0:Nat) < 2 ^ 1 by decide,show (1:Nat) < 2 ^ 1 by decide⟩
 refine⟨_,rfl,_,rfl,_,rfl,x,(kd3 Z.c_Piece Z.c_Push Z.c_Hold) _,_,_,_,rfl,hx2,T.cl _,T.nG _,dW _ _ _,_,rfl,Z.aN,s',(0,1),_,1,k+1,rfl,fN _,fs2,∅,ls.pos,b01,bs,(),λv3 H3 s3 e3=>?_⟩;refine⟨D,x,v3,_,as,_,(k0,(uN:Int),(vN:Int),p),w,n+2*(k+1)+4,k+3,vN,_,rfl,mx2.same s3,mb2,rw2.same s3,pt',(),Fq.of e3,ln,bn,(),λH4 sx4 mx4=>?_⟩;exact q H4 (s1.sx.trans (sx2.trans (s3.sx.trans sx4))) mx4
theorem Y43:DZ 5 Z.f43 Z.d43 ["right","row"] (qV Z.K (kd3 Z.c_Piece Z.c_Push Z.c_Hold)) "enter_push":=by
 refine⟨?_,F43.b2 _ _ (by intros;rfl),F43.kp,m43⟩
 refine F43.ok9 Qx λ_ _ _ s H _ Q E hr h=>?_;obtain⟨R,x,zz,ys,rs,⟨k0,u,v,p⟩,w,n,k,rfl,eR,hF,lb,rw,fp,pt,lp,bp,hn,q⟩:=h;have r3:=hr.mono (show 3<=4 by lia);refine⟨_,(aD (bZ (d9 Y40 hr rfl (aA (pv 0) (aA (bX (pv 1) rfl) (aA (d9 Y5 r3 rfl (aA (cQ (v:=.ref Z.aN) rfl mv_NOUGHT rfl) (aA (bX (pv 1) rfl) aC))) aC)))))
  (aG (bZ (d9 Y40 hr rfl (aA (pv 0) (aA (bX (pv 1) rfl) (aA (bX (pv 1) rfl) aC))))))),?_⟩
 have lp:Low p:=lp;have bp:Bd k p:=bp;have fp:Fq Z.K H zz p:=fp;obtain⟨i0,i1,j0,j1⟩:dD (w:Int) u v:=pt;obtain⟨uN,rfl⟩:∃uN:Nat,u=(uN:Int):=⟨u.toNat,()⟩
 obtain⟨vN,rfl⟩:∃vN:Nat,v=(vN:Int):=⟨v.toNat,()⟩
 obtain⟨ln,bn,_⟩:=mU lp bp;obtain⟨dx,hx⟩:=id rw;obtain⟨_,l1,b1⟩:=lb.at (j:=uN) ();have b01:Bd 1 (0,1):=⟨show (0:Nat) < 2 ^ 1 by decide,show (1:Nat) < 2 ^ 1 by decide⟩
 refine⟨_,rfl,_,rfl,x,(kd3 Z.c_Piece Z.c_Push Z.c_Hold) _,_,_,_,rfl,hx,T.cl _,T.nS _,dI _ _ _,_,rfl,x,(kd3 Z.c_Piece Z.c_Push Z.c_Hold) _,_,_,_,rfl,hx,T.cl _,T.nZ _,eU _ _ _,Z.aN,zz,(0,1),p,1,k,rfl,fN _,fp,∅,lp.pos,b01,bp,(),λv1 H1 s1 e1=>?_⟩;refine⟨R,v1,uN,ys,rs,_,n,k+2,rfl,s1 _ _ eR,hF.same s1,by rw[lb.w];lia,l1.pos,b1,Fq.of e1,ln.pos,bn,(),λv2 H2 s2 f2=>?_⟩;have s12:=s1.trans s2;have eR2:=s12 _ _ eR;have F3:=(Fqs.set f2 uN (hF.same s12)).upd (o:=.lst (ys.set uN (.ref v2))) eR2;have e3:upd H2 R (.lst (ys.set uN (.ref v2))) R=some (.lst (ys.set uN (.ref v2))):=aB;have sx3:SX [R] H (upd H2 R (.lst (ys.set uN (.ref v2)))):=s12.sx.write ⋯;have fp3:Fq Z.K (upd H2 R (.lst (ys.set uN (.ref v2)))) zz p:=SqT.upd (s12.fq fp) eR2;have rw3:=(rw.same s12).upd (o:=.lst (ys.set uN (.ref v2))) eR2;generalize upd H2 R (.lst (ys.set uN (.ref v2)))=H3 at F3 e3 sx3 fp3 rw3 ⊢;have lb3:=lb.rz (j:=uN) () ln bn;have F3:Fqs Z.K H3 (ys.set uN (.ref v2)) (rzl rs uN (Mq.minus (0,1) p)):=F3;obtain⟨_,l4,b4⟩:=lb3.at (j:=vN) ();obtain⟨dx3,hx3⟩:=id rw3;refine⟨_,rfl,_,rfl,x,(kd3 Z.c_Piece Z.c_Push Z.c_Hold) _,_,_,_,rfl,hx3,T.cl _,T.nG _,dW _ _ _,_,rfl,x,(kd3 Z.c_Piece Z.c_Push Z.c_Hold) _,_,_,_,rfl,hx3,T.cl _,T.nZ _,eU _ _ _,R,zz,vN,_,_,p,n+(k+2)+1,k,rfl,e3,F3,by rw[lb3.w];lia,l4.pos,b4,fp3,lp.pos,bp,(),λv5 H5 s5 f5=>?_⟩;refine q _ _ (sx3.trans (s5.sx.write ⋯)) aB ?_;exact(Fqs.set f5 vN (F3.same s5)).upd (s5 _ _ e3)
theorem Y44:DZ 6 Z.f44 Z.d44 ["matrix","right","row","column"] (vG Z.K (kd3 Z.c_Piece Z.c_Push Z.c_Hold)) "enter_hold":=by
 refine⟨?_,F44.b4 _ _ _ _ (by intros;rfl),F44.kp,m44⟩
 refine F44.ok9 Ps λ_ _ _ s H _ Q E hr h=>?_;obtain⟨D,R,x,zz,as,M,ys,rs,⟨k0,u,v,p⟩,w,n,c,rfl,mx,mb,eR,hFR,lr,nRD,nRa,rw,fp,pt,hc,hn,q⟩:=h;have r3:=hr.mono (show 3<=5 by lia);have r4:=hr.mono (show 4<=5 by lia);refine⟨_,(aD (bZ (aH Y41.G hr rfl m41 F41.kp Y41.b .nil aK (aA (pv 0) (aA (pv 2) (aA (pv 3) (aA (cQ (v:=.ref Z.aO) rfl mv_ONE rfl) aC))))))
  (aD (bZ (aH Y40.G r4 rfl m40 F40.kp Y40.b .nil aK (aA (aW cA (pv 0) (pv 3) (λ_ _=>rfl)) (aA (bX (pv 2) rfl) (aA (cQ (v:=.ref Z.aO) rfl mv_ONE rfl) aC)))))
  (aD (bZ (aH Y40.G r4 rfl m40 F40.kp Y40.b .nil aK (aA (aW cA (pv 0) (pv 3) (λ_ _=>rfl)) (aA (bX (pv 2) rfl) (aA (aH Y5.G r3 rfl m5 F5.kp Y5.b .nil aK (aA (cQ (v:=.ref Z.aN) rfl mv_NOUGHT rfl) (aA (cQ (v:=.ref Z.aO) rfl mv_ONE rfl) aC))) aC)))))
  (aG (mH (bX (pv 2) rfl) (pD (pv 1) (pv 3) iZ)))))),?_⟩
 have fp:Fq Z.K H zz p:=fp;obtain⟨i0,i1,j0,j1⟩:dD (w:Int) u v:=pt;obtain⟨uN,rfl⟩:∃uN:Nat,u=(uN:Int):=⟨u.toNat,()⟩
 obtain⟨vN,rfl⟩:∃vN:Nat,v=(vN:Int):=⟨v.toNat,()⟩
 have pt':dD (w:Int) (uN:Int) (vN:Int):=⟨i0,i1,j0,j1⟩
 obtain⟨ln,bn,_⟩:=mU hJ iE;have lam:=mx.la;refine⟨_,rfl,_,rfl,_,rfl,D,x,Z.aO,_,as,M,(k0,(uN:Int),(vN:Int),p),w,n,1,c,(1,1),rfl,mx,mb,rw,pt',hc,fO _,hJ,iE,(),λH1 sx1 mx1=>?_⟩;have lst:=mx.lsts;have rw1:=sx1.rw lst rw;have fp1:Fq Z.K H1 zz p:=sx1.seqT lst fp;have eR1:=sx1 _ _ eR nRa;have FR1:=SX.fqs lst sx1 hFR;obtain⟨mb1,_⟩:=Fe (d:=(k0,(uN:Int),(vN:Int),p)) mb pt' hc hJ iE;generalize hM1:en M (k0,(uN:Int),(vN:Int),p) c (1,1)=M1 at mx1 mb1;obtain⟨ac,hac⟩:∃ac,as[c]?=some ac:=⟨_,getElem?_eq_getElem (by rw[lam,mb.h];exact hc)⟩
 have atc:atI (as.map V.ref) (c:Int)=some (.ref ac):=cO (by rw[getElem?_map,hac];rfl);obtain⟨e1,m41,w1⟩:=mb1.row hc;obtain⟨_,l2,Y40.b⟩:=mb1.at hc (j:=uN) ();obtain⟨xs,hxs,hF⟩:=mx1.r c ac _ hac e1;obtain⟨dx1,hx1⟩:=id rw1;refine⟨_,rfl,_,rfl,D,_,_,_,rfl,rfl,SqL.of mx1.d,atc,_,rfl,x,(kd3 Z.c_Piece Z.c_Push Z.c_Hold) _,_,_,_,rfl,hx1,T.cl _,T.nS _,dI _ _ _,ac,Z.aO,uN,xs,_,(1,1),n+2*1+4,1,rfl,hxs,hF,by rw[w1];lia,l2.pos,Y40.b,fO _,h11,iE,(),λv1 H2 s2 f2=>?_⟩;obtain⟨mx3,sx3⟩:=mx1.set (j:=uN) hac e1 hxs hF s2 f2;have lst1:=mx1.lsts;generalize upd H2 ac (.lst (xs.set uN (.ref v1)))=H3 at mx3 sx3 ⊢;have mb3:=mb1.rz hc (j:=uN) () hJ iE;have mx3:Mx Z.K H3 D as (rz M1 c uN (1,1)):=mx3;have rw3:=sx3.rw lst1 rw1;have fp3:Fq Z.K H3 zz p:=sx3.seqT lst1 fp1;have eR3:=sx3 _ _ eR1 nRa;have FR3:=SX.fqs lst1 sx3 FR1;generalize hM3:rz M1 c uN (1,1)=M3 at mx3 mb3;obtain⟨e3,m5,w3⟩:=mb3.row hc;obtain⟨_,l4,b4⟩:=mb3.at hc (j:=vN) ();obtain⟨xs3,hxs3,hF3⟩:=mx3.r c ac _ hac e3;obtain⟨dx3,hx3⟩:=id rw3;refine⟨_,rfl,_,rfl,D,_,_,_,rfl,rfl,SqL.of mx3.d,atc,_,rfl,x,(kd3 Z.c_Piece Z.c_Push Z.c_Hold) _,_,_,_,rfl,hx3,T.cl _,T.nG _,dW _ _ _,Z.aN,Z.aO,(0,1),(1,1),1,1,rfl,fN _,fO _,∅,h11,⟨show (0:Nat) < 2 ^ 1 by decide,show (1:Nat) < 2 ^ 1 by decide⟩,iE,(),λv4 H4 s4 e4=>?_⟩;refine⟨ac,v4,vN,xs3,_,_,n+2*1+4+1+1,1+2,rfl,s4 _ _ hxs3,hF3.same s4,by rw[w3];lia,l4.pos,b4,Fq.of e4,ln.pos,bn,(),λv5 H5 s5 f5=>?_⟩;obtain⟨mx6,sx6⟩:=(mx3.same s4).set (j:=vN) hac e3 (s4 _ _ hxs3) (hF3.same s4) s5 f5;have sx36:=(aV.sx (as:=as) s4).trans sx6;have lst3:=mx3.lsts;generalize upd H5 ac (.lst (xs3.set vN (.ref v5)))=H6 at mx6 sx6 sx36 ⊢;have mx6:Mx Z.K H6 D as (rz M3 c vN (Mq.minus (0,1) (1,1))):=mx6;have rw6:=sx36.rw lst3 rw3;have fp6:Fq Z.K H6 zz p:=sx36.seqT lst3 fp3;have eR6:=sx36 _ _ eR3 nRa;have FR6:=SX.fqs lst3 sx36 FR3;obtain⟨dx6,hx6⟩:=id rw6;have ly:=FR6.length;refine⟨_,rfl,x,(kd3 Z.c_Piece Z.c_Push Z.c_Hold) _,_,_,_,rfl,hx6,T.cl _,T.nZ _,eU _ _ _,_,rfl,_,rfl,R,ys,_,c,rfl,rfl,eR6,kW (),?_⟩;have eM:hM M (k0,(uN:Int),(vN:Int),p) c=rz M3 c vN (Mq.minus (0,1) (1,1)):=by rw[<- hM3,<- hM1];rfl
 have mx7:=mx6.other (o:=.lst (ys.set c (.ref zz))) eR6 nRD nRa;rw[<- eM] at mx7;refine q _ _ ?_ mx7 aB ((Fqs.set fp6 c FR6).upd eR6);refine SX.write (SX.mono (sx1.trans (sx3.trans sx36)) λx hx=>mem_cons_of_mem _ hx) ⋯
theorem Y45:DZ 7 Z.f45 Z.d45 ["net"] (vI Z.c_Net Z.K) "equations":=by
 refine⟨?_,F45.b1 _ (by intros;rfl),F45.kp,m45⟩
 refine F45.ok9 pY λ_ _ _ s H _ Q E hr h=>?_;obtain⟨n,l,m,kb,ds,rfl,nt,hK,hm1,hm20,h40,hbig,q⟩:=h;have r1:=hr.mono (show 1<=6 by lia);have r4:=hr.mono (show 4<=6 by lia);have r5:=hr.mono (show 5<=6 by lia);refine⟨_,(aD (qQ0 (i:=1) pY.nd (bN (pv 0) NTx.cl X4 R32 r4 b32 .nil aK))
  (aD (qQ0 (i:=2) pY.nd (bN (pv 0) NTx.cl X3 R28 r1 b28 .nil aK))
  (aD (aS (i:=3) pY.nd rfl (Or.inr rfl) (aY dS (pv 2) (bL bQ rfl n_len PySem.boot_len (aA (fV (nl:=1) (fr:=[]) (Nc:=["row"]) (cl:=[]) rfl ⟨rfl,rfl,∅,∅,λx c h=>(by cases h),fI rfl,rfl,λi n h=>(by simp at h)⟩
    (dM (pv 1)) (λ_ _ _ _ _=>(qQ1 (i:=0) Oe)) (λ_ _ _ _ _=>(uA (bA eQ (eJ (pv 0) T.cl mW GW r1 bW .nil aK) bV (bC _))))
    (λ_ _ _ _ _=>(pv 0))) aC))))
  (aD (uV (i:=4) (nl:=1) (fr:=[3]) (Nc:=["line","width"]) (cl:=[("width",s.heap.objs.size+1)]) pY.nd rfl rfl rfl ⟨rfl,rfl,∅,∅,λx c h=>h,fI rfl,rfl,λi n h=>match i,h with | 0,h=>by cases h;exact⟨3,rfl,rfl,rfl,rfl,.inl rfl⟩ | k+1,h=>by rw[show 1+(k+1)=k+2 by lia] at h;cases h⟩
    (jX rfl n_range (aA (pv 3) aC)) (λ_ _ _ _ _=>(qQ1 (i:=0) yH)) (λ_ _ _ _ _=>fX)
    (λ_ _ _ _ _=>(aY Ai (cD (aA (cQ (v:=.ref Z.aN) rfl mv_NOUGHT rfl) aC)) (pv 1))) rfl)
  (aD (qQ0 (i:=5) pY.nd (aY Ai (cD (aA (cQ (v:=.ref Z.aN) rfl mv_NOUGHT rfl) aC)) (pv 3)))
  (aD (qQ0 (i:=6) pY.nd (pv 2))
  (aD (gA PassesOwn.never rfl (dM (pv 1)) (qQ1 (i:=7) pY.nd)
   (aG (cC (bA eQ (eJ (pv 7) T.cl mW GW r1 bW .nil aK) bV (bC _)) (aG (bZ (d9 Y42 hr rfl (aA (pv 4) (aA (pv 7) aC))))) (aG (cC (bA eQ (eJ (pv 7) T.cl mW GW r1 bW .nil aK) bV (bC _)) (aG (bZ (d9 Y43 r5 rfl (aA (pv 5) (aA (pv 7) aC))))) (aD (bZ (d9 Y44 hr rfl (aA (pv 4) (aA (pv 5) (aA (pv 7) (aA (pv 6) aC))))))
  (aG (Ib (i:=6) pY.nd rfl (Or.inl rfl) aE Iq))))))))
  (aG (aT (cF (aA (fV (nl:=1) (fr:=[]) (Nc:=["line"]) (cl:=[]) rfl ⟨rfl,rfl,∅,∅,λx c h=>(by cases h),fI rfl,rfl,λi n h=>(by simp at h)⟩
    (dM (fA gK (pv 4) (eY aE) iH)) (λ_ _ _ _ _=>(qQ1 (i:=0) Uz)) (λ_ _ _ _ _=>fX)
    (λ_ _ _ _ _=>(fA (No (K:=Z.K) rfl) (pv 0) (eY aE) iH))) (aA (fA gK (pv 5) (eY aE) iH) aC)))))))))))),?_⟩
 obtain⟨dx,hn⟩:=nt.ob;refine⟨_,rfl,n,dx,_,rfl,hn,cI _ _ ∅ ∅,n,l,_,ds,rfl,nt,(),λa xs H1 s1 na ea Rb=>?_⟩;have lxs:=Rb.length;obtain⟨dx1,hn1⟩:=(nt.same s1).ob;refine⟨_,rfl,n,dx1,_,rfl,hn1,cI _ _ ∅ ∅,n,l,_,ds,rfl,nt.same s1,?_⟩;refine⟨_,rfl,_,rfl,a,rfl,⟨_,SqL.of ea⟩,λC0 hC0=>?_⟩;have sC0:=aF hC0 (.lst []);refine fC (xs:=xs) (λi zs H'=>aV H1 H'/\H' C0=some (.lst zs)/\zs.length=bO (ds.take i)) ⟨sC0,aB,rfl⟩ (λi zs H' h=>h.2.1) (λi zs H' _ h=>h.1.seq (SqL.of ea)) ?_ ?_
 .rintro i zs x H2 hx ⟨s2,e2,lz⟩ C hC;have hi:i < ds.length:=by
   have:=(List.getElem?_eq_some_iff.mp hx).1;lia
  obtain⟨⟨k0,u,v,p⟩,hd⟩:∃d,ds[i]?=some d:=⟨_,getElem?_eq_getElem hi⟩
  obtain⟨y,z,ey,rw,fz⟩:=Rb.at hd;have ex:x=.ref y:=by rw[ey] at hx;exact(Option.some.inj hx).symm
  subst ex;obtain⟨dr,hy⟩:=id (rw.same s2);have et:ds.take (i+1)=ds.take i++[(k0,u,v,p)]:=by rw[take_add_one,hd];rfl
  have lh:=Ii (ds:=ds) i;have lh2:bO ds<=ds.length:=length_filter_le _ _;refine⟨fR.1,fR.2,?_⟩;refine⟨_,rfl,k0,y,dr,_,rfl,hy,(cT _ _ _ ∅ ∅ ∅),_,rfl,rfl,_,rfl,?_⟩
  by_cases hk:k0=.ho
  .refine ifT (by show decide (V.str k0.wd=V.str Kd.ho.wd)=true;rw[dF];exact decide_eq_true hk) ⟨_,rfl,e2,bK (),hC _ _ ⟨s2.change hC0,aB,?_⟩⟩;rw[et,fZ,List.length_append,lz];show _+1=_+bY k0;unfold bY;rw[if_pos hk]
  .refine ifF (by show decide (V.str k0.wd=V.str Kd.ho.wd)=false;rw[dF];exact decide_eq_false hk) (hC _ _ ⟨s2,e2,?_⟩);rw[et,fZ,lz];show _=_+bY k0;unfold bY;rw[if_neg hk];rfl
 rintro zs0 H2 ⟨s2,e2,lz0⟩;rw[lxs,take_length] at lz0;refine⟨C0,zs0,rfl,.inl (SqL.of e2),_,_,rfl,rfl,?_⟩;obtain⟨W,hW⟩:∃W:Nat,W=m+bO ds:=⟨_,rfl⟩
 have lh2:bO ds<=ds.length:=length_filter_le _ _;have eW:(m:Int)+(zs0.length:Int)=(W:Int):=by rw[lz0,hW];lia
 show jL _ _ _ [some (.ref n),some (.ref a),some (.int (m:Int)),some (.int ((m:Int)+(zs0.length:Int))),none,none,none,none] H2;rw[eW];have hW60:W<=60:=by lia
 have hmW:m<=W:=by lia
 have s12:=s2;clear e2 sC0;refine⟨_,rfl,(W:Int),rfl,(),(),λD hD=>?_⟩;rw[Int.toNat_natCast];have sD:=aF hD (.lst []);refine xO (n:=W) (λi zs H'=>aV H2 H'/\H' D=some (.lst zs)/\∃as:List Addr,zs=as.map V.ref/\as.length=i/\as.Nodup/\D∉as/\(∀b∈as,H2 b=none)/\∀b∈as,H' b=some (.lst (replicate W (.ref Z.aN)))) ⟨sD,aB,[],rfl,rfl,nodup_nil,⋯,(λb hb=>by cases hb),(λb hb=>by cases hb)⟩ (λi zs H' h=>h.2.1) ?_ ?_
 .rintro i zs H3 hi ⟨s3,e3,as,rfl,la,nd,nD,fr,al⟩ C hC;refine⟨fR.1,fR.2,gC ?_⟩;refine⟨zl9 1,λl1 hl1=>?_⟩;have s4:=aF hl1 (.lst [.ref Z.aN]);have e4:upd H3 l1 (.lst [.ref Z.aN]) l1=some (.lst [.ref Z.aN]):=aB;generalize upd H3 l1 (.lst [.ref Z.aN])=H4 at s4 e4 ⊢;refine⟨_,rfl,l1,(W:Int),[.ref Z.aN],rfl,rfl,e4,(),(),?_,λb hb=>?_⟩
  .rw[Int.toNat_natCast,sizeLine_eq];simp only[length_cons,length_nil];lia
  rw[Int.toNat_natCast,mP];have s5:=aF hb (.lst (replicate W (.ref Z.aN)));have e5:upd H4 b (.lst (replicate W (.ref Z.aN))) b=some (.lst (replicate W (.ref Z.aN))):=aB;generalize upd H4 b (.lst (replicate W (.ref Z.aN)))=H5 at s5 e5 ⊢;have s35:=s4.trans s5;have e35:=s35 _ _ e3;have nbD:b≠D:=Ne.symm (aQ (s4 _ _ e3) hb);have nba:b∉as:=λz=>by rw[s4 _ _ (al b z)] at hb;cases hb
  refine⟨e35,bK (by rw[length_map];lia),hC _ _ ⟨(s3.trans s35).change hD,aB,as++[b],by rw[map_append];rfl,by rw[List.length_append,la];rfl,?_,?_,λc hc=>?_,λc hc=>?_⟩⟩
  .rw[nodup_append];refine⟨nd,⋯,λx hx y hy z=>?_⟩;have:y=b:=by simpa using hy
   exact nba (by rw[<- this,<- z];exact hx)
  .intro z;rcases mem_append.mp z with z | z
   .exact nD z
   .have:D=b:=by simpa using z
    exact nbD this.symm
  .rcases mem_append.mp hc with z | z
   .exact fr c z
   .have:c=b:=by simpa using z
    rw[this];exact(s3.trans s4).free hb
  .rcases mem_append.mp hc with z | z
   .rw[aX (λy=>nD (by rw[<- y];exact z))];exact s35 _ _ (al c z)
   .have:c=b:=by simpa using z
    rw[this,aX nbD];exact e5
 rintro zs3 H3 ⟨s3,e3,as,rfl,la,nd,nD,fr,al⟩;have mx3:Mx Z.K H3 D as (replicate W (replicate W (0,1))):=⟨e3,nd,nD,by rw[la,length_replicate],λi b ps h1 h2=>by
  rw[eq_of_mem_replicate (mem_of_getElem? h2)];exact⟨_,al b (mem_of_getElem? h1),lT (fN _) W⟩⟩
 have nDH:H2 D=none:=hD;refine⟨zl9 1,λl1 hl1=>?_⟩;have s4:=aF hl1 (.lst [.ref Z.aN]);have e4:upd H3 l1 (.lst [.ref Z.aN]) l1=some (.lst [.ref Z.aN]):=aB;generalize upd H3 l1 (.lst [.ref Z.aN])=H4 at s4 e4 ⊢;refine⟨_,rfl,l1,(W:Int),[.ref Z.aN],rfl,rfl,e4,(),(),?_,λR hR=>?_⟩
 .rw[Int.toNat_natCast,sizeLine_eq];simp only[length_cons,length_nil];lia
 rw[Int.toNat_natCast,mP];have s5:=aF hR (.lst (replicate W (.ref Z.aN)));have e5:upd H4 R (.lst (replicate W (.ref Z.aN))) R=some (.lst (replicate W (.ref Z.aN))):=aB;generalize upd H4 R (.lst (replicate W (.ref Z.aN)))=H5 at s5 e5 ⊢;have s25:=s3.trans (s4.trans s5);have nRH:H2 R=none:=(s3.trans s4).free hR;have nRD:R≠D:=Ne.symm (aQ ((s4) _ _ mx3.d) hR);have nRa:R∉as:=λz=>by rw[s4 _ _ (al R z)] at hR;cases hR
 have mx5:=(mx3.same s4).same s5;have allN:∀b∈R :: as,H2 b=none:=λb hb=>by
  rcases mem_cons.mp hb with z | z
  .rw[z];exact nRH
  .exact fr b z
 have F5:Fqs Z.K H5 (replicate W (.ref Z.aN)) (replicate W (0,1)):=lT (fN _) W;refine⟨_,rfl,?_⟩;have eaH:=s12 _ _ ea;have Rb2:=Rb.same s12;refine⟨_,rfl,a,rfl,⟨_,SqL.of (s25 _ _ eaH)⟩,?_⟩;refine gU (xs:=xs) (λi σ H'=>aV H2 H'/\∃(M:List (List Q2)) (ys:List V) (rs:List Q2) (z7:Option V),σ=[some (.ref n),some (.ref a),some (.int (m:Int)),some (.int (W:Int)),some (.ref D),some (.ref R),some (.int ((m+bO (ds.take i):Nat):Int)),z7]/\Mx Z.K H' D as M/\MxB M W W (kL kb i+1)/\H' R=some (.lst ys)/\Fqs Z.K H' ys rs/\LnB rs W (kL kb i+1)/\(∀x y,Mq.val (jS M x y)=eqM m (ds.take i) x y)/\∀x,Mq.val (rs.getD x (0,1))=eqR m (ds.take i) x) ⟨s25,_,_,_,none,rfl,mx5,Vh W,e5,F5,Cf W,λx y=>by rw[Tu,tJ];rfl,λx=>by rw[sM,tJ];rfl⟩ (λi σ H' _ h=>h.1.seq (SqL.of eaH)) ?_ ?_
 .rintro i x σ H6 hx ⟨s6,M,ys,rs,z7,rfl,mx,mb,eR,FR,lb,vM,vR⟩;have hi:i < ds.length:=by
   have:=(List.getElem?_eq_some_iff.mp hx).1;lia
  obtain⟨⟨k0,u,v,p⟩,hd⟩:∃d,ds[i]?=some d:=⟨_,getElem?_eq_getElem hi⟩
  obtain⟨y,z,ey,rw0,fz0⟩:=Rb2.at hd;have ex:x=.ref y:=by rw[ey] at hx;exact(Option.some.inj hx).symm
  subst ex;obtain⟨rd,bp⟩:=hK i _ hd;have lp:Low p:=rd.2.2.2.2.1;have bp:Bd (kb i) p:=bp;have ptm:dD (m:Int) u v:=⟨rd.1,rd.2.1,rd.2.2.1,rd.2.2.2.1⟩
  have ptW:dD (W:Int) u v:=⟨rd.1,by have:=rd.2.1;show u < (W:Int);have h2:u < (m:Int):=this;lia,rd.2.2.1,by have h2:v < (m:Int):=rd.2.2.2.1;show v < (W:Int);lia⟩
  have rw6:=rw0.same s6;have fz6:Fq Z.K H6 z p:=s6.fq fz0;obtain⟨dr,hy⟩:=id rw6;have et:ds.take (i+1)=ds.take i++[(k0,u,v,p)]:=by rw[take_add_one,hd];rfl
  have hh:=Ii (ds:=ds) (i+1);rw[et,fZ] at hh;have hh:bO (ds.take i)+bY k0<=bO ds:=hh;have eN:kL kb (i+1)+1=(kL kb i+1)+(4*kb i+20):=by show kL kb i+(4*kb i+20)+1=_;lia
  have leN:kL kb i+(4*kb i+20)<=kL kb ds.length:=zM kb (i:=i+1) hi;have eM:∀x y,eqM m (ds.take (i+1)) x y=eqM m (ds.take i) x y+cM (k0,u,v,p) (m+bO (ds.take i)) x y:=λx y=>by rw[et,Ez]
  have eRr:∀x,eqR m (ds.take (i+1)) x=eqR m (ds.take i) x+cR (k0,u,v,p) (m+bO (ds.take i)) x:=λx=>by rw[et,Dy]
  have eH:bO (ds.take (i+1))=bO (ds.take i)+bY k0:=by rw[et,fZ]
  rw[eN,eH];have lst:=mx.lsts
  cases k0 with
  |pc=>
   have p0:0 < p.1:=rd.2.2.2.2.2.1 rfl;refine⟨_,rfl,Kd.pc,y,dr,_,rfl,hy,(cT _ _ _ ∅ ∅ ∅),_,rfl,rfl,_,rfl,ifT (by show decide (V.str Kd.pc.wd=V.str Kd.pc.wd)=true;rw[dF];rfl) ?_⟩;refine⟨_,rfl,_,rfl,D,y,z,as,M,(.pc,u,v,p),W,kL kb i+1,kb i,rfl,mx,mb,rw6,fz6,ptW,lp,p0,bp,(),λH7 sx7 mx7=>?_⟩;obtain⟨mb7,v7⟩:=qk8 (d:=(.pc,u,v,p)) (h:=m+bO (ds.take i)) mb ptm hmW rfl lp p0 bp;have eR7:=sx7 _ _ eR nRa;refine⟨SX.same s6 sx7 fr,_,ys,rs,_,rfl,mx7,mb7.mono (),eR7,SX.fqs lst sx7 FR,lb.mono (),λx y=>by rw[v7,vM,eM],λx=>?_⟩;rw[vR,eRr];show _=_+(0:Rat)
   rw[Rat.add_zero]
  |pu=>
   refine⟨_,rfl,Kd.pu,y,dr,_,rfl,hy,(cT _ _ _ ∅ ∅ ∅),_,rfl,rfl,_,rfl,ifF (by show decide (V.str Kd.pu.wd=V.str Kd.pc.wd)=false;rw[dF];rfl) ?_⟩;refine⟨_,rfl,Kd.pu,y,dr,_,rfl,hy,(cT _ _ _ ∅ ∅ ∅),_,rfl,rfl,_,rfl,ifT (by show decide (V.str Kd.pu.wd=V.str Kd.pu.wd)=true;rw[dF];rfl) ?_⟩;refine⟨_,rfl,_,rfl,R,y,z,ys,rs,(.pu,u,v,p),W,kL kb i+1,kb i,rfl,eR,FR,lb,rw6,fz6,ptW,lp,bp,(),λys' H7 sx7 eR7 F7=>?_⟩;obtain⟨lb7,v7⟩:=Yw (d:=(.pu,u,v,p)) (h:=m+bO (ds.take i)) lb ptm hmW rfl lp bp;have mx7:Mx Z.K H7 D as M:=⟨sx7 _ _ mx.d (by simp;exact Ne.symm nRD),mx.n,mx.nd,mx.la,λi' b ps h1 h2=>by
    obtain⟨ws,h,f⟩:=mx.r i' b ps h1 h2;refine⟨ws,sx7 _ _ h (by simp;exact λz=>nRa (by rw[<- z];exact mem_of_getElem? h1)),SX.fqs (as:=[R]) (λc hc=>?_) sx7 f⟩;have:c=R:=by simpa using hc
    exact⟨ys,by rw[this];exact eR⟩⟩
   refine⟨SX.same s6 sx7 (λc hc=>by have:c=R:=(by simpa using hc);rw[this];exact nRH),M,ys',_,_,rfl,mx7,mb.mono (),eR7,F7,lb7.mono (),λx y=>?_,λx=>by rw[v7,vR,eRr]⟩;rw[vM,eM];show _=_+(0:Rat)
   rw[Rat.add_zero]
  |ho=>
   have hc1:bY Kd.ho=1:=rfl;rw[hc1] at hh;have hcW:m+bO (ds.take i) < W:=by lia
   refine⟨_,rfl,Kd.ho,y,dr,_,rfl,hy,(cT _ _ _ ∅ ∅ ∅),_,rfl,rfl,_,rfl,ifF (by show decide (V.str Kd.ho.wd=V.str Kd.pc.wd)=false;rw[dF];rfl) ?_⟩;refine⟨_,rfl,Kd.ho,y,dr,_,rfl,hy,(cT _ _ _ ∅ ∅ ∅),_,rfl,rfl,_,rfl,ifF (by show decide (V.str Kd.ho.wd=V.str Kd.pu.wd)=false;rw[dF];rfl) ?_⟩;refine⟨_,rfl,_,rfl,_,rfl,_,rfl,D,R,y,z,as,M,ys,rs,(.ho,u,v,p),W,kL kb i+1,m+bO (ds.take i),rfl,mx,mb,eR,FR,lb.w,nRD,nRa,rw6,fz6,ptW,hcW,(),λys' H7 sx7 mx7 eR7 F7=>?_⟩;obtain⟨mb7,v7⟩:=ql6 (d:=(.ho,u,v,p)) mb ptm hmW hcW rfl;have z0:Mq.val (rs.getD (m+bO (ds.take i)) (0,1))=0:=by
    rw[vR];exact zG (m:=m) _ _ _ (λd hd'=>by
     obtain⟨i1,hi1⟩:=getElem?_of_mem (mem_of_mem_take hd');have:=(hK i1 d hi1).1;exact⟨this.1,this.2.1,this.2.2.1,this.2.2.2.1⟩) (Nat.le_refl _) (Nat.le_refl _)
   obtain⟨lb7,w7⟩:=qq9 (m:=m) (d:=(.ho,u,v,p)) lb hcW rfl lp bp z0;refine⟨_,rfl,_,_,rfl,rfl,?_⟩;refine⟨SX.same s6 sx7 allN,_,ys',_,some (.ref y),?_,mx7,mb7.mono (),eR7,F7,lb7.mono (),λx y=>by rw[v7,vM,eM],λx=>by rw[w7,vR,eRr]⟩;have e1:((m+bO (ds.take i):Nat):Int)+1=((m+(bO (ds.take i)+bY Kd.ho):Nat):Int):=by rw[hc1];lia
   rw[<- e1];rfl
 rintro σ H6 ⟨s6,M,ys,rs,z7,rfl,mx,mb,eR,FR,lb,vM,vR⟩;rw[lxs] at mb lb vM vR;rw[take_length] at vM vR;refine⟨_,rfl,1,rfl,D,_,rfl,SqL.of mx.d,λC hC=>?_⟩;rw[Js];have s7:=aF hC (.lst ((as.map V.ref).drop 1));have e7:upd H6 C (.lst ((as.map V.ref).drop 1)) C=some (.lst ((as.map V.ref).drop 1)):=aB;generalize upd H6 C (.lst ((as.map V.ref).drop 1))=H7 at s7 e7 ⊢;have mx7:=mx.same s7;refine⟨C,rfl,⟨_,SqL.of e7⟩,λP hP=>?_⟩;have sP:=aF hP (.lst []);refine fC (xs:=(as.map V.ref).drop 1) (λi zs H'=>aV H7 H'/\H' P=some (.lst zs)/\Fms Z.K H7 H' zs (((M.drop 1).map (List.drop 1)).take i)/\∀x∈zs,x≠.ref P) ⟨sP,aB,⟨rfl,λi x ps h=>by simp at h⟩,λx hx=>by cases hx⟩ (λi zs H' h=>h.2.1) (λi zs H' _ h=>h.1.seq (SqL.of e7)) ?_ ?_
 .rintro i zs x H8 hx ⟨s8,e8,fm,nP⟩ C' hC';rw[getElem?_drop,getElem?_map] at hx;obtain⟨b,hb,rfl⟩:=Option.map_eq_some_iff.mp hx;have bl':=(List.getElem?_eq_some_iff.mp hb).1;have hM1:1+i < M.length:=by rw[<- mx.la];exact bl'
  obtain⟨ws,hws,fws⟩:=(mx7.same s8).r (1+i) b M[1+i] hb (getElem?_eq_getElem hM1);have lz:=fm.l;rw[length_take,length_map,length_drop] at lz;have hM60:M.length<=60:=by rw[mb.h];exact hW60
  refine⟨fR.1,fR.2,gC ?_⟩;refine⟨_,rfl,1,rfl,b,_,rfl,SqL.of hws,λc hc=>?_⟩;rw[Js];have s9:=aF hc (.lst (ws.drop 1));have e9:upd H8 c (.lst (ws.drop 1)) c=some (.lst (ws.drop 1)):=aB;generalize upd H8 c (.lst (ws.drop 1))=H9 at s9 e9 ⊢;have e89:=s9 _ _ e8;have ncP:c≠P:=Ne.symm (aQ e8 hc);refine⟨e89,bK (),hC' _ _ ⟨(s8.trans s9).change hP,aB,⟨?_,λj y ps h1 h2=>?_⟩,λy hy=>?_⟩⟩
  .rw[List.length_append,length_take,length_map,length_drop];simp only[length_cons,length_nil];lia
  .have ee:((M.drop 1).map (List.drop 1))[i]?=some (M[1+i].drop 1):=by rw[getElem?_map,getElem?_drop,getElem?_eq_getElem hM1];rfl
   rw[take_add_one,ee] at h2
   by_cases hj:j < zs.length
   .rw[getElem?_append_left hj] at h1;rw[getElem?_append_left (by rw[<- fm.l];exact hj)] at h2;obtain⟨a',xs',q1,q2,q3,q4⟩:=fm.r j y ps h1 h2;have na:a'≠P:=λz=>nP y (mem_of_getElem? h1) (by rw[q1,z]);exact⟨a',xs',q1,q2,by rw[aX na];exact s9 _ _ q3,(q4.same s9).upd e89⟩
   .rw[getElem?_append_right ()] at h1;rw[getElem?_append_right (by rw[<- fm.l];lia),<- fm.l] at h2;have j0:j - zs.length=0:=by
     have:=(List.getElem?_eq_some_iff.mp h1).1;simp at this;lia
    rw[j0] at h1 h2;have h1:V.ref c=y:=by simpa using h1
    have h2:M[1+i].drop 1=ps:=by simpa using h2
    subst h1;rw[<- h2];exact⟨c,_,rfl,s8.free hc,by rw[aX ncP];exact e9,((Fqs.drop1 (fws.same s9))).upd e89⟩
  .rcases mem_append.mp hy with z | z
   .exact nP y z
   .have:y=.ref c:=by simpa using z
    rw[this];exact λz=>ncP (by injection z)
 rintro us H8 ⟨s8,e8,fm,nP⟩;rw[show ((as.map V.ref).drop 1).length=((M.drop 1).map (List.drop 1)).length by rw[length_drop,length_map,length_map,length_drop,mx.la],take_length] at fm;have s78:=s7.trans s8;have eR8:=s78 _ _ eR;refine⟨_,rfl,1,rfl,R,_,rfl,SqL.of eR8,λr hr'=>?_⟩;rw[Js];have s9:=aF hr' (.lst (ys.drop 1));have e9:upd H8 r (.lst (ys.drop 1)) r=some (.lst (ys.drop 1)):=aB;generalize upd H8 r (.lst (ys.drop 1))=H9 at s9 e9 ⊢;refine⟨zl9 2,λt ht=>?_⟩;have sT:=aF ht (.tup [.ref P,.ref r]);have s9T:=s9.trans sT;have s0:aV H (upd H9 t (.tup [.ref P,.ref r])):=s1.trans (s12.trans (s6.trans (s78.trans s9T)));have s07:aV H H7:=s1.trans (s12.trans (s6.trans s7));have fl:∀c,H7 c=none->H c=none:=λc h=>s07.free h;refine q t P r us (ys.drop 1) ((M.drop 1).map (List.drop 1)) (rs.drop 1) _ s0 aB (fl P hP) ((s07.trans s8).free hr') (s9T _ _ e8) (sT _ _ e9) ⟨fm.l,λi x ps h1 h2=>?_⟩ (Fqs.drop1 (FR.same (s78.trans s9T))) (λx hx=>⟨nP x hx,?_⟩) ⟨?_,?_,?_,?_⟩
 .obtain⟨a',xs',q1,q2,q3,q4⟩:=fm.r i x ps h1 h2;exact⟨a',xs',q1,fl a' q2,s9T _ _ q3,q4.same s9T⟩
 .intro z;obtain⟨i,hi⟩:=getElem?_of_mem hx;have il:i < ((M.drop 1).map (List.drop 1)).length:=by rw[<- fm.l];exact(List.getElem?_eq_some_iff.mp hi).1
  obtain⟨a',xs',q1,q2,q3,q4⟩:=fm.r i x _ hi (getElem?_eq_getElem il);rw[q1] at z;have:a'=r:=by injection z
  rw[<- this,q3] at hr'
  cases hr'
 .have:=Sq mb
  rwa [show W - 1=m - 1+bO ds by lia] at this
 .have:=Pj lb
  rwa [show W - 1=m - 1+bO ds by lia] at this
 .intro i j;rw[Nh];exact vM _ _
 .intro i;rw[wP];exact vR _
theorem Y46:DZ 2 Z.f46 Z.d46 ["some"] (Shp.Jk Z.K) "in_wholes":=by
 refine⟨?_,F46.b1 _ (by intros;rfl),F46.kp,m46⟩
 refine F46.ok9 Wn λ_ _ _ s H _ Q E hr h=>?_;obtain⟨a,xs,ps,n,rfl,hS,hF,hP,hB,h100,hn,q⟩:=h;refine⟨_,(aD (aS (i:=1) Wn.nd rfl (Or.inr rfl) aE)
  (aD (gA PassesOwn.never rfl (dM (pv 0)) (qQ1 (i:=2) Wn.nd)
   (aG (aS (i:=1) Wn.nd rfl (Or.inr rfl) (aY cW (aY jE (pv 1) (d9 Y2 hr rfl (aA (pv 1) (aA (aW aZ (pv 2) aE (λ_ _=>rfl)) aC)))) (aW aZ (pv 2) aE (λ_ _=>rfl))))))
  (aG (aT (cF (aA (fV (nl:=1) (fr:=[1]) (Nc:=["one","bottom"]) (cl:=[("bottom",s.heap.objs.size+1)]) rfl ⟨rfl,rfl,∅,∅,λx c h=>h,fI rfl,rfl,λi n h=>match i,h with | 0,h=>by cases h;exact⟨1,rfl,rfl,rfl,rfl,.inl rfl⟩ | k+1,h=>by rw[show 1+(k+1)=k+2 by lia] at h;cases h⟩
    (dM (pv 0)) (λ_ _ _ _ _=>(qQ1 (i:=0) yE)) (λ_ _ _ _ _=>fX)
    (λ_ _ _ _ _=>(aY cW (aW (uK (K:=Z.K) rfl) (pv 0) aE (λ_ _=>rfl)) (aY jE (pv 1) (aW (uK (K:=Z.K) rfl) (pv 0) aE (λ_ _=>rfl)))))) (aA (pv 1) aC))))))),?_⟩
 have lx:=hF.length;refine⟨_,rfl,a,rfl,⟨_,hS⟩,?_⟩;refine gU (xs:=xs) (λi σ H'=>H'=H/\i<=ps.length/\∃z,σ=[some (.ref a),some (.int (dA (ps.take i))),z]) ⟨rfl,Nat.zero_le _,none,rfl⟩ (λi σ H' _ h=>by rw[h.1];exact hS) ?_ ?_
 .rintro i x σ H' hx ⟨rfl,hi,z,rfl⟩;obtain⟨u,p,rfl,ep,fu⟩:=hF.get hx;have hi':i < ps.length:=(List.getElem?_eq_some_iff.mp ep).1;obtain⟨f1,f2,_⟩:=pL hP hB i hi;have mono:=Nat.mul_le_mul_left n hi;have hp:=hP p (mem_of_getElem? ep);have pb:=(hB p (mem_of_getElem? ep)).b;have g0:gc (dA (ps.take i)) p.2≠0:=by have:=Mq.xV (a:=dA (ps.take i)) (show p.2≠0 by lia);lia
  have gb:Mq.B n (gc (dA (ps.take i)) p.2):=by
   have:=Fu (t:=dA (ps.take i)) (show p.2≠0 by lia);rw[Vb ()] at this;exact pb.le this
  have qb:Mq.B (1+n*i) (Int.fdiv (dA (ps.take i)) (gc (dA (ps.take i)) p.2)):=by
   have d1:gc (dA (ps.take i)) p.2 ∣ dA (ps.take i):=by unfold gc;exact Int.gcd_dvd_left ..
   obtain⟨k,hk⟩:=d1;have:=Mq.iY g0 hk;rw[gD g0 hk];exact f2.le this
  refine⟨_,rfl,_,rfl,cX rfl fu ⟨_,_,rfl,gE g0 gb () (cX rfl fu (cU qb pb () () ?_))⟩⟩;refine⟨rfl,hi',some (.ref u),?_⟩;rw[Mq.nX ep];rfl
 rintro σ H' ⟨rfl,_,z,rfl⟩;rw[lx,take_length];obtain⟨f1,f2,f3⟩:=pL hP hB ps.length (Nat.le_refl _);rw[take_length] at f1 f2 f3;refine⟨_,rfl,a,rfl,⟨_,hS⟩,λD hD=>?_⟩;have sD:=aF hD (.lst []);refine fC (xs:=xs) (λi zs H1=>aV H' H1/\H1 D=some (.lst zs)/\zs=((ps.take i).map (Er (dA ps))).map V.int) ⟨sD,aB,rfl⟩ (λi zs H1 h=>h.2.1) (λi zs H1 _ h=>h.1.seq hS) ?_ ?_
 .rintro i zs x H1 hx ⟨s1,e1,rfl⟩ C hC;obtain⟨u,p,rfl,ep,fu⟩:=hF.get hx;have hi':i < ps.length:=(List.getElem?_eq_some_iff.mp ep).1;have mem:=mem_of_getElem? ep;have hp:=hP p mem;obtain⟨k,hk⟩:=f3 p mem;have fu1:=s1.fq fu;have kb:Mq.B (1+n*ps.length) (Int.fdiv (dA ps) p.2):=by
   have e:=gD (show p.2≠0 by lia) (show dA ps=p.2*k by rw[hk,Int.mul_comm]);rw[e];refine f2.le ?_;rw[hk,Int.natAbs_mul];exact Nat.le_mul_of_pos_right _ ()
  refine⟨fR.1,fR.2,gC ?_⟩;refine fB rfl fu1 ⟨_,rfl,cX rfl fu1 (gE (show p.2≠0 by lia) (hB p mem).b () (cU (hB p mem).a kb () () ?_))⟩;refine⟨e1,bK (by rw[length_map,length_map,length_take];lia),hC _ _ ⟨s1.change hD,aB,?_⟩⟩;rw[take_add_one,ep,map_append,map_append];rfl
 rintro zs H1 ⟨s1,e1,rfl⟩;rw[lx,take_length] at e1;refine⟨_,rfl,zl9 2,λt ht=>?_⟩;have s2:=aF ht (.tup [.ref D,.int (dA ps)]);exact q t D _ (s1.trans s2) hD (SqT.of aB) (s2 _ _ e1)
theorem Y47:DZ 1 Z.f47 Z.d47 ["rows","rank","column"] (Shp.Py Z.K) "pivot_place":=by
 refine⟨?_,F47.b3 _ _ _ (by intros;rfl),F47.kp,m47⟩
 refine F47.ok9 Za λ_ _ _ s H _ Q E hr h=>?_;obtain⟨l,D,zs,R,r,c,m,w',rfl,hS,hI,hm,hw,hc,hr',h100,q1,q2⟩:=h;refine⟨_,(aD (gA PassesOwn.never rfl (zC rfl n_range (aA (pv 1) (aA (bL bQ rfl n_len PySem.boot_len (aA (pv 0) aC)) aC))) (qQ1 (i:=3) Za.nd)
   (aG (cC (bA qK (aW cA (aW cA (pv 0) (pv 3) (λ_ _=>rfl)) (pv 2) (λ_ _=>rfl)) aE (bC _)) (aG (aT (pv 3))) bF)))
  (aG (aT xT))),?_⟩
 have lz:=hI.length;obtain⟨k,hk⟩:∃k,m=r+k:=⟨m - r,()⟩
 refine⟨_,rfl,_,rfl,l,zs,rfl,.inl hS,(r:Int),(zs.length:Int),rfl,⟨(),(),(),()⟩,?_⟩;rw[show ((zs.length:Int) - (r:Int)).toNat=k by lia];refine kE (lo:=(r:Int)) (n:=k) (λi σ H'=>H'=H/\(∀j,r<=j->j < r+i->ent R j c=0)/\∃z,σ=[some (.ref l),some (.int (r:Int)),some (.int (c:Int)),z]) ⟨rfl,λj h1 h2=>absurd h1 (),none,rfl⟩ ?_ ?_
 .rintro i σ H' hi ⟨rfl,hz,z,rfl⟩;obtain⟨u,eu,nu,hu⟩:=hI.at (i:=r+i) ();have eu':atI zs ((r:Int)+(i:Int))=some (.ref u):=by have:=cO eu;rwa [Int.natCast_add] at this
  have ec:=cO (jP (l:=R.getD (r+i) []) (i:=c) (by rw[hw _ ()];exact hc));refine⟨_,rfl,_,rfl,l,zs,_,_,rfl,rfl,hS,eu',_,rfl,u,_,_,_,rfl,rfl,SqL.of hu,ec,rfl,_,rfl,pC (λe=>?_) (λe=>?_)⟩
  .refine⟨_,rfl,?_⟩;have ne:ent R (r+i) c≠0:=λz=>by
    have z':(R.getD (r+i) []).getD c 0=0:=z;rw[z'] at e;simp at e
   have:=q1 (r+i) () () ne
   rwa [Int.natCast_add] at this
  .refine⟨rfl,λj h1 h2=>?_,_,rfl⟩
   by_cases hj:j=r+i
   .rw[hj];simp at e;exact e
   .exact hz j h1 ()
 .rintro σ H' ⟨rfl,hz,z,rfl⟩;exact q2 λi h1 h2=>hz i h1 ()
theorem Y48:DZ 1 Z.f48 Z.d48 ["row","upper","column","divisor"] (Shp.rZ Z.K) "cleared":=by
 refine⟨?_,F48.b4 _ _ _ _ (by intros;rfl),F48.kp,m48⟩
 refine F48.ok9 Rl λ_ _ _ s H _ Q E hr h=>?_;obtain⟨u,v,row,upper,c,n,dv,rfl,hu,hv,hl,h100,hc,hd,b1,b2,bd,hn,q⟩:=h;refine⟨_,(aD (aS (i:=4) Rl.nd rfl (Or.inr rfl) (aW cA (pv 1) (pv 2) (λ_ _=>rfl)))
  (aD (aS (i:=5) Rl.nd rfl (Or.inr rfl) (aW cA (pv 0) (pv 2) (λ_ _=>rfl)))
  (aG (aT (fV (nl:=2) (fr:=[4,5,3]) (Nc:=["here","above","own","other","divisor"]) (cl:=[("own",s.heap.objs.size+2),("other",s.heap.objs.size+3),("divisor",s.heap.objs.size+1)]) (g:=(Fi Z.K 2 (kA (jJ 0) (kA (jJ 1) Hd)))) rfl ⟨rfl,rfl,∅,∅,(dX rfl (dX rfl (dX rfl (oE)))),fI rfl,rfl,λi n h=>match i,h with | 0,h=>by cases h;exact⟨4,rfl,rfl,rfl,rfl,.inl rfl⟩ | 1,h=>by cases h;exact⟨5,rfl,rfl,rfl,rfl,.inl rfl⟩ | 2,h=>by cases h;exact⟨3,rfl,rfl,rfl,rfl,.inl rfl⟩ | k+3,h=>by rw[show 2+(k+3)=k+5 by lia] at h;cases h⟩
    (Ig rfl n_zip rfl (aA (pv 0) (aA (pv 1) aC))) (λ_ _ _ _ _=>(kP rfl (dC (qQ1 (i:=0) eV) (dC (qQ1 (i:=1) eV) iO)))) (λ_ _ _ _ _=>fX)
    (λ_ _ _ _ _=>(aY jE (aY iW (aY cW (pv 2) (pv 0)) (aY cW (pv 3) (pv 1))) (pv 4)))))))),?_⟩
 have e1:=cO (jP (l:=upper) (i:=c) ());have e2:=cO (jP (l:=row) (i:=c) ());refine⟨_,rfl,_,rfl,v,_,_,_,rfl,rfl,hv,e1,?_⟩;refine⟨_,rfl,_,rfl,u,_,_,_,rfl,rfl,hu,e2,?_⟩;refine⟨_,rfl,_,rfl,u,v,rfl,⟨_,hu⟩,⟨_,hv⟩,λD hD=>?_⟩;have sD:=aF hD (.lst []);refine vU (xs:=row.map V.int) (ys:=upper.map V.int) (λi zs H'=>aV H H'/\H' D=some (.lst zs)/\zs=((gV upper row c dv).take i).map V.int) ⟨sD,aB,rfl⟩ (λi zs H' h=>h.2.1) (λi zs H' _ h=>⟨h.1.seq hu,h.1.seq hv⟩) ?_ ?_
 .rintro i zs x y H1 T1 ex ey ⟨s1,e1',rfl⟩ hT C hC;have hi:i < row.length:=by have:=(List.getElem?_eq_some_iff.mp ex).1;simpa using this
  have ex':x=.int (row.getD i 0):=by rw[jP hi] at ex;cases ex;rfl
  have ey':y=.int (upper.getD i 0):=by rw[jP ()] at ey;cases ey;rfl
  subst ex' ey';have sT:=aF hT (.tup [.int (row.getD i 0),.int (upper.getD i 0)]);refine⟨T1,_,rfl,SqT.of aB,rfl,_,_,rfl,_,_,rfl,rfl,lC.1,lC.2,gC ?_⟩;have mm:Mq.B (n+n+1) (upper.getD c 0*row.getD i 0 - row.getD c 0*upper.getD i 0):=Mq.B.sub ((b2 c).mul (b1 i)) ((b1 c).mul (b2 i));refine⟨_,rfl,_,rfl,cU (b2 c) (b1 i) () () ⟨_,rfl,_,rfl,cU (b1 c) (b2 i) () () ⟨_,_,rfl,rfl,_,rfl,gE hd bd () ?_⟩⟩⟩;have ll:(gV upper row c dv).length=row.length:=by unfold gV;rw[length_zipWith];lia
  have eA:=sT _ _ e1';refine⟨eA,bK (by rw[length_map,length_take];lia),hC _ _ ⟨(s1.trans sT).change hD,aB,?_⟩⟩;have eg:(gV upper row c dv)[i]?=some (Int.fdiv (upper.getD c 0*row.getD i 0 - row.getD c 0*upper.getD i 0) dv):=by
   unfold gV;rw[getElem?_zipWith,iS hi,iS (show i < upper.length by lia)]
  rw[take_add_one,eg,map_append];rfl
 rintro zs H1 ⟨s1,e1',rfl⟩;have ll:(gV upper row c dv).length=row.length:=by unfold gV;rw[length_zipWith];lia
 rw[length_map,length_map,take_of_length_le (by rw[ll];lia)] at e1';exact q D H1 s1 hD e1'
theorem Y49:DZ 2 Z.f49 Z.d49 ["rows","rank","column","divisor"] (Shp.rG Z.K) "cleared_rows":=by
 refine⟨?_,F49.b4 _ _ _ _ (by intros;rfl),F49.kp,m49⟩
 refine F49.ok9 yS λ_ _ _ s H _ Q E hr h=>?_;obtain⟨l,D0,zs,R,r,c,m,w',n,dv,rfl,hS,hI,hm,hw,hc,hw100,hr',h100,hd,hB,bd,hn,q⟩:=h;refine⟨_,(aD (aS (i:=4) yS.nd rfl (Or.inr rfl) (aW cA (pv 0) (pv 1) (λ_ _=>rfl)))
  (aG (aT (fV (nl:=2) (fr:=[4,1,3,2]) (Nc:=["place","row","upper","rank","divisor","column"]) (cl:=[("upper",s.heap.objs.size+4),("rank",s.heap.objs.size+1),("divisor",s.heap.objs.size+3),("column",s.heap.objs.size+2)]) (g:=(Fi Z.K 2 (kA (jJ 0) (kA (jJ 1) Hd)))) rfl ⟨rfl,rfl,∅,∅,(dX rfl (dX rfl (dX rfl (dX rfl (oE))))),fI rfl,rfl,λi n h=>match i,h with | 0,h=>by cases h;exact⟨4,rfl,rfl,rfl,rfl,.inl rfl⟩ | 1,h=>by cases h;exact⟨1,rfl,rfl,rfl,rfl,.inl rfl⟩ | 2,h=>by cases h;exact⟨3,rfl,rfl,rfl,rfl,.inl rfl⟩ | 3,h=>by cases h;exact⟨2,rfl,rfl,rfl,rfl,.inl rfl⟩ | k+4,h=>by rw[show 2+(k+4)=k+6 by lia] at h;cases h⟩
    (uU rfl n_enumerate rfl (aA (pv 0) aC)) (λ_ _ _ _ _=>(kP rfl (dC (qQ1 (i:=0) dH) (dC (qQ1 (i:=1) dH) iO)))) (λ_ _ _ _ _=>fX)
    (λ_ _ _ _ _=>(qJ (bA eQ (pv 0) (pv 3) (bC _)) (pv 1) (d9 Y48 hr rfl (aA (pv 1) (aA (pv 2) (aA (pv 5) (aA (pv 4) aC))))))))))),?_⟩
 have lz:=hI.length;obtain⟨v,ev,nv,hv⟩:=hI.at (i:=r) ();refine⟨_,rfl,_,rfl,l,zs,_,_,rfl,rfl,hS,cO ev,?_⟩;refine⟨_,rfl,l,rfl,⟨_,hS⟩,λD hD=>?_⟩;have sD:=aF hD (.lst []);have ll:=Mq.Kn R r c dv;refine yU (xs:=zs) (λi ys H'=>aV H H'/\H' D=some (.lst ys)/\Imx D H' ys ((cN R r c dv).take i)) ⟨sD,aB,.nil⟩ (λi ys H' h=>h.2.1) (λi ys H' _ h=>h.1.seq hS) ?_ ?_
 .rintro i ys x H1 T1 ex ⟨s1,e1,I1⟩ hT C hC;have hi:i < m:=by have:=(List.getElem?_eq_some_iff.mp ex).1;lia
  obtain⟨u,eu,nu,hu⟩:=hI.at (i:=i) ();have exu:x=.ref u:=by rw[eu] at ex;cases ex;rfl
  subst exu;have lI:=I1.length;rw[length_take] at lI;have cg:=qT (R:=R) (i:=i) () r c dv;have cs:(cN R r c dv).take (i+1)=(cN R r c dv).take i++[(cN R r c dv).getD i []]:=by
   rw[take_add_one,getD_eq_getElem?_getD,getElem?_eq_getElem (show i < (cN R r c dv).length by lia)];rfl
  have sT:=aF hT (.tup [.int (i:Int),.ref u]);have uD:∀{x:Addr} {o:HO},H x=some o->x≠D:=λh z=>by rw[z,hD] at h;cases h
  refine⟨T1,_,rfl,SqT.of aB,rfl,_,_,rfl,_,_,rfl,rfl,lC.1,lC.2,gC ?_⟩;generalize upd H1 T1 (.tup [.int (i:Int),.ref u])=H2 at sT ⊢;have sA:=s1.trans sT;have eA:=sT _ _ e1;refine⟨_,rfl,_,rfl,rfl,_,rfl,pC (λe=>?_) (λe=>?_)⟩
  .have ei:i=r:=by simp at e;lia
   refine⟨_,rfl,eA,bK (),hC _ _ ⟨sA.change hD,aB,?_⟩⟩;rw[cs,cg,if_pos ei];exact((I1.same sT).app (.cons (uD hu) (sA _ _ hu) .nil)).upd
  .have ei:i≠r:=by simp at e;lia
   refine⟨_,rfl,_,rfl,_,rfl,_,rfl,u,v,R.getD i [],R.getD r [],c,n,dv,rfl,SqL.of (sA _ _ hu),SqL.of (sA _ _ hv),by rw[hw i hi,hw r hr'],by rw[hw i hi];exact hw100,by rw[hw i hi];exact hc,hd,λj=>hB i j,λj=>hB r j,bd,hn,λl3 H3 s3 n3 e3=>?_⟩;have eB:=s3 _ _ eA;have n3':l3≠D:=λz=>by rw[z,eA] at n3;cases n3
   refine⟨eB,bK (),hC _ _ ⟨(sA.trans s3).change hD,aB,?_⟩⟩;rw[cs,cg,if_neg ei];exact((I1.same (sT.trans s3)).app (.cons n3' e3 .nil)).upd
 rintro ys H1 ⟨s1,e1,I1⟩;rw[lz,take_of_length_le ()] at I1;exact q D ys H1 s1 hD e1 I1
theorem Y50:DZ 3 Z.f50 Z.d50 ["rows","width"] (Shp.uT Z.K) "eliminated":=by
 refine⟨?_,F50.b2 _ _ (by intros;rfl),F50.kp,m50⟩
 refine F50.ok9 iL λ_ _ _ s H _ Q E hr h=>?_;obtain⟨l,D0,zs,R,m,w',n,Pr,rfl,hS,hI,hm,hw,hmw,hw100,hB,hn1,hn,hm31,hPr,hSt,q⟩:=h;have r1:=hr.mono (show 1<=2 by lia);refine⟨_,(aD (qQ0 (i:=0) iL.nd (iQ gF rfl n_list PyProof.Rows.boot_list (aA (pv 0) aC)))
  (aD (qQ0 (i:=2) iL.nd aE)
  (aD (qQ0 (i:=3) iL.nd aE)
  (aD (qQ0 (i:=4) iL.nd aE)
  (aD (gA PassesOwn.never rfl (jX rfl n_range (aA (pv 1) aC)) (qQ1 (i:=5) iL.nd)
   (aD (qQ0 (i:=6) iL.nd (d9 Y47 r1 rfl (aA (pv 0) (aA (pv 2) (aA (pv 5) aC)))))
  (aD (cC (wT (Iy (pv 6))) (aG Db) bF)
  (aD (cC (bA qK (pv 6) (pv 2) (bC _)) (aD (qQ0 (i:=7) iL.nd (aW cA (pv 0) (pv 6) (λ_ _=>rfl)))
  (aD (mH (aW cA (pv 0) (pv 2) (λ_ _=>rfl)) (pD (pv 0) (pv 6) iZ))
  (aD (mH (pv 7) (pD (pv 0) (pv 2) iZ))
  (aG (qQ0 (i:=4) iL.nd (Eu wR (pv 4))))))) bF)
  (aD (qQ0 (i:=0) iL.nd (d9 Y49 hr rfl (aA (pv 0) (aA (pv 2) (aA (pv 5) (aA (pv 3) aC))))))
  (aD (qQ0 (i:=3) iL.nd (aW cA (aW cA (pv 0) (pv 2) (λ_ _=>rfl)) (pv 5) (λ_ _=>rfl)))
  (aG (Ib (i:=2) iL.nd rfl (Or.inl rfl) aE Iq))))))))
  (aG (aT (Jb (mI bV (pv 0) (mI bV (pv 2) (mI bV (pv 3) (mI bV (pv 4) Lg)))) rfl rfl ⋯ ∅)))))))),?_⟩
 refine⟨_,rfl,l,zs,rfl,.inl hS,λl0 hl0=>?_⟩;have s0:=aF hl0 (.lst zs);have e0:upd H l0 (.lst zs) l0=some (.lst zs):=aB;generalize upd H l0 (.lst zs)=H0 at s0 e0 ⊢;refine⟨_,rfl,(m:Int),rfl,(),(),?_⟩;rw[Int.toNat_natCast];have b1:Mq.B n 1:=by
  show 1 < 2 ^ n;exact Nat.one_lt_two_pow ()
 refine kE (lo:=0) (n:=m) (λi σ H'=>aV H H'/\∃(lR:Addr) (zs':List V) (R':List (List Int)) (rank:Nat) (pivot sign:Int) (z5 z6 z7:Option V),σ=[some (.ref lR),some (.int (m:Int)),some (.int (rank:Int)),some (.int pivot),some (.int sign),z5,z6,z7]/\H lR=none/\H' lR=some (.lst zs')/\Imx lR H' zs' R'/\SI m w' (Mq.at2 R) R' rank i pivot sign/\Mq.SB n m R' rank i pivot/\Pr R') ⟨s0,l0,zs,R,0,1,1,none,none,none,rfl,hl0,e0,(hI.other hl0).same s0,.start hm hw,.start hB,hPr⟩ ?_ ?_
 .rintro i σ H1 hi ⟨s1,lR,zs',R',rank,pivot,sign,z5,z6,z7,rfl,nR,eR,I1,S1,sb,p1⟩;rw[Int.zero_add];obtain⟨bR,bP⟩:=sb.bd5 S1 hm31;obtain⟨A1,c1,B1,_⟩:=S1.bar;have rm:=B1.rm;have rc:=B1.rc;have dn:pivot≠0:=λz=>B1.dne (by rw[z];simp);clear B1;refine⟨_,rfl,_,rfl,_,rfl,lR,lR,zs',R',rank,i,m,w',rfl,SqL.of eR,I1,S1.len,S1.wid,(),rm,(),λp h1 h2 ne=>?_,λhz=>?_⟩
  .refine⟨_,rfl,_,rfl,gH ?_⟩;have hrm:rank < m:=by lia
   refine(λ(hrest:∀(sg:Int) (z:Option V) (Hx:Hp) (zs2:List V) (R2:List (List Int)),aV H Hx->Hx lR=some (.lst zs2)->Imx lR Hx zs2 R2->SI m w' (Mq.at2 R) R2 rank i pivot sg->ent R2 rank i≠0->Mq.SB n m R2 rank i pivot->Pr R2->W.KIN.Hid ((?T:Int->Option V->Hp->Prop) sg z Hx))=>?main) ?rest
   case main=>
    refine⟨_,rfl,_,rfl,rfl,_,rfl,pC (λe=>?c1) (λe=>?c2)⟩
    case c1=>
     have npr:p≠rank:=by simp at e;lia
     obtain⟨up,eup,nup,hup⟩:=I1.at (i:=p) (by rw[S1.len];lia);obtain⟨ur,eur,nur,hur⟩:=I1.at (i:=rank) (by rw[S1.len];lia);have lz:zs'.length=m:=I1.length.trans S1.len;refine⟨_,rfl,_,rfl,lR,zs',_,_,rfl,rfl,SqL.of eR,cO eup,?_⟩;refine⟨_,rfl,_,rfl,lR,zs',_,_,rfl,rfl,SqL.of eR,cO eur,_,rfl,_,rfl,lR,zs',_,p,rfl,rfl,eR,kW (),?_⟩;have e2:upd H1 lR (.lst (zs'.set p (.ref ur))) lR=some (.lst (zs'.set p (.ref ur))):=aB;have I2:=(Imx.set nur hur p I1).upd (o:=.lst (zs'.set p (.ref ur)));have s2:aV H (upd H1 lR (.lst (zs'.set p (.ref ur)))):=s1.change nR;have hup2:upd H1 lR (.lst (zs'.set p (.ref ur))) up=some (.lst ((R'.getD p []).map V.int)):=by rw[aX nup];exact hup
     generalize upd H1 lR (.lst (zs'.set p (.ref ur)))=H2 at e2 I2 s2 hup2 ⊢;refine⟨_,rfl,_,rfl,_,rfl,lR,_,_,rank,rfl,rfl,e2,kW (by rw[length_set];lia),?_⟩;have e3:upd H2 lR (.lst ((zs'.set p (.ref ur)).set rank (.ref up))) lR=some (.lst ((zs'.set p (.ref ur)).set rank (.ref up))):=aB;have I3:=(Imx.set nup hup2 rank I2).upd (o:=.lst ((zs'.set p (.ref ur)).set rank (.ref up)));have s3:aV H (upd H2 lR (.lst ((zs'.set p (.ref ur)).set rank (.ref up)))):=s2.change nR;generalize upd H2 lR (.lst ((zs'.set p (.ref ur)).set rank (.ref up)))=H3 at e3 I3 s3 ⊢;refine⟨_,rfl,_,rfl,?_⟩;show jL _ _ _ [some (.ref lR),some (.int (m:Int)),some (.int (rank:Int)),some (.int pivot),some (.int (-sign)),some (.int (i:Int)),some (.int (p:Int)),some (.ref up)] H3;have S3:=S1.swap (p:=p) () h2;have bR3:=sb.swap S1 (p:=p) () h2;have ne3:ent (fQ R' p rank) rank i≠0:=by
      unfold ent;rw[Cm (by rw[S1.len];lia) (by rw[S1.len];lia)];have:Mq.sw p rank rank=p:=by unfold Mq.sw;rw[if_pos rfl]
      rw[this];exact ne
     have I3':Imx lR H3 ((zs'.set p (.ref ur)).set rank (.ref up)) (fQ R' p rank):=I3;clear I3 hup2;have p3:=hSt.sw _ _ _ _ _ _ S1 (show rank < p by lia) h2 p1;generalize -sign=sg at S3 ⊢;generalize some (V.ref up)=zz at ⊢;exact(hrest sg zz H3 _ _ s3 e3 I3' S3 ne3 bR3 p3).out
    case c2=>
     have epr:p=rank:=by simp at e;lia
     show jL _ _ _ [some (.ref lR),some (.int (m:Int)),some (.int (rank:Int)),some (.int pivot),some (.int sign),some (.int (i:Int)),some (.int (p:Int)),z7] H1;exact(hrest sign z7 H1 _ _ s1 eR I1 S1 (by rw[<- epr];exact ne) sb p1).out
   case rest=>
   intro sg z Hx zs2 R2 sx ex Ix Sx nx bx px;refine⟨?_⟩;have bxx:=bx.bd5 Sx hm31;refine⟨_,rfl,_,rfl,_,rfl,_,rfl,lR,lR,zs2,R2,rank,i,m,w',bw n m,pivot,rfl,SqL.of ex,Ix,Sx.len,Sx.wid,(),hw100,hrm,(),dn,bxx.1,bxx.2,hn,λl3 zs3 H3 s3 n3 e3 I3=>?_⟩;have S3:=Sx.clear hrm () nx;have b3:=bx.clear Sx hrm () nx;obtain⟨u,eu,nu,hu⟩:=I3.at (i:=rank) (by rw[S3.len];lia);have ec:=cO (jP (l:=(cN R2 rank i pivot).getD rank []) (i:=i) (by rw[S3.wid _ hrm];lia));refine⟨_,rfl,_,rfl,l3,zs3,_,_,rfl,rfl,SqL.of e3,cO eu,_,rfl,u,_,_,_,rfl,rfl,SqL.of hu,ec,?_⟩;refine⟨_,rfl,_,_,rfl,rfl,?_⟩;have ev:((cN R2 rank i pivot).getD rank []).getD i 0=ent R2 rank i:=by rw[qT (by rw[Sx.len];lia),if_pos rfl];rfl
   refine⟨sx.trans s3,l3,zs3,_,rank+1,ent R2 rank i,sg,some (.int (i:Int)),some (.int (p:Int)),z,?_,sx.free n3,e3,I3,S3,b3,hSt.cl _ _ _ _ _ Sx hrm () nx px⟩;rw[ev];rfl
  .refine⟨_,rfl,_,rfl,gC ?_⟩;exact⟨s1,lR,zs',R',rank,pivot,sign,_,_,_,rfl,nR,eR,I1,S1.skip hz,sb.skip hz,p1⟩
 .rintro σ H1 ⟨s1,lR,zs',R',rank,pivot,sign,z5,z6,z7,rfl,nR,eR,I1,S1,sb,p1⟩;obtain⟨bR,bP⟩:=sb.bd5 S1 hm31;obtain⟨A1,c1,B1,_⟩:=S1.bar;have rm:=B1.rm;intro d hd;have nd:lR≠d:=λz=>by rw[z,hd] at eR;cases eR
  refine⟨_,rfl,_,rfl,_,rfl,_,rfl,aB,[(.inr "rows",.ref lR),(.inr "rank",.int (rank:Int)),(.inr "pivot",.int pivot),(.inr "sign",.int sign)],rfl,by show 4<=15;decide,?_⟩;have sd:aV H1 (upd (upd H1 d (.dK [])) d (Oq lR rank pivot sign)):=(aF hd _).change hd;exact q d lR zs' R' rank pivot sign _ (s1.trans sd) (s1.free hd) nR aB (sd _ _ eR) (I1.same sd) S1 bR bP p1
theorem Y51:DZ 5 Z.f51 Z.d51 ["matrix","right"] (Shp.nV Z.K) "solved":=by
 refine⟨?_,F51.b2 _ _ (by intros;rfl),F51.kp,m51⟩
 refine F51.ok9 pP λcdv A outer s H vs Q E hr h=>?_;obtain⟨g,bR,D0,H00,us,bs,X,qs,k,n,rfl,hU,hX,hB,hQ,ql,qL,qB,xP,xB,x4,hk,hBd,hn1,hnb,hz0,q⟩:=h;have hu:=zH hr;have r3:=hr.mono (show 3<=4 by lia);have r2:=hr.mono (show 2<=4 by lia);refine⟨_,(aD (aS (i:=2) pP.nd rfl (Or.inr rfl) (bL bQ rfl n_len PySem.boot_len (aA (pv 0) aC)))
  (aD (uV (i:=3) (nl:=2) (fr:=[]) (Nc:=["row","side"]) (cl:=[]) (g:=(Fi Z.K 2 (kA (jJ 0) (kA (jJ 1) Hd)))) pP.nd rfl rfl rfl ⟨rfl,rfl,∅,∅,λx c h=>(by cases h),fI rfl,rfl,λi n h=>(by simp at h)⟩
    (Ig rfl n_zip rfl (aA (pv 0) (aA (pv 1) aC))) (λ_ _ _ _ _=>(kP rfl (dC (qQ1 (i:=0) tK) (dC (qQ1 (i:=1) tK) iO)))) (λ_ _ _ _ _=>fX)
    (λ_ _ _ _ _=>(aW (uK (K:=Z.K) rfl) (d9 Y46 r2 rfl (aA (aY jF (pv 0) (cD (aA (pv 1) aC))) aC)) aE (λ_ _=>rfl))) rfl)
  (aD (aS (i:=4) pP.nd rfl (Or.inr rfl) (d9 Y50 r3 rfl (aA (pv 3) (aA (pv 2) aC))))
  (aD (cC (bA xW (kU hu (pv 4) bV (λ_ _=>rfl)) (pv 2) (bC _)) (aG gW) bF)
  (aG (aT (fV (nl:=1) (fr:=[2,4]) (Nc:=["row","many","end"]) (cl:=[("many",s.heap.objs.size+1),("end",s.heap.objs.size+2)]) rfl ⟨rfl,rfl,∅,∅,(dX rfl (dX rfl (oE))),fI rfl,rfl,λi n h=>match i,h with | 0,h=>by cases h;exact⟨2,rfl,rfl,rfl,rfl,.inl rfl⟩ | 1,h=>by cases h;exact⟨4,rfl,rfl,rfl,rfl,.inl rfl⟩ | k+2,h=>by rw[show 1+(k+2)=k+3 by lia] at h;cases h⟩
    (dM (kU hu (pv 4) bV (λ_ _=>rfl))) (λ_ _ _ _ _=>(qQ1 (i:=0) lB)) (λ_ _ _ _ _=>fX)
    (λ_ _ _ _ _=>(d9 Y4 r2 rfl (aA (aW (Fc (K:=Z.K) rfl) (pv 0) (pv 1) (λ_ _=>rfl)) (aA (kU hu (pv 2) bV (λ_ _=>rfl)) aC))))))))))),?_⟩
 have lu:=hX.length;have lb:=hQ.length;have hw:∀row∈X,row.length=X.length:=λrow h=>(xB row h).2;have qP:=qL.pos;have lA:=Ey ql;refine⟨_,rfl,g,us,rfl,.inl hU,?_⟩;refine⟨_,rfl,_,rfl,g,bR,rfl,⟨_,hU⟩,⟨_,hB⟩,λD hD=>?_⟩;have sD:=aF hD (.lst []);refine vU (xs:=us) (ys:=bs) (λi zs H'=>aV H H'/\H' D=some (.lst zs)/\Imx D H' zs ((iJ X qs).take i)) ⟨sD,aB,.nil⟩ (λi zs H' h=>h.2.1) (λi zs H' _ h=>⟨h.1.seq hU,h.1.seq hB⟩) ?_ ?_
 .rintro i zs x y H1 T1 ex ey ⟨s1,e1,I1⟩ hT C hC;obtain⟨u,ys,row,rfl,er,_,_,hu',fu⟩:=hX.get ex;obtain⟨v,qv,rfl,eq,fv⟩:=hQ.get ey;have hi:i < X.length:=(List.getElem?_eq_some_iff.mp er).1;have mem:=mem_of_getElem? er;have memq:=mem_of_getElem? eq;obtain⟨rb,rl⟩:=xB row mem;have lys:=fu.length;have sT:=aF hT (.tup [.ref u,.ref v]);refine⟨T1,_,rfl,SqT.of aB,rfl,_,_,rfl,_,_,rfl,rfl,lC.1,lC.2,gC ?_⟩;generalize upd H1 T1 (.tup [.ref u,.ref v])=H2 at sT ⊢;have s2:=s1.trans sT;refine⟨_,rfl,_,rfl,zl9 1,λlo hlo=>?_⟩;have s3:=aF hlo (.lst [.ref v]);have e3:upd H2 lo (.lst [.ref v]) lo=some (.lst [.ref v]):=aB;generalize upd H2 lo (.lst [.ref v])=H3 at s3 e3 ⊢;have s03:=s2.trans s3;refine⟨u,lo,_,_,rfl,rfl,s03 _ _ hu',e3,Nat.le_of_lt (bK (by simp only[length_cons,length_nil];lia)),λp hp=>?_⟩;have s4:=aF hp (.lst (ys++[.ref v]));have e4:upd H3 p (.lst (ys++[.ref v])) p=some (.lst (ys++[.ref v])):=aB;generalize upd H3 p (.lst (ys++[.ref v]))=H4 at s4 e4 ⊢;have s04:=s03.trans s4;have s14:=sT.trans (s3.trans s4);refine⟨p,_,row++[qv],k,rfl,SqL.of e4,(fu.same s04).app (.cons (s04.fq fv) .nil),λz hz=>?_,λz hz=>?_,by rw[List.length_append];simp only[length_cons,length_nil];lia,by rw[List.length_append,rl];simp only[length_cons,length_nil];rw[show X.length+(0+1)=X.length+1 by lia];lia,λt l H5 s5 nl ht hl=>?_⟩
  .rcases mem_append.mp hz with z1 | z1
   .exact xP row mem z z1
   .have:z=qv:=by simpa using z1
    rw[this];exact qP qv memq
  .rcases mem_append.mp hz with z1 | z1
   .exact rb z z1
   .have:z=qv:=by simpa using z1
    rw[this];exact qB qv memq
  have s15:=s14.trans s5;have e5:=s15 _ _ e1;have ne:l≠D:=λz=>by rw[z,s14 _ _ e1] at nl;cases nl
  have lz:=I1.length;rw[length_take,lA] at lz;refine⟨t,_,_,_,rfl,rfl,ht,rfl,e5,bK (),hC _ _ ⟨(s1.trans s15).change hD,aB,?_⟩⟩;have ee:(iJ X qs).take (i+1)=(iJ X qs).take i++[iw (row++[qv])]:=by
   rw[take_add_one];unfold iJ lZ;rw[getElem?_map,getElem?_zipWith,er,eq];rfl
  rw[ee];exact((I1.same s15).app (.cons ne hl .nil)).upd
 rintro zs H1 ⟨s1,e1,I1⟩;rw[show min us.length bs.length=(iJ X qs).length by lia,take_length] at I1;have bits4:bw n X.length<=9000:=Nat.le_trans hnb ∅;have wA:∀i,i < X.length->((iJ X qs).getD i []).length=X.length+1:=λi hi=>by
  rw[yA ql hi,kN,List.length_append,hw _ (mem_of_getElem? (tV hi))];rfl
 refine⟨_,rfl,_,rfl,D,D,zs,iJ X qs,X.length,X.length+1,n,λR=>Mq.KI X.length (Mq.at2 (iJ X qs)) R/\Mq.KJ X.length (Mq.at2 (iJ X qs)) R,by rw[lu];rfl,SqL.of e1,I1,lA,wA,(),(),hBd,hn1,(),(),⟨λΦ _ hz=>hz,λΦ _ hz=>hz⟩,Ub,λd lE zE R' rank pivot sign H2 s2 nd nlE ed el IE SE bE bp LE=>?_⟩;obtain⟨g1',g2',g3',g4'⟩:=pZ ed;have s02:=s1.trans s2;have wr:=Qa xP qP ql hw SE;refine⟨_,rfl,d,_,rfl,g2',_,rfl,_,_,rfl,rfl,_,rfl,pC (λe=>?_) (λe=>?_)⟩
 .-- lame
  have hr':rank < X.length:=by simp at e;lia
  have hz:wgt X=0:=by
   rcases wr with z | z
   .exact z.2
   .lia
  exact absurd hz hz0
 .-- whole
  have hr':rank=X.length:=by
   rcases wr with z | z
   .simp at e;lia
   .exact z.1
  have hz:wgt X≠0:=by
   rcases wr with z | z
   .lia
   .exact z.2
  subst hr';have dn:=SE.dne;have pn:pivot≠0:=λz=>dn (by rw[z];simp);have lzE:=IE.length;rw[SE.len] at lzE;refine⟨_,rfl,d,_,rfl,g1',lE,rfl,⟨_,SqL.of el⟩,λD2 hD2=>?_⟩;have sD2:=aF hD2 (.lst []);refine fC (xs:=zE) (λi ws H'=>aV H2 H'/\H' D2=some (.lst ws)/\Fqs Z.K H' ws ((List.range i).map λi=>red (ent R' i X.length) pivot)) ⟨sD2,aB,.nil⟩ (λi ws H' h=>h.2.1) (λi ws H' _ h=>h.1.seq (SqL.of el)) ?_ ?_
  .rintro i ws x H3 hx ⟨s3,e3,F3⟩ C hC;have hi:i < X.length:=by have:=(List.getElem?_eq_some_iff.mp hx).1;lia
   obtain⟨u,eu,nu,hu2⟩:=IE.at (i:=i) (by rw[SE.len];exact hi);have exu:x=.ref u:=by rw[eu] at hx;cases hx;rfl
   subst exu;have wid:=SE.wid i hi;have lz:=F3.length;rw[length_map,length_range] at lz;have ea:=cO (jP (l:=R'.getD i []) (i:=X.length) ());rw[<- lu] at ea;refine⟨fR.1,fR.2,gC ?_⟩;refine⟨_,rfl,_,rfl,u,_,_,_,rfl,rfl,SqL.of (s3 _ _ hu2),ea,?_⟩;rw[lu];refine⟨_,rfl,d,_,rfl,pZ (s3 _ _ ed) |>.2.2.1,_,_,bw n X.length,rfl,pn,bp,bits4,λr H4 s4 e4=>?_⟩;have eD:=s4 _ _ e3;refine⟨eD,bK (),hC _ _ ⟨(s3.trans s4).change hD2,aB,?_⟩⟩;rw[range_succ,map_append];exact((F3.same s4).app (.cons (Fq.of e4) .nil)).upd eD
  rintro ws H3 ⟨s3,e3,F3⟩;rw[lzE] at F3;have gd:∀j,j < X.length->((List.range X.length).map λi=>red (ent R' i X.length) pivot).getD j Mq.z0=red (ent R' j X.length) pivot:=λj hj=>by
   rw[getD_eq_getElem?_getD,getElem?_map,getElem?_range hj];rfl
  refine q D2 ws _ H3 (s02.trans s3) (s02.free hD2) e3 F3 ⟨⟨⋯,λp hp=>?_,λp hp=>?_,λi hi=>?_⟩,λv hv j hj=>?_⟩ (Wf pn bp λp hp=>by obtain⟨i,hi,rfl⟩:=mem_map.mp hp;exact⟨_,bE i X.length,rfl⟩)
  .obtain⟨i,_,rfl⟩:=mem_map.mp hp;exact gX pn
  .obtain⟨i,hi,rfl⟩:=mem_map.mp hp;have le:=mX (t:=ent R' i X.length) pn;exact⟨((bE i X.length).le le.1).mono bits4,(bp.le le.2).mono bits4⟩
  .rw[<- qb8 xP qP ql hw LE.1 SE hi];refine aP λj hj=>?_;rw[gd j hj,jO pn];rfl
  .rw[gd j hj,jO pn,<- qi3 xP qP ql hw LE.2 SE hv hj];rfl
theorem Y52:DZ 7 Z.f52 Z.d52 ["net"] (Ld Z.c_Net Z.K) "refuse_unanswered":=by
 refine⟨?_,F52.b1 _ (by intros;rfl),F52.kp,m52⟩
 refine F52.ok9 Qq λ_ _ _ s H _ Q E hr h=>?_;obtain⟨n,l,m,ds,rfl,nt,pt,mo,m20,h40,hR,hF,q⟩:=h;have r5:=hr.mono (show 5<=6 by lia);refine⟨_,(aD (qQ0 (i:=1) Qq.nd (d9 Y39 r5 rfl (aA (pv 0) (aA (cD (aA bV aC)) aC))))
  (aD (cC (bA Jh (bL bQ rfl n_len PySem.boot_len (aA (pv 1) aC)) aE (bC _)) (aG gW) bF)
  (aD (qQ0 (i:=2) Qq.nd (d9 Y36 hr rfl (aA (pv 0) aC)))
  (aG (cC (bA Jh (bL bQ rfl n_len PySem.boot_len (aA (pv 2) aC)) aE (bC _)) (aG gW) bF))))),?_⟩
 refine⟨_,rfl,zl9 1,λL hL=>?_⟩;have s1:=aF hL (.lst [.str "hold"]);have e1:upd H L (.lst [.str "hold"]) L=some (.lst [.str "hold"]):=aB;generalize upd H L (.lst [.str "hold"])=H1 at s1 e1 ⊢;refine⟨n,l,.ref L,m,ds,wHo,rfl,nt.same s1,pt,m20,h40,.seq (SqL.of e1) rfl,λr us H2 s2 nr er G nx=>?_⟩;rw[hR] at G;have lu:us=[]:=eq_nil_of_length_eq_zero (by have:=G.l;simpa using this);subst lu;refine⟨_,rfl,r,_,rfl,.inl (SqL.of er),_,_,rfl,rfl,_,rfl,L2.ifF rfl ?_⟩;have s02:=s1.trans s2;refine⟨_,rfl,n,l,m,ds,rfl,nt.same s02,pt,mo,m20,(),λl' H3 s3 nl e3=>?_⟩;rw[hF] at e3;refine⟨_,rfl,l',_,rfl,.inl (SqL.of e3),_,_,rfl,rfl,_,rfl,L2.ifF rfl ?_⟩;exact q H3 (s02.trans s3)
theorem Y53:DZ 5 Z.f53 Z.d53 ["rows","levels","held"] (Aw Z.K (kd3 Z.c_Piece Z.c_Push Z.c_Hold)) "flows_of":=by
 refine⟨?_,F53.b3 _ _ _ (by intros;rfl),F53.kp,m53⟩
 refine F53.ok9 oB λ_ _ _ s H _ Q E hr h=>?_;obtain⟨a,b,h,xs,ls,ys,ds,lv,hs,m,rfl,ea,Rb,SA,hS,hF,hlo,hK,hh,h40,q⟩:=h;have r1:=hr.mono (show 1<=4 by lia);refine⟨_,(aD (qQ0 (i:=3) oB.nd (cD aC))
  (aD (qQ0 (i:=4) oB.nd aE)
  (aD (gA PassesOwn.never rfl (dM (pv 0)) (qQ1 (i:=5) oB.nd)
   (aD (qQ0 (i:=6) oB.nd (d9 Y33 hr rfl (aA (pv 5) (aA (pv 1) aC))))
  (aG (cC (bA eQ (eJ (pv 5) T.cl mW GW r1 bW .nil aK) bV (bC _)) (aD (bZ (mY PySem.F.plainAttrs_list PySem.F.slot_list_append PySem.F.type_list_append fD (pv 3) (aA (Dm (pv 5) T.cl mS GS hr bS .nil aK (aA (pv 6) (aA (aW cA (pv 2) (pv 4) (λ_ _=>rfl)) aC))) aC)))
  (aG (Ib (i:=4) oB.nd rfl (Or.inl rfl) aE Iq))) (aG (bZ (mY PySem.F.plainAttrs_list PySem.F.slot_list_append PySem.F.type_list_append fD (pv 3) (aA (Dm (pv 5) T.cl mS GS hr bS .nil aK (aA (pv 6) (aA (cQ (v:=.ref Z.aN) rfl mv_NOUGHT rfl) aC))) aC))))))))
  (aG (aT (pv 3)))))),?_⟩
 have lxs:=Rb.length;have lys:=hF.length;refine⟨zl9 0,λl hl=>?_⟩;have s1:=aF hl (.lst []);have e1:upd H l (.lst []) l=some (.lst []):=aB;generalize upd H l (.lst [])=H1 at s1 e1 ⊢;refine⟨_,rfl,a,rfl,⟨_,SqL.of (s1 _ _ ea)⟩,?_⟩;refine gU (xs:=xs) (λi σ H'=>aV H H'/\∃(zs:List V) (ti:Int) (z5 z6:Option V),σ=[some (.ref a),some (.ref b),some (.ref h),some (.ref l),some (.int ti),z5,z6]/\ti=((bO (ds.take i):Nat):Int)/\H' l=some (.lst zs)/\Fqs Z.K H' zs (pU lv hs 0 (ds.take i))) ⟨s1,[],0,none,none,rfl,rfl,e1,.nil⟩ (λi σ H' _ h=>h.1.seq (SqL.of ea)) ?_ ?_
 .rintro i x σ H2 hx ⟨s2,zs,ti,z5,z6,rfl,hti,e2,F2⟩;have hi:i < ds.length:=by have:=(List.getElem?_eq_some_iff.mp hx).1;lia
  obtain⟨⟨k0,u,v,p⟩,hd⟩:∃d,ds[i]?=some d:=⟨_,getElem?_eq_getElem hi⟩
  obtain⟨y,z,ey,rw0,fz0⟩:=Rb.at hd;have ex:x=.ref y:=by rw[ey] at hx;exact(Option.some.inj hx).symm
  subst ex;have rd:=hK _ (mem_of_getElem? hd);have pt:dD (m:Int) u v:=⟨rd.1,rd.2.1,rd.2.2.1,rd.2.2.2.1⟩
  have lp:Low p:=rd.2.2.2.2.1;have p0:k0=.pc->0 < p.1:=rd.2.2.2.2.2.1;have bp:Bd 1000 p:=rd.2.2.2.2.2.2;have et:ds.take (i+1)=ds.take i++[(k0,u,v,p)]:=by rw[take_add_one,hd];rfl
  have hcnt:bO (ds.take i)+bY k0+bO (ds.drop (i+1))=bO ds:=by
   have h1:ds=ds.take (i+1)++ds.drop (i+1):=(take_append_drop _ _).symm;have h2:bO ds=bO (ds.take (i+1))+bO (ds.drop (i+1)):=by
    unfold bO jH;rw[<- List.length_append,<- filter_append,take_append_drop]
   rw[h2,et,fZ]
  have rw2:=rw0.same s2;obtain⟨dr,hy⟩:=id rw2;refine⟨_,rfl,_,rfl,y,b,(k0,u,v,p),.ref z,ls,lv,m,rfl,rw2,SA.same s2,pt,λfa H3 s3 e3=>?_⟩;have flow:Low (flF lv (k0,u,v,p))/\Bd 7801 (flF lv (k0,u,v,p)):=by
   have hb:=SA.b;have hn:=SA.l;have Z.f33:lv.getD u.toNat (0,1)∈lv:=mem_of_getElem? (Mq.Th (by have:=pt.1;have:=pt.2.1;lia));have g2:lv.getD v.toNat (0,1)∈lv:=mem_of_getElem? (Mq.Th (by have:=pt.2.2.1;have:=pt.2.2.2;lia));exact⟨gO (hb _ Z.f33).1.pos (hb _ g2).1.pos,(kG (hb _ Z.f33).2 (hb _ g2).2 (hb _ Z.f33).1.pos (hb _ g2).1.pos).mono ()⟩
  have fa3:Fq Z.K H3 fa (flF lv (k0,u,v,p)):=Fq.of e3;have s23:=s2.trans s3;have rw3:=rw0.same s23;obtain⟨dr3,hy3⟩:=id rw3;have fz3:=s23.fq fz0;have e23:=s3 _ _ e2;have lzs:=F2.length;rw[Ex,length_take] at lzs;rw[et,yP,Nat.zero_add];refine⟨_,rfl,k0,y,dr3,_,rfl,hy3,(cT _ _ _ ∅ ∅ ∅),_,rfl,rfl,_,rfl,?_⟩
  by_cases hk:k0=.ho
  .refine L2.ifT (by show decide (V.str k0.wd=V.str Kd.ho.wd)=true;rw[dF];exact decide_eq_true hk) ?_;have hc:bY k0=1:=by unfold bY;rw[if_pos hk]
   obtain⟨w1,ew,fw⟩:=hF.at (Mq.Th (show bO (ds.take i) < hs.length by lia));refine⟨_,rfl,.inl ⟨rfl,_,SqL.of e23⟩,_,rfl,k0,y,dr3,_,rfl,hy3,(cT _ _ _ ∅ ∅ ∅),?_⟩;refine⟨_,rfl,_,rfl,_,rfl,h,ys,_,_,rfl,rfl,s23.seq hS,by rw[hti];exact cO ew,y,z,fa,w1,.int u,.int v,p,_,_,1000,7801,rfl,rw3,fz3,fa3,s23.fq fw,lp.pos,flow.1.pos,bp,flow.2,(),p0,λr H4 s4 f4=>?_⟩;have e4:=s4 _ _ e23;refine⟨l,_,_,rfl,rfl,e4,bK (),?_⟩;refine⟨_,rfl,_,_,rfl,rfl,?_⟩;refine⟨(s23.trans s4).change hl,_,ti+1,_,_,rfl,by rw[fZ,hti,hc];lia,aB,?_⟩;have fl:Vj lv hs (bO (ds.take i)) (k0,u,v,p)=Nj k0 (flF lv (k0,u,v,p)) (hs.getD (bO (ds.take i)) Mq.z0) p:=by
    show Nj k0 _ (if k0=.ho then _ else _) _=_;rw[if_pos hk]
   rw[fl];exact((F2.same (s3.trans s4)).app (.cons f4 .nil)).upd e4
  .refine L2.ifF (by show decide (V.str k0.wd=V.str Kd.ho.wd)=false;rw[dF];exact decide_eq_false hk) ?_;have hc:bY k0=0:=by unfold bY;rw[if_neg hk]
   refine⟨_,rfl,.inl ⟨rfl,_,SqL.of e23⟩,_,rfl,k0,y,dr3,_,rfl,hy3,(cT _ _ _ ∅ ∅ ∅),_,rfl,y,z,fa,Z.aN,.int u,.int v,p,_,(0,1),1000,7801,rfl,rw3,fz3,fa3,fN _,lp.pos,flow.1.pos,bp,flow.2,(),p0,λr H4 s4 f4=>?_⟩;have e4:=s4 _ _ e23;refine⟨l,_,_,rfl,rfl,e4,bK (),?_⟩;refine⟨(s23.trans s4).change hl,_,ti,_,_,rfl,by rw[fZ,hti,hc];rfl,aB,?_⟩;have fl:Vj lv hs (bO (ds.take i)) (k0,u,v,p)=Nj k0 (flF lv (k0,u,v,p)) (0,1) p:=by
    show Nj k0 _ (if k0=.ho then _ else _) _=_;rw[if_neg hk]
   rw[fl];exact((F2.same (s3.trans s4)).app (.cons f4 .nil)).upd e4
 rintro σ H2 ⟨s2,zs,ti,z5,z6,rfl,hti,e2,F2⟩;rw[lxs,take_length] at F2;exact⟨_,rfl,q l zs H2 s2 hl e2 F2⟩
theorem R54:FZ CX0 8 Z.f54 Z.d54 ["self","net"] (jY Z.c_Net Z.c_Answer Z.K):=by
 refine F54.ok9 uC λ_ _ _ s H _ Q E hr h=>?_;obtain⟨x,dx,n,l,m,b,kb,L,ds,rfl,hx,NB,hw39,h01,hR,hF,q⟩:=h;have r1:=hr.mono (show 1<=7 by lia);have r4:=hr.mono (show 4<=7 by lia);have r5:=hr.mono (show 5<=7 by lia);have r7:=hr;refine⟨_,(aD (bZ (d9 Y52 r7 rfl (aA (pv 1) aC)))
  (aD (qQ0 (i:=2) uC.nd (d9 Y45 r7 rfl (aA (pv 1) aC)))
  (aD (qQ0 (i:=3) uC.nd (d9 Y51 r5 rfl (aA (aW aZ (pv 2) aE (λ_ _=>rfl)) (aA (aW aZ (pv 2) aE (λ_ _=>rfl)) aC))))
  (aD (qQ0 (i:=4) uC.nd (aY iW (bN (pv 1) NTx.cl X3 R28 r1 b28 .nil aK) aE))
  (aD (iC (pv 0) (aW aZ (pv 2) aE (λ_ _=>rfl)) rfl)
  (aD (iC (pv 0) (aY jF (cD (aA (cQ (v:=.ref Z.aN) rfl mv_NOUGHT rfl) aC)) (fA gK (pv 3) iH (eY (pv 4)))) rfl)
  (aG (iC (pv 0) (d9 Y53 r5 rfl (aA (bN (pv 1) NTx.cl X4 R32 r4 b32 .nil aK) (aA (bX (pv 0) rfl) (aA (fA gK (pv 3) (eY (pv 4)) iH) aC)))) rfl)))))))),?_⟩
 have nt:=NB.nt;have hK:=NB.ok;have m20:=NB.m20;have h40:=NB.h40;have hbig:=NB.cu;have EB:=NB.eb;have mo:=EB.o.m1;refine⟨_,rfl,n,l,m,ds,rfl,nt,EB.o.pt,mo,m20,h40,hR,hF,λH1 s1=>?_⟩;refine⟨_,rfl,n,l,m,kb,ds,rfl,nt.same s1,hK,mo,m20,h40,hbig,λtt p r us ys X Y H2 s2 et np nr ep er FM FY nx EO=>?_⟩;have s02:=s1.trans s2;have lX:X.length=m - 1+bO ds:=EO.x.h;have lY:Y.length=X.length:=by rw[EO.y.w,lX]
 have w26:=EB.w26;have lw:wd m ds=m - 1+bO ds:=rfl;have yq:∀p∈Y,(Bd b p/\p.2 ∣ L)/\∃a:Int,Mq.B b a/\Mq.val p=(a:Rat) / (L:Rat):=λp hp=>by
  obtain⟨i,hi⟩:=getElem?_of_mem hp;have ep:p=Y.getD i (0,1):=by rw[getD_eq_getElem?_getD,hi];rfl
  obtain⟨z,hz,ez⟩:=h01 i;have hv:Mq.val p=(z:Rat) / (L:Rat):=by rw[ep,EO.vy,ez]
  exact⟨wU (EO.y.l p hp).1 EB.L1 EB.LB hz hv,z,hz,hv⟩
 refine⟨_,rfl,tt,_,0,_,rfl,rfl,SqT.of et,rfl,_,rfl,tt,_,1,_,rfl,rfl,SqT.of et,rfl,?_⟩;refine⟨p,r,p,H1,us,ys,X,Y,b,b,rfl,SqL.of ep,tX FM (λx hx=>(nx x hx).1),SqL.of er,FY,lY,λp hp=>(EO.y.l p hp).1,λp hp=>(yq p hp).1.1,EqB.pos EO,λrow hr=>⟨λp hp=>((EB.cell EO row hr).1 p hp).1,(EB.cell EO row hr).2⟩,(),by rw[lX];exact EB.hb,Jc (EqB.pos EO) (λp hp=>(EO.y.l p hp).1.pos) lY (λrow hr p hp=>((EB.cell EO row hr).1 p hp).2) (λp hp=>⟨(yq p hp).1.2,(yq p hp).2⟩) EB.L1,EB.b1,by rw[lX];exact Nat.le_trans EB.hbw ∅,EB.wgt EO,λkn zk ps H3 s3 nkn ekn Fk SU OV=>?_⟩;rw[lX] at OV;have lps:ps.length=wd m ds:=by rw[SU.len,lX]
 have lo:=SU.low;have b39:=Gh (n:=bw b (wd m ds)) OV lo hw39;have s03:=s02.trans s3;obtain⟨dn,hn⟩:=(nt.same s03).ob;refine⟨_,rfl,n,dn,_,rfl,hn,cI _ _ ∅ ∅,n,l,_,ds,rfl,nt.same s03,_,_,rfl,rfl,?_⟩;have et3:=s3 _ _ et;have hx3:=s03 _ _ hx;have em:(m:Int) - 1=((m - 1:Nat):Int):=by lia
 show jL _ _ _ [some (.ref x),some (.ref n),some (.ref tt),some (.ref kn),some (.int ((m:Int) - 1))] H3;rw[em];refine⟨_,rfl,tt,_,0,_,rfl,rfl,SqT.of et3,rfl,_,rfl,x,Z.c_Answer,dx,[],rfl,hx3,ABx.cl,ABx.nI,(by show 0 < 1000;decide),?_⟩;have x4:bG x H (upd H3 x (.ins Z.c_Answer dx (cP "lines" (.ref p) []))):=λb o h nb=>by rw[aX nb];exact s03 _ _ h
 have x34:bG x H3 (upd H3 x (.ins Z.c_Answer dx (cP "lines" (.ref p) []))):=λb o h nb=>by rw[aX nb];exact h
 have hx4:upd H3 x (.ins Z.c_Answer dx (cP "lines" (.ref p) [])) x=some (.ins Z.c_Answer dx (cP "lines" (.ref p) [])):=aB;have ek4:=bG.seqI hx3 x34 (SqL.of (K:=Z.K) ekn);have Fk4:=bG.fqsI hx3 x34 Fk;generalize upd H3 x (.ins Z.c_Answer dx (cP "lines" (.ref p) []))=H4 at x4 x34 hx4 ek4 Fk4 ⊢;refine⟨zl9 1,λL1 hL1=>?_⟩;have s5:=aF hL1 (.lst [.ref Z.aN]);have e5:upd H4 L1 (.lst [.ref Z.aN]) L1=some (.lst [.ref Z.aN]):=aB;generalize upd H4 L1 (.lst [.ref Z.aN])=H5 at s5 e5 ⊢;refine⟨_,rfl,_,rfl,_,rfl,kn,zk,rfl,s5.seq ek4,λS hS=>?_⟩;rw[Gc];have s6:=aF hS (.lst (zk.take (m - 1)));have e6:upd H5 S (.lst (zk.take (m - 1))) S=some (.lst (zk.take (m - 1))):=aB;generalize upd H5 S (.lst (zk.take (m - 1)))=H6 at s6 e6 ⊢;have lzk:=Fk.length;refine⟨L1,S,_,_,rfl,rfl,s6 _ _ e5,e6,Nat.le_of_lt (bK (by rw[length_take];simp only[length_cons,length_nil];lia)),λV1 hV1=>?_⟩;have s7:=aF hV1 (.lst ([.ref Z.aN]++zk.take (m - 1)));have e7:upd H6 V1 (.lst ([.ref Z.aN]++zk.take (m - 1))) V1=some (.lst ([.ref Z.aN]++zk.take (m - 1))):=aB;generalize upd H6 V1 (.lst ([.ref Z.aN]++zk.take (m - 1)))=H7 at s7 e7 ⊢;have s47:=s5.trans (s6.trans s7);have hx7:=s47 _ _ hx4;refine⟨_,rfl,x,Z.c_Answer,dx,_,rfl,hx7,ABx.cl,ABx.nE,(by have:=dU ("lines":Str) (.ref p) [];simp only[length_nil] at this;lia),?_⟩;have x78:bG x H7 (upd H7 x (.ins Z.c_Answer dx (cP "levels" (.ref V1) (cP "lines" (.ref p) [])))):=λb o h nb=>by rw[aX nb];exact h
 have hx8:upd H7 x (.ins Z.c_Answer dx (cP "levels" (.ref V1) (cP "lines" (.ref p) []))) x=some (.ins Z.c_Answer dx (cP "levels" (.ref V1) (cP "lines" (.ref p) []))):=aB;generalize upd H7 x (.ins Z.c_Answer dx (cP "levels" (.ref V1) (cP "lines" (.ref p) [])))=H8 at x78 hx8 ⊢;have nn:=qc3 hx nt;have nt4:=dG.xI hx3 x34 nn (nt.same s03);have nt8:=dG.xI hx7 x78 nn (nt4.same s47);have ek8:=bG.seqI hx7 x78 (s47.seq ek4);have Fk8:=bG.fqsI hx7 x78 (Fk4.same s47);have nV1x:V1≠x:=cZ e7 hx7 (λz=>by cases z);have ev8:=bG.seqI hx7 x78 (SqL.of (K:=Z.K) e7);have Fv8:Fqs Z.K H8 ([.ref Z.aN]++zk.take (m - 1)) (lvS m ps):=.cons (fN _) (Fqs.take _ Fk8);obtain⟨dn8,hn8⟩:=nt8.ob;refine⟨_,rfl,n,dn8,_,rfl,hn8,cI _ _ ∅ ∅,n,l,_,ds,rfl,nt8,(),λro xr H9 s9 nro ero Rb=>?_⟩;have hx9:=s9 _ _ hx8;have ek9:=s9.seq ek8;refine⟨_,rfl,x,Z.c_Answer,dx,_,_,rfl,hx9,ABx.cl,ABx.nE,(by rw[bH,if_pos rfl]),_,rfl,_,rfl,_,rfl,kn,zk,rfl,ek9,λS2 hS2=>?_⟩;rw[tE];have s10:=aF hS2 (.lst (zk.drop (m - 1)));have e10:upd H9 S2 (.lst (zk.drop (m - 1))) S2=some (.lst (zk.drop (m - 1))):=aB;generalize upd H9 S2 (.lst (zk.drop (m - 1)))=H10 at s10 e10 ⊢;have s80:=s9.trans s10;have lLv:(lvS m ps).length=m:=by
  unfold lvS;rw[length_cons,length_take];lia
 refine⟨ro,V1,S2,xr,_,_,ds,lvS m ps,ps.drop (m - 1),m,rfl,s10 _ _ ero,Rb.same s10,⟨s80.seq ev8,Fv8.same s80,lLv,λs hs=>?_⟩,SqL.of e10,Fqs.drop _ (Fk8.same s80),λp hp=>lo p (mem_of_mem_drop hp),λd hd=>?_,by rw[length_drop];lia,h40,λfo zf H11 s11 nfo efo Ffo=>?_⟩
 .rcases mem_cons.mp hs with z | z
  .rw[z];exact⟨⟨∅,∅⟩,qn1 (n:=3899)⟩
  .exact b39 s (mem_of_mem_take z)
 .obtain⟨i,hi⟩:=getElem?_of_mem hd;exact(hK i d hi).1
 have s81:=s80.trans s11;have hx11:=s81 _ _ hx8;refine⟨_,rfl,x,Z.c_Answer,dx,_,rfl,hx11,ABx.cl,ABx.nO,(by have:=dU ("lines":Str) (.ref p) [];have:=dU ("levels":Str) (.ref V1) (cP "lines" (.ref p) []);simp only[length_nil] at *;lia),?_⟩;have x12:bG x H11 (upd H11 x (.ins Z.c_Answer dx (iA p V1 fo))):=λb o h nb=>by rw[aX nb];exact h
 have hx12:upd H11 x (.ins Z.c_Answer dx (iA p V1 fo)) x=some (.ins Z.c_Answer dx (iA p V1 fo)):=aB;show Q .non (upd H11 x (.ins Z.c_Answer dx (iA p V1 fo)));generalize upd H11 x (.ins Z.c_Answer dx (iA p V1 fo))=H12 at x12 hx12 ⊢;have px:p≠x:=cZ (s3 _ _ ep) hx3 (λz=>by cases z);refine q ps H12 (λb o h nb=>x12 _ _ (s81 _ _ (x78 _ _ (s47 _ _ (x4 _ _ h nb)) nb)) nb) ⟨dx,p,V1,fo,_,zf,hx12,x12 _ _ (s81 _ _ (x78 _ _ e7 nV1x)) nV1x,bG.fqsI hx11 x12 (Fv8.same s81),x12 _ _ efo (cZ efo hx11 (λz=>by cases z)),bG.fqsI hx11 x12 Ffo,λl0 o0 h0 n0=>⟨λz=>?_,λz=>?_⟩⟩ lps lo OV (EqB.sol EO SU λi _=>EO.vy i) (λZ hZ=>⟨dx,p,V1,fo,us,X,_,Y,hx12,x12 _ _ (s81 _ _ (x78 _ _ (s47 _ _ (x34 _ _ (s3 _ _ ep) px)) px)) px,Cc hx11 x12 ((Cc hx7 x78 ((Cc hx3 x34 ((Kk FM λx hx=>(nx x hx).1).same s3)).same s47)).same s81),EO,λy hy=>?_⟩)
 .rw[z,(s5.trans s6) _ _ (x4 _ _ h0 n0)] at hV1;cases hV1
 .rw[z,s80 _ _ (x78 _ _ (s47 _ _ (x4 _ _ h0 n0)) n0)] at nfo;cases nfo
 .obtain⟨yx,o,ho⟩:=hZ y hy;have ho1:=s1 _ _ ho;refine⟨λz=>yx z.symm,λz=>(by rw[<- z,np] at ho1;cases ho1),λu hu z=>?_⟩;obtain⟨a',ea,na⟩:=FM.new hu;rw[ea] at z
  cases z
  rw[na] at ho1;cases ho1
theorem R55:FZ CX0 1 Z.f55 Z.d55 ["self"] (jZ Z.c_Answer Z.K):=by
 refine F55.ok9 qf2 λ_ _ _ s H _ Q E hr h=>?_;obtain⟨a,lv,fl,rfl,⟨⟨dx,li,le,fo,xs,ys,ha,hle,Fle,hfo,Ffo⟩⟩,q⟩:=h;refine⟨_,(aG (aT (iQ gF rfl n_list PyProof.Rows.boot_list (aA (bX (pv 0) rfl) aC)))),?_⟩;refine⟨_,rfl,a,Z.c_Answer,_,_,_,rfl,ha,ABx.cl,ABx.nE,Vn _ _ _,le,_,rfl,.inl hle,λl hl=>?_⟩;have sl:=aF hl (.lst xs);exact q l _ _ sl hl aB (Fle.same sl)
theorem R56:FZ CX0 1 Z.f56 Z.d56 ["self"] (oM Z.c_Answer Z.K):=by
 refine F56.ok9 qj8 λcdv A outer s H vs Q E hr h=>?_;obtain⟨a,lv,fl,rfl,⟨⟨dx,li,le,fo,xs,ys,ha,hle,Fle,hfo,Ffo⟩⟩,q⟩:=h;refine⟨_,(aG (aT (iQ gF rfl n_list PyProof.Rows.boot_list (aA (bX (pv 0) rfl) aC)))),?_⟩;refine⟨_,rfl,a,Z.c_Answer,_,_,_,rfl,ha,ABx.cl,ABx.nO,Xi _ _ _,fo,_,rfl,.inl hfo,λl hl=>?_⟩;have sl:=aF hl (.lst ys);exact q l _ _ sl hl aB (Ffo.same sl)
theorem R57:FZ CX0 4 Z.f57 Z.d57 ["self"] (wG Z.c_Net Z.K):=by
 refine F57.ok9 Pi λ_ _ _ s H _ Q E hr h=>?_;obtain⟨n,l,m,ds,rfl,⟨⟨dx,hn⟩,ts,hl,hR⟩,h1,h20,q⟩:=h;refine⟨_,(aD (qQ0 (i:=1) Pi.nd (gN MN R27 hr rfl NTx.mN b27 .nil aK (aA (bX (pv 0) rfl) aC)))
  (aD (iC (pv 1) (iQ gF rfl n_list PyProof.Rows.boot_list (aA (bX (pv 0) rfl) aC)) rfl)
  (aG (aT (pv 1))))),?_⟩
 refine⟨_,rfl,n,Z.c_Net,dx,_,_,rfl,hn,NTx.cl,NTx.nP,vE _ _,λx ex hx1 hx2 ne=>⟨x,ex,m,rfl,aB,h1,h20,λl0 H1 nl0 keep hx hl0=>⟨rfl,?_⟩⟩⟩;have s1:aV H H1:=λb o e=>keep b o (by rw[aX (aQ e hx1),aX (aQ e hx2)];exact e) (aQ e hx1);have hn1:=s1 _ _ hn;have hl1:=s1 _ _ hl;refine⟨_,rfl,n,Z.c_Net,dx,_,_,rfl,hn1,NTx.cl,NTx.nK,eT _ _,l,ts,rfl,.inl (SqL.of hl1),λl2 hl2=>?_⟩;have s2:=aF hl2 (.lst ts);have el2:upd H1 l2 (.lst ts) l2=some (.lst ts):=aB;generalize upd H1 l2 (.lst ts)=H2 at s2 el2 ⊢;have hx2':=s2 _ _ hx;refine⟨_,rfl,x,Z.c_Net,ex,_,rfl,hx2',NTx.cl,NTx.nK,Nat.lt_of_le_of_lt (Mu _ _) ∅,?_⟩;have s12:=s1.trans s2;have sF:aV H (upd H2 x (.ins Z.c_Net ex (cP "kept" (.ref l2) (gP m l0)))):=s12.change hx1;have nx:l2≠x:=cZ el2 hx2' (λz=>by cases z);refine⟨_,rfl,q x l2 _ sF hx1 (s1.free hl2) ⟨⟨ex,by rw[aB,Na]⟩,ts,by rw[aX nx];exact el2,hR.same sF⟩⟩
theorem R58:FZ CX0 1 Z.f58 Z.d58 ["self"] (Cp Z.c_Net Z.K):=by
 refine F58.ok9 Uv λ_ _ _ s H _ Q E hr h=>?_;obtain⟨n,l,m,ds,rfl,⟨⟨dx,hn⟩,ts,hl,hr'⟩,q⟩:=h;refine⟨_,(aG (aT (bL bQ rfl n_len PySem.boot_len (aA (bX (pv 0) rfl) aC)))),_,rfl,n,Z.c_Net,dx,_,_,rfl,hn,NTx.cl,NTx.nK,eT _ _,l,ts,rfl,.inl (SqL.of hl),?_⟩;rw[hr'.length];exact q
theorem Y59:DZ 6 Z.f59 Z.d59 ["net","matrix","right"] (Au Z.c_Net Z.K) "heights_by":=by
 refine⟨?_,F59.b3 _ _ _ (by intros;rfl),F59.kp,m59⟩
 refine F59.ok9 ql5 λ_ _ _ s H _ Q E hr h=>?_;obtain⟨n,l,g,r,D,H0,m,b,N,L,ds,us,ys,X,Y,qs,rfl,nt,hg,FX,EO,EB,hr0,FQ,lq,h01,q⟩:=h;have r1:=hr.mono (show 1<=5 by lia);refine⟨_,(aG (aT (aY jF (cD (aA (cQ (v:=.ref Z.aN) rfl mv_NOUGHT rfl) aC)) (fA gK (d9 Y51 hr rfl (aA (pv 1) (aA (pv 2) aC))) iH (eY (aY iW (bN (pv 0) NTx.cl X3 R28 r1 b28 .nil aK) aE)))))),?_⟩;have lX:X.length=wd m ds:=EO.x.h;have lw:wd m ds=m - 1+bO ds:=rfl;have mo:=EB.o.m1;have w26:=EB.w26;refine⟨zl9 1,λL1 hL1=>?_⟩;have s1:=aF hL1 (.lst [.ref Z.aN]);have e1:upd H L1 (.lst [.ref Z.aN]) L1=some (.lst [.ref Z.aN]):=aB;generalize upd H L1 (.lst [.ref Z.aN])=H1 at s1 e1 ⊢;refine⟨_,rfl,_,rfl,g,r,D,H0,us,ys,X,qs,b,b,rfl,s1.seq hg,FX.same s1,s1.seq hr0,FQ.same s1,lq,λp hp=>(h01 p hp).1,λp hp=>(h01 p hp).bd EB.b1,EqB.pos EO,λrow hr=>⟨λp hp=>((EB.cell EO row hr).1 p hp).1,(EB.cell EO row hr).2⟩,(),by rw[lX];exact EB.hb,Jc (EqB.pos EO) (λp hp=>(h01 p hp).1.pos) lq (λrow hr p hp=>((EB.cell EO row hr).1 p hp).2) (λp hp=>(h01 p hp).ov EB.L1 EB.LB) EB.L1,EB.b1,by rw[lX];exact Nat.le_trans EB.hbw ∅,EB.wgt EO,λkn zk ps H2 s2 nkn ekn Fk SU OV=>?_⟩;rw[lX] at OV;have s02:=s1.trans s2;obtain⟨dn,hn⟩:=(nt.same s02).ob;have lps:ps.length=X.length:=SU.len;have lzk:=Fk.length;refine⟨_,rfl,n,dn,_,rfl,hn,cI _ _ ∅ ∅,n,l,_,ds,rfl,nt.same s02,_,_,rfl,rfl,?_⟩;have em:(m:Int) - 1=((m - 1:Nat):Int):=by lia
 refine⟨_,rfl,kn,zk,rfl,SqL.of ekn,λS hS=>?_⟩;rw[em,Gc];have s3:=aF hS (.lst (zk.take (m - 1)));have e3:upd H2 S (.lst (zk.take (m - 1))) S=some (.lst (zk.take (m - 1))):=aB;generalize upd H2 S (.lst (zk.take (m - 1)))=H3 at s3 e3 ⊢;refine⟨L1,S,_,_,rfl,rfl,(s2.trans s3) _ _ e1,e3,Nat.le_of_lt (bK (by rw[length_take];simp only[length_cons,length_nil];lia)),λV1 hV1=>?_⟩;have s4:=aF hV1 (.lst ([.ref Z.aN]++zk.take (m - 1)));have e4:upd H3 V1 (.lst ([.ref Z.aN]++zk.take (m - 1))) V1=some (.lst ([.ref Z.aN]++zk.take (m - 1))):=aB;generalize upd H3 V1 (.lst ([.ref Z.aN]++zk.take (m - 1)))=H4 at s4 e4 ⊢;exact q V1 _ ps H4 ((s02.trans s3).free hV1) (s02.trans (s3.trans s4)) e4 (.cons (fN _) (Fqs.take _ (Fk.same (s3.trans s4)))) SU OV
theorem Y60:DZ 8 Z.f60 Z.d60 ["net","start","goal"] (Fj Z.c_Net Z.K) "pushed_heights":=by
 refine⟨?_,F60.b3 _ _ _ (by intros;rfl),F60.kp,m60⟩
 refine F60.ok9 Tk λcdv A outer s H vs Q E hr h=>?_;obtain⟨n,l,m,b,kb,L,ds,s,g,rfl,NB,hs,hg,q⟩:=h;have r2:=hr.mono (show 2<=7 by lia);have r5:=hr.mono (show 5<=7 by lia);have r6:=hr.mono (show 6<=7 by lia);have r7:=hr;refine⟨_,(aD (qQ0 (i:=3) Tk.nd (aW aZ (d9 Y45 r7 rfl (aA (pv 0) aC)) aE (λ_ _=>rfl)))
  (aD (qQ0 (i:=4) Tk.nd (aY Ai (cD (aA (cQ (v:=.ref Z.aN) rfl mv_NOUGHT rfl) aC)) (aY dS (bL bQ rfl n_len PySem.boot_len (aA (pv 3) aC)) aE)))
  (aD (bZ (d9 Y43 r5 rfl (aA (pv 4) (aA (gN (MK .pu) R9 r2 rfl (T.mK .pu) b9 .nil aK (aA (pv 1) (aA (pv 2) (aA (cQ (v:=.ref Z.aO) rfl mv_ONE rfl) aC)))) aC))))
  (aG (aT (d9 Y59 r6 rfl (aA (pv 0) (aA (pv 3) (aA (fA gK (pv 4) (eY aE) iH) aC))))))))),?_⟩
 have EB:=NB.eb;have mo:=EB.o.m1;have w26:=EB.w26;refine⟨_,rfl,n,l,m,kb,ds,rfl,NB.nt,NB.ok,mo,NB.m20,NB.h40,NB.cu,λtt p r us ys X Y H1 s1 et np nr ep er FM FY nx EO=>?_⟩;have lX:X.length=wd m ds:=EO.x.h;have lus:=FM.l;refine⟨tt,_,0,_,rfl,rfl,SqT.of et,rfl,?_⟩;obtain⟨W,hW⟩:∃W,W=wd m ds:=⟨_,rfl⟩
 rw[<- hW] at w26;have lusW:us.length=W:=by rw[lus,lX,hW]
 refine⟨zl9 1,λl1 hl1=>?_⟩;have s2:=aF hl1 (.lst [.ref Z.aN]);have e2:upd H1 l1 (.lst [.ref Z.aN]) l1=some (.lst [.ref Z.aN]):=aB;generalize upd H1 l1 (.lst [.ref Z.aN])=H2 at s2 e2 ⊢;have eW:(us.length:Int)+1=((W+1:Nat):Int):=by lia
 refine⟨_,rfl,p,us,rfl,.inl (SqL.of (s2 _ _ ep)),_,_,rfl,rfl,l1,_,[.ref Z.aN],rfl,rfl,e2,(),(),?_,λRr hR=>?_⟩
 .rw[eW,Int.toNat_natCast,sizeLine_eq];simp only[length_cons,length_nil];lia
 rw[eW,Int.toNat_natCast,mP];have nR1:H1 Rr=none:=s2.free hR;have s3:=aF hR (.lst (replicate (W+1) (.ref Z.aN)));have e3:upd H2 Rr (.lst (replicate (W+1) (.ref Z.aN))) Rr=some (.lst (replicate (W+1) (.ref Z.aN))):=aB;generalize upd H2 Rr (.lst (replicate (W+1) (.ref Z.aN)))=H3 at s3 e3 ⊢;refine⟨_,rfl,_,rfl,_,rfl,λx dx hx hdx nxd=>?_⟩;refine⟨x,dx,.pu,_,_,_,rfl,aB,rfl,?_⟩;have s4:aV H3 (upd (upd (upd H3 dx (.own x)) x (.ins ((kd3 Z.c_Piece Z.c_Push Z.c_Hold) .pu) dx [])) x (.ins ((kd3 Z.c_Piece Z.c_Push Z.c_Hold) .pu) dx (kB (.int (s:Int)) (.int (g:Int)) (.ref Z.aO)))):=(jQ (C:=(kd3 Z.c_Piece Z.c_Push Z.c_Hold) .pu) hx hdx).change hx;have rw4:Rw (kd3 Z.c_Piece Z.c_Push Z.c_Hold) (upd (upd (upd H3 dx (.own x)) x (.ins ((kd3 Z.c_Piece Z.c_Push Z.c_Hold) .pu) dx [])) x (.ins ((kd3 Z.c_Piece Z.c_Push Z.c_Hold) .pu) dx (kB (.int (s:Int)) (.int (g:Int)) (.ref Z.aO)))) x .pu (.int (s:Int)) (.int (g:Int)) (.ref Z.aO):=⟨dx,aB⟩
 generalize upd (upd (upd H3 dx (.own x)) x (.ins ((kd3 Z.c_Piece Z.c_Push Z.c_Hold) .pu) dx [])) x (.ins ((kd3 Z.c_Piece Z.c_Push Z.c_Hold) .pu) dx (kB (.int (s:Int)) (.int (g:Int)) (.ref Z.aO)))=H4 at s4 rw4 ⊢;have ptW:dD ((W+1:Nat):Int) (s:Int) (g:Int):=by
  unfold wd at hW;exact⟨(),(),(),()⟩
 have ptm:dD (m:Int) (s:Int) (g:Int):=⟨(),(),(),()⟩
 refine⟨Rr,x,Z.aO,_,replicate (W+1) (0,1),(.pu,(s:Int),(g:Int),(1,1)),W+1,1,1,rfl,s4 _ _ e3,lT (fN _) (W+1),Cf (W+1),rw4,fO _,ptW,hJ,iE,(),λys' H5 sx5 eR5 F5=>?_⟩;obtain⟨lb5,v5⟩:=Yw (d:=(.pu,(s:Int),(g:Int),(1,1))) (h:=0) (m:=m) (Cf (W+1)) ptm (by unfold wd at hW;lia) rfl hJ iE;have s15:aV H1 H5:=SX.same (s2.trans (s3.trans s4)) sx5 (λc hc=>by rw[mem_singleton.mp hc];exact nR1);generalize pR (replicate (W+1) (0,1)) (.pu,(s:Int),(g:Int),(1,1))=rs at F5 lb5 v5;have v6:∀k,Mq.val (rs.getD k (0,1))=un g k - un s k:=λk=>by
  rw[v5,sM,tJ,<- ql2 s g k];show 0 + - dl ((s:Int)).toNat ((g:Int)).toNat k*Mq.val (1,1)=_;rw[Int.toNat_natCast,Int.toNat_natCast];grind
 have lrs:=lb5.w;refine⟨_,rfl,_,rfl,_,rfl,1,rfl,Rr,_,rfl,SqL.of eR5,λS hS=>?_⟩;rw[Js];have s6:=aF hS (.lst (ys'.drop 1));have e6:upd H5 S (.lst (ys'.drop 1)) S=some (.lst (ys'.drop 1)):=aB;generalize upd H5 S (.lst (ys'.drop 1))=H6 at s6 e6 ⊢;have s16:=s15.trans s6;have s06:=s1.trans s16;have gd:∀k,(rs.drop 1).getD k (0,1)=rs.getD (k+1) (0,1):=λk=>by rw[getD_eq_getElem?_getD,getElem?_drop,Nat.add_comm,<- getD_eq_getElem?_getD]
 refine⟨n,l,p,S,p,H,m,b,_,L,ds,us,_,X,Y,rs.drop 1,rfl,NB.nt.same s06,SqL.of (s16 _ _ ep),(tX FM (λx hx=>(nx x hx).1)).same s16,EO,EB,SqL.of e6,Fqs.drop1 (F5.same s6),by rw[length_drop,lrs,lX,<- hW];lia,λpq hpq=>?_,λt zs ps H7 nt7 s7 e7 F7 SU OV=>?_⟩
 .obtain⟨k,hk⟩:=getElem?_of_mem hpq;rw[getElem?_drop] at hk;have lo:=(lb5.l pq (mem_of_getElem? hk)).1;have ev:=v6 (1+k);rw[getD_eq_getElem?_getD,hk] at ev;obtain⟨a0,ha0,ea⟩:=Zp g s (1+k);obtain⟨d1,t1⟩:=Mq.Ec lo (show (1:Int)<=1 by decide) (ev.trans ea);have:=Int.le_of_dvd ∅ d1;have:=lo.pos;exact⟨lo,(),()⟩
 .have lps:ps.length=X.length:=SU.len;have lm:m - 1<=ps.length:=by rw[lps,lX];unfold wd;lia
  refine q t zs (lvS m ps) (uP ps) H7 (s06.free nt7) (s06.trans s7) e7 F7 (oF mo lm) (nH SU.low) (Am OV) (EqB.sol EO SU λi hi=>?_) (λk hk=>nY lm hk);show Mq.val ((rs.drop 1).getD i (0,1))=_;rw[gd,v6]
theorem Y61:DZ 8 Z.f61 Z.d61 ["net","k"] (Oh Z.c_Net Z.K) "held_heights":=by
 refine⟨?_,F61.b2 _ _ (by intros;rfl),F61.kp,m61⟩
 refine F61.ok9 Jy λ_ _ _ s H _ Q E hr h=>?_;obtain⟨n,l,m,b,kb,L,ds,k,d0,rfl,NB,hk,hd0,q⟩:=h;have r1:=hr.mono (show 1<=7 by lia);have r4:=hr.mono (show 4<=7 by lia);have r6:=hr.mono (show 6<=7 by lia);have r7:=hr;refine⟨_,(aD (qQ0 (i:=2) Jy.nd (aW aZ (d9 Y45 r7 rfl (aA (pv 0) aC)) aE (λ_ _=>rfl)))
  (aD (qQ0 (i:=3) Jy.nd (aY Ai (cD (aA (cQ (v:=.ref Z.aN) rfl mv_NOUGHT rfl) aC)) (bL bQ rfl n_len PySem.boot_len (aA (pv 2) aC))))
  (aD (uV (i:=4) (nl:=1) (fr:=[]) (Nc:=["row"]) (cl:=[]) Jy.nd rfl rfl rfl ⟨rfl,rfl,∅,∅,λx c h=>(by cases h),fI rfl,rfl,λi n h=>(by simp at h)⟩
    (dM (fA gK (bN (pv 0) NTx.cl X4 R32 r4 b32 .nil aK) iH (eY (pv 1)))) (λ_ _ _ _ _=>(qQ1 (i:=0) Oe)) (λ_ _ _ _ _=>(uA (bA eQ (eJ (pv 0) T.cl mW GW r1 bW .nil aK) bV (bC _))))
    (λ_ _ _ _ _=>(pv 0)) rfl)
  (aD (mH (cQ (v:=.ref Z.aO) rfl mv_ONE rfl) (pD (pv 3) (aY dS (aY iW (bN (pv 0) NTx.cl X3 R28 r1 b28 .nil aK) aE) (bL bQ rfl n_len PySem.boot_len (aA (pv 4) aC))) iZ))
  (aG (aT (d9 Y59 r6 rfl (aA (pv 0) (aA (pv 2) (aA (pv 3) aC)))))))))),?_⟩
 have EB:=NB.eb;have mo:=EB.o.m1;have w26:=EB.w26;have h40:=NB.h40;have hkl:=(List.getElem?_eq_some_iff.mp hk).1;have hcl:=qf5 hk hd0;refine⟨_,rfl,n,l,m,kb,ds,rfl,NB.nt,NB.ok,mo,NB.m20,NB.h40,NB.cu,λtt p r us ys X Y H1 s1 et np nr ep er FM FY nx EO=>?_⟩;have lX:X.length=wd m ds:=EO.x.h;have lus:=FM.l;refine⟨tt,_,0,_,rfl,rfl,SqT.of et,rfl,?_⟩;obtain⟨W,hW⟩:∃W,W=wd m ds:=⟨_,rfl⟩
 rw[<- hW] at w26;have lusW:us.length=W:=by rw[lus,lX,hW]
 refine⟨zl9 1,λl1 hl1=>?_⟩;have s2:=aF hl1 (.lst [.ref Z.aN]);have e2:upd H1 l1 (.lst [.ref Z.aN]) l1=some (.lst [.ref Z.aN]):=aB;generalize upd H1 l1 (.lst [.ref Z.aN])=H2 at s2 e2 ⊢;have eW:(us.length:Int)=((W:Nat):Int):=by lia
 refine⟨_,rfl,p,us,rfl,.inl (SqL.of (s2 _ _ ep)),l1,_,[.ref Z.aN],rfl,rfl,e2,(),(),?_,λRr hR=>?_⟩
 .rw[eW,Int.toNat_natCast,sizeLine_eq];simp only[length_cons,length_nil];lia
 rw[eW,Int.toNat_natCast,mP];have nR1:H1 Rr=none:=s2.free hR;have s3:=aF hR (.lst (replicate W (.ref Z.aN)));have e3:upd H2 Rr (.lst (replicate W (.ref Z.aN))) Rr=some (.lst (replicate W (.ref Z.aN))):=aB;generalize upd H2 Rr (.lst (replicate W (.ref Z.aN)))=H3 at s3 e3 ⊢;have s13:=s2.trans s3;have s03:=s1.trans s13;obtain⟨dn,hn⟩:=(NB.nt.same s03).ob;refine⟨_,rfl,n,dn,_,rfl,hn,cI _ _ ∅ ∅,n,l,_,ds,rfl,NB.nt.same s03,(),λra xs H4 s4 na ea Rb=>?_⟩;have lxs:=Rb.length;refine⟨_,rfl,(k:Int),rfl,ra,xs,rfl,SqL.of ea,λS hS=>?_⟩;rw[Gc];have s5:=aF hS (.lst (xs.take k));have e5:upd H4 S (.lst (xs.take k)) S=some (.lst (xs.take k)):=aB;generalize upd H4 S (.lst (xs.take k))=H5 at s5 e5 ⊢;refine⟨S,rfl,⟨_,SqL.of e5⟩,λC0 hC0=>?_⟩;have sC0:=aF hC0 (.lst []);refine fC (xs:=xs.take k) (λi zs H'=>aV H5 H'/\H' C0=some (.lst zs)/\zs.length=bO (ds.take i)) ⟨sC0,aB,rfl⟩ (λi zs H' h=>h.2.1) (λi zs H' _ h=>h.1.seq (SqL.of e5)) ?_ ?_
 .rintro i zs x H6 hx ⟨s6,e6,lz⟩ C hC;have hi:i < ds.length:=by
   have:=(List.getElem?_eq_some_iff.mp hx).1;rw[length_take] at this;lia
  have ik:i < k:=by
   have:=(List.getElem?_eq_some_iff.mp hx).1;rw[length_take] at this;lia
  rw[getElem?_take_of_lt ik] at hx;obtain⟨⟨k0,u,v,p⟩,hd⟩:∃d,ds[i]?=some d:=⟨_,getElem?_eq_getElem hi⟩
  obtain⟨y,z,ey,rw,fz⟩:=Rb.at hd;have ex:x=.ref y:=by rw[ey] at hx;exact(Option.some.inj hx).symm
  subst ex;obtain⟨dr,hy⟩:=id (rw.same (s5.trans s6));have et:ds.take (i+1)=ds.take i++[(k0,u,v,p)]:=by rw[take_add_one,hd];rfl
  have lh:=Ii (ds:=ds) i;have lh2:bO ds<=ds.length:=length_filter_le _ _;refine⟨fR.1,fR.2,?_⟩;refine⟨_,rfl,k0,y,dr,_,rfl,hy,(cT _ _ _ ∅ ∅ ∅),_,rfl,rfl,_,rfl,?_⟩
  by_cases hk:k0=.ho
  .refine L2.ifT (by show decide (V.str k0.wd=V.str Kd.ho.wd)=true;rw[dF];exact decide_eq_true hk) ⟨_,rfl,e6,bK (),hC _ _ ⟨s6.change hC0,aB,?_⟩⟩;rw[et,fZ,List.length_append,lz];show _+1=_+bY k0;unfold bY;rw[if_pos hk]
  .refine L2.ifF (by show decide (V.str k0.wd=V.str Kd.ho.wd)=false;rw[dF];exact decide_eq_false hk) (hC _ _ ⟨s6,e6,?_⟩);rw[et,fZ,lz];show _=_+bY k0;unfold bY;rw[if_neg hk];rfl
 .rintro zs H6 ⟨s6,e6,lz⟩;have lz:zs.length=bO (ds.take k):=by rw[lz,length_take,show min k xs.length=k by lia]
  have s36:=s4.trans (s5.trans s6);have s06:=s03.trans s36;obtain⟨dn6,hn6⟩:=(NB.nt.same s06).ob;obtain⟨ix,hix⟩:∃ix,ix=m - 1+bO (ds.take k):=⟨_,rfl⟩
  have ixW:ix < W:=by unfold wd at hW;lia
  have eR6:=s36 _ _ e3;have eix:(m:Int) - 1+(zs.length:Int)=(ix:Int):=by lia
  refine⟨_,rfl,_,rfl,n,dn6,_,rfl,hn6,cI _ _ ∅ ∅,n,l,_,ds,rfl,NB.nt.same s06,_,_,rfl,rfl,_,rfl,C0,zs,rfl,.inl (SqL.of e6),_,_,rfl,rfl,?_⟩;refine⟨Rr,_,(ix:Int),ix,rfl,congrArg V.int eix,eR6,kW (by rw[length_replicate];exact ixW),?_⟩;have s17:aV H1 (upd H6 Rr (.lst ((replicate W (V.ref Z.aN)).set ix (.ref Z.aO)))):=(s13.trans s36).change nR1;have F6:Fqs Z.K H6 ((replicate W (V.ref Z.aN)).set ix (.ref Z.aO)) ((replicate W (0,1)).set ix (1,1)):=Fqs.set (fO _) ix (lT (fN _) W);have F7:=Fqs.upd (o:=.lst ((replicate W (V.ref Z.aN)).set ix (.ref Z.aO))) eR6 F6;have e7:upd H6 Rr (.lst ((replicate W (V.ref Z.aN)).set ix (.ref Z.aO))) Rr=some (.lst ((replicate W (V.ref Z.aN)).set ix (.ref Z.aO))):=aB;generalize upd H6 Rr (.lst ((replicate W (V.ref Z.aN)).set ix (.ref Z.aO)))=H7 at s17 F7 e7 ⊢;have s07:=s1.trans s17;refine⟨_,rfl,_,rfl,_,rfl,n,l,p,Rr,p,H,m,b,_,L,ds,us,_,X,Y,(replicate W (0,1)).set ix (1,1),rfl,NB.nt.same s07,SqL.of (s17 _ _ ep),(tX FM (λx hx=>(nx x hx).1)).same s17,EO,EB,SqL.of e7,F7,by rw[length_set,length_replicate,lX,hW],λpq hpq=>?_,λt zs ps H8 nt8 s8 e8 F8 SU OV=>?_⟩
  .rcases mem_or_eq_of_mem_set hpq with z | z
   .rw[eq_of_mem_replicate z];exact⟨⟨∅,∅⟩,rfl,∅⟩
   .rw[z];exact⟨hJ,rfl,∅⟩
  .have lps:ps.length=X.length:=SU.len;have lm:m - 1<=ps.length:=by rw[lps,lX];unfold wd;lia
   refine q t zs (lvS m ps) (uP ps) H8 (s07.free nt8) (s07.trans s8) e8 F8 (oF mo lm) (nH SU.low) (Am OV) (EqB.sol EO SU λi hi=>?_) (λk hk=>nY lm hk);unfold un;rw[getD_eq_getElem?_getD,getElem?_set]
   by_cases c:ix=i
   .rw[if_pos c,if_pos (by rw[length_replicate];exact ixW),if_pos ()];exact Mq.vY
   .rw[if_neg c,if_neg (),getElem?_replicate,if_pos ()];exact tJ
theorem X5:dE Z.K Z.c_Net "count" Z.f58:=⟨a58_0,i58,F58.kp⟩
theorem X6:D9 Z.P Z.w Z.K Z.mg ZB 3 Z.f26 Z.d26 ["k","count"] qc5 "refuse_number":=⟨qm0 R26,b26,F26.kp,m26⟩
theorem Y62:DZ 9 Z.f62 Z.d62 ["net","k"] (uX Z.c_Net Z.K) "shape_of":=by
 refine⟨?_,F62.b2 _ _ (by intros;rfl),F62.kp,m62⟩
 refine F62.ok9 Jr λcdv A outer s H vs Q E hr h=>?_;obtain⟨n,l,m,b,kb,L,ds,k,⟨kd,u,v,p⟩,rfl,NB,hk,q⟩:=h;have r1:=hr.mono (show 1<=8 by lia);have r3:=hr.mono (show 3<=8 by lia);have r4:=hr.mono (show 4<=8 by lia);have r7:=hr.mono (show 7<=8 by lia);refine⟨_,(aD (bZ (d9 X6 r3 rfl (aA (pv 1) (aA (bN (pv 0) NTx.cl X5 R58 r1 b58 .nil aK) aC))))
  (aD (bZ (d9 Y52 r7 rfl (aA (pv 0) aC)))
  (aD (qQ0 (i:=2) Jr.nd (aW cA (bN (pv 0) NTx.cl X4 R32 r4 b32 .nil aK) (pv 1) (λ_ _=>rfl)))
  (aD (cC (bA eQ (eJ (pv 2) T.cl mW GW r1 bW .nil aK) bV (bC _)) (aG (aT (d9 Y61 hr rfl (aA (pv 0) (aA (pv 1) aC))))) bF)
  (aG (aT (d9 Y60 hr rfl (aA (pv 0) (aA (bX (pv 2) rfl) (aA (bX (pv 2) rfl) aC)))))))))),?_⟩
 have EB:=NB.eb;have mo:=EB.o.m1;have m20:=NB.m20;have h40:=NB.h40;have hkl:=(List.getElem?_eq_some_iff.mp hk).1;obtain⟨u0,u1,v0,v1⟩:dD (m:Int) u v:=EB.o.pt _ (mem_of_getElem? hk);obtain⟨uN,rfl⟩:∃uN:Nat,u=(uN:Int):=⟨u.toNat,()⟩
 obtain⟨vN,rfl⟩:∃vN:Nat,v=(vN:Int):=⟨v.toNat,()⟩
 obtain⟨dn,hn⟩:=NB.nt.ob;refine⟨_,rfl,_,rfl,n,dn,_,rfl,hn,cI _ _ ∅ ∅,n,l,_,ds,rfl,NB.nt,(k:Int),(ds.length:Int),rfl,(),(),?_⟩;refine⟨_,rfl,n,l,m,ds,rfl,NB.nt,EB.o.pt,mo,m20,NB.h40,iG oK EB.o.pt m20 EB.o.fr _ (Nat.le_refl _),oO EB.o,λH1 s1=>?_⟩;obtain⟨dn1,hn1⟩:=(NB.nt.same s1).ob;refine⟨_,rfl,n,dn1,_,rfl,hn1,cI _ _ ∅ ∅,n,l,_,ds,rfl,NB.nt.same s1,(),λra xs H2 s2 na ea Rb=>?_⟩;have s02:=s1.trans s2;obtain⟨y,z,ey,rw,fz⟩:=Rb.at hk;refine⟨_,rfl,ra,xs,_,_,rfl,rfl,SqL.of ea,cO ey,?_⟩;obtain⟨dy,hy⟩:=rw
 by_cases hh:kd=.ho
 .refine⟨_,rfl,kd,y,dy,_,rfl,hy,(cT _ _ _ ∅ ∅ ∅),_,rfl,rfl,_,rfl,L2.ifT (by show decide (V.str kd.wd=V.str Kd.ho.wd)=true;rw[dF];exact decide_eq_true hh) ?_⟩;refine⟨_,rfl,_,rfl,n,l,m,b,kb,L,ds,k,_,rfl,NB.same s02,hk,hh,λt zs hp v H3 nt3 s3 e3 F3 lh lo OV SV hv=>?_⟩;exact q t zs hp v H3 (s02.free nt3) (s02.trans s3) e3 F3 lh lo OV (by rw[show shR m ds k (kd,(uN:Int),(vN:Int),p)=un (m+bO (ds.take k)) from funext λx=>if_pos hh];exact SV) hv
 .refine⟨_,rfl,kd,y,dy,_,rfl,hy,(cT _ _ _ ∅ ∅ ∅),_,rfl,rfl,_,rfl,L2.ifF (by show decide (V.str kd.wd=V.str Kd.ho.wd)=false;rw[dF];exact decide_eq_false hh) ?_⟩;refine⟨_,rfl,_,rfl,y,(kd3 Z.c_Piece Z.c_Push Z.c_Hold) _,_,_,_,rfl,hy,T.cl _,T.nG _,dW _ _ _,_,rfl,y,(kd3 Z.c_Piece Z.c_Push Z.c_Hold) _,_,_,_,rfl,hy,T.cl _,T.nS _,dI _ _ _,?_⟩;refine⟨n,l,m,b,kb,L,ds,vN,uN,rfl,NB.same s02,(),(),λt zs hp v H3 nt3 s3 e3 F3 lh lo OV SV hv=>?_⟩;exact q t zs hp v H3 (s02.free nt3) (s02.trans s3) e3 F3 lh lo OV (by rw[show shR m ds k (kd,(uN:Int),(vN:Int),p)=λx=>un uN x - un vN x from funext λx=>if_neg hh];exact SV) hv
theorem X7:dE Z.K Z.c_Answer "heights" Z.f55:=⟨a55_0,i55,F55.kp⟩
theorem Y63:DZ 10 Z.f63 Z.d63 ["net","answer","k","size"] (Sd Z.c_Net Z.c_Answer Z.K) "factor_of":=by
 refine⟨?_,F63.b4 _ _ _ _ (by intros;rfl),F63.kp,m63⟩
 refine F63.ok9 Dq λ_ _ _ s H _ Q E hr h=>?_;obtain⟨n,l,a,z,m,k,L,ds,⟨kd,u,v,s0⟩,p,lv,fl,rfl,nt,DW,an,av,hk,fz,sz,q⟩:=h;have r1:=hr.mono (show 1<=9 by lia);have r3:=hr.mono (show 3<=9 by lia);have r4:=hr.mono (show 4<=9 by lia);refine⟨_,(aD (qQ0 (i:=4) Dq.nd (aW cA (bN (pv 0) NTx.cl X4 R32 r4 b32 .nil aK) (pv 2) (λ_ _=>rfl)))
  (aD (cC (bA eQ (eJ (pv 4) T.cl mW GW r1 bW .nil aK) bV (bC _)) (aG (aT (aH Y5.G r3 rfl m5 F5.kp Y5.b .nil aK (aA (bX (pv 4) rfl) (aA (pv 3) aC))))) bF)
  (aD (cC (bA eQ (eJ (pv 4) T.cl mW GW r1 bW .nil aK) bV (bC _)) (aG (aT (aH Y5.G r3 rfl m5 F5.kp Y5.b .nil aK (aA (pv 3) (aA (bX (pv 4) rfl) aC))))) bF)
  (aD (qQ0 (i:=5) Dq.nd (aH Y5.G r3 rfl m5 F5.kp Y5.b .nil aK (aA (aH Y7.G r3 rfl m7 F7.kp Y7.b .nil aK (aA (cQ (v:=.ref Z.aO) rfl mv_ONE rfl) (aA (pv 3) aC))) (aA (aH Y7.G r3 rfl m7 F7.kp Y7.b .nil aK (aA (cQ (v:=.ref Z.aO) rfl mv_ONE rfl) (aA (bX (pv 4) rfl) aC))) aC))))
  (aD (qQ0 (i:=6) Dq.nd (aH Y33.G r4 rfl m33 F33.kp Y33.b .nil aK (aA (pv 4) (aA (bN (pv 1) ABx.cl X7 R55 r1 b55 .nil aK) aC))))
  (aD (qQ0 (i:=7) Dq.nd (aH Y33.G r4 rfl m33 F33.kp Y33.b .nil aK (aA (pv 4) (aA (aH Y62.G hr rfl m62 F62.kp Y62.b .nil aK (aA (pv 0) (aA (pv 2) aC))) aC))))
  (aG (aT (aH Y7.G r3 rfl m7 F7.kp Y7.b .nil aK (aA (aH Y5.G r3 rfl m5 F5.kp Y5.b .nil aK (aA (cQ (v:=.ref Z.aN) rfl mv_NOUGHT rfl) (aA (aH Y8.G r3 rfl m8 F8.kp Y8.b .nil aK (aA (pv 5) (aA (pv 6) aC))) aC))) (aA (aH Y6.G r3 rfl m6 F6.kp Y6.b .nil aK (aA (cQ (v:=.ref Z.aO) rfl mv_ONE rfl) (aA (aH Y8.G r3 rfl m8 F8.kp Y8.b .nil aK (aA (pv 5) (aA (pv 7) aC))) aC))) aC))))))))))),?_⟩
 have o:=DW.o;have m8:=DW.m5;have md:=mem_of_getElem? hk;obtain⟨ro,so⟩:=DW.ok _ md;have ls:Low s0:=so.lo;have bs:Bd 31 s0:=so.bd;have sz':SzW L kd p:=sz;obtain⟨u0,u1,v0,v1⟩:dD (m:Int) u v:=o.pt _ md;obtain⟨dn,hn⟩:=nt.ob;have len:=DW.len;refine⟨_,rfl,n,dn,_,rfl,hn,cI _ _ ∅ ∅,n,l,_,ds,rfl,nt,(),λra xs H1 s1 na ea Rb=>?_⟩;obtain⟨y,zs,ey,rw,fzs⟩:=Rb.at hk;refine⟨_,rfl,ra,xs,_,_,rfl,rfl,SqL.of ea,cO ey,?_⟩;have rw0:=rw;obtain⟨dy,hy⟩:=rw;have fz1:=s1.fq fz
 by_cases hp:kd=.pu
 .refine⟨_,rfl,kd,y,dy,_,rfl,hy,(cT _ _ _ ∅ ∅ ∅),_,rfl,rfl,_,rfl,L2.ifT (by show decide (V.str kd.wd=V.str Kd.pu.wd)=true;rw[dF];exact decide_eq_true hp) ?_⟩;refine⟨_,rfl,y,(kd3 Z.c_Piece Z.c_Push Z.c_Hold) _,_,_,_,rfl,hy,T.cl _,T.nZ _,eU _ _ _,_,rfl,zs,z,s0,p,31,31,rfl,fzs,fz1,ls.pos,sz'.lo.pos,bs,sz'.bd,(),λr H2 s2 e2=>?_⟩;exact q r _ H2 (s1.trans s2) (Fq.of e2) ⟨gO ls.pos sz'.lo.pos,(kG bs sz'.bd ls.pos sz'.lo.pos).mono ∅,λvv ss _ _=>by subst hp;exact iF ls.pos sz'.lo.pos⟩
 refine⟨_,rfl,kd,y,dy,_,rfl,hy,(cT _ _ _ ∅ ∅ ∅),_,rfl,rfl,_,rfl,L2.ifF (by show decide (V.str kd.wd=V.str Kd.pu.wd)=false;rw[dF];exact decide_eq_false hp) ?_⟩
 by_cases hh:kd=.ho
 .refine⟨_,rfl,kd,y,dy,_,rfl,hy,(cT _ _ _ ∅ ∅ ∅),_,rfl,rfl,_,rfl,L2.ifT (by show decide (V.str kd.wd=V.str Kd.ho.wd)=true;rw[dF];exact decide_eq_true hh) ?_⟩;refine⟨_,rfl,_,rfl,y,(kd3 Z.c_Piece Z.c_Push Z.c_Hold) _,_,_,_,rfl,hy,T.cl _,T.nZ _,eU _ _ _,z,zs,p,s0,31,31,rfl,fz1,fzs,sz'.lo.pos,ls.pos,sz'.bd,bs,(),λr H2 s2 e2=>?_⟩;exact q r _ H2 (s1.trans s2) (Fq.of e2) ⟨gO sz'.lo.pos ls.pos,(kG sz'.bd bs sz'.lo.pos ls.pos).mono ∅,λvv ss _ _=>by subst hh;exact iF sz'.lo.pos ls.pos⟩
 refine⟨_,rfl,kd,y,dy,_,rfl,hy,(cT _ _ _ ∅ ∅ ∅),_,rfl,rfl,_,rfl,L2.ifF (by show decide (V.str kd.wd=V.str Kd.ho.wd)=false;rw[dF];exact decide_eq_false hh) ?_⟩;have hc:kd=.pc:=by cases kd<;>first | rfl | exact absurd rfl hp | exact absurd rfl hh
 subst hc;obtain⟨p0,_,_⟩:=sz'.pc rfl;obtain⟨q0,_,_⟩:0 < s0.1/\s0.1 ∣ L/\s0.2.natAbs<=128:=so.pc rfl;have l11:(1:Int)<=((1,1):Q2).2:=by show (1:Int)<=1;decide
 refine⟨_,rfl,Z.aO,z,(1,1),p,1,31,rfl,fO _,fz1,l11,sz'.lo.pos,p0,Nk,sz'.bd,(),λw1 H2 s2 e2=>?_⟩;refine⟨_,rfl,y,(kd3 Z.c_Piece Z.c_Push Z.c_Hold) _,_,_,_,rfl,s2 _ _ hy,T.cl _,T.nZ _,eU _ _ _,Z.aO,zs,(1,1),s0,1,31,rfl,fO _,s2.fq fzs,l11,ls.pos,q0,Nk,bs,(),λw2 H3 s3 e3=>?_⟩;have lo1:=qI (p:=(1,1)) (q:=p) l11 ();have lo2:=qI (p:=(1,1)) (q:=s0) l11 ();have bo1:=uO (n:=1) (m:=31) (p:=(1,1)) (q:=p) Nk sz'.bd l11 ();have bo2:=uO (n:=1) (m:=31) (p:=(1,1)) (q:=s0) Nk bs l11 ();have vo1:=qD (p:=(1,1)) (q:=p) l11 sz'.lo.pos ();have vo2:=qD (p:=(1,1)) (q:=s0) l11 ls.pos ();rw[vY] at vo1 vo2;have fw1:Fq Z.K H2 w1 (lH (1,1) p):=Fq.of e2;have fw2:Fq Z.K H3 w2 (lH (1,1) s0):=Fq.of e3;generalize gO1:lH (1,1) p=O1 at lo1 bo1 vo1 fw1;generalize gO2:lH (1,1) s0=O2 at lo2 bo2 vo2 fw2;refine⟨w1,w2,O1,O2,32,32,rfl,s3.fq fw1,fw2,lo1.pos,lo2.pos,bo1,bo2,(),λw3 H4 s4 e4=>?_⟩;have lM:=gO lo1.pos lo2.pos;have bM:=kG bo1 bo2 lo1.pos lo2.pos;have vM:=iF lo1.pos lo2.pos;rw[vo1,vo2] at vM;have fM:Fq Z.K H4 w3 (Mq.minus O1 O2):=Fq.of e4;generalize gM:Mq.minus O1 O2=M at lM bM vM fM;have s24:=s2.trans (s3.trans s4);have s04:=s1.trans s24;obtain⟨ps,elv,_,lps,lops,OV,SVl⟩:=av.e;have bwl:=DW.bwle;have m5:=o.m1;have wl:wd m ds=m - 1+bO ds:=rfl;have lvl:lv.length=m:=by rw[elv];exact oF m5 ()
 have lvo:eI lv:=by rw[elv];exact nH lops
 have OVl:Ovr (bw 190 (wd m ds)) lv:=by rw[elv];exact Am OV
 have b39:=Gh OVl lvo ();have flk:∀{hp:List Q2},hp.length=m->eI hp->Ovr (bw 190 (wd m ds)) hp->Low (flF hp (.pc,u,v,s0))/\Bd 1764 (flF hp (.pc,u,v,s0))/\Mq.val (flF hp (.pc,u,v,s0))=Mq.val (hp.getD u.toNat (0,1)) - Mq.val (hp.getD v.toNat (0,1)):=λ{hp} lh lo OV=>by
  have m5:=mem_of_getElem? (xY (ps:=hp) (j:=u.toNat) ());have m7:=mem_of_getElem? (xY (ps:=hp) (j:=v.toNat) ());obtain⟨Y5.b,_,_⟩:=Ovr.minus OV lo m5 m7;exact⟨gO (lo _ m5).pos (lo _ m7).pos,Y5.b.mono (),iF (lo _ m5).pos (lo _ m7).pos⟩
 obtain⟨dxa,li,le,fo,_,_,ha,_⟩:=(an.same s04).e;refine⟨_,rfl,_,rfl,a,dxa,_,rfl,ha,gS _ _ _ ∅ ∅ ∅,a,lv,fl,rfl,an.same s04,λlh xh H5 s5 nlh elh Fh=>?_⟩;refine⟨y,lh,(.pc,u,v,s0),_,xh,lv,m,rfl,⟨dy,(s24.trans s5) _ _ hy⟩,⟨SqL.of elh,Fh,lvl,b39⟩,⟨u0,u1,v0,v1⟩,λf1 H6 s6 e6=>?_⟩;have ff1:Fq Z.K H6 f1 (flF lv (.pc,u,v,s0)):=Fq.of e6;obtain⟨lf1,bf1,vf1⟩:=flk lvl lvo OVl;rw[elv,nY () (),nY () ()] at vf1;rw[<- elv] at vf1;generalize gf1:flF lv (.pc,u,v,s0)=f1q at ff1 lf1 bf1 vf1;have s46:=s5.trans s6;have s06:=s04.trans s46;refine⟨_,rfl,_,rfl,_,rfl,n,l,m,190,_,L,ds,k,_,rfl,DW.net (nt.same s06),hk,λt7 zs7 hp7 vv H7 nt7 s7 e7 F7 lh7 lo7 OV7 SV7 hv7=>?_⟩;refine⟨y,t7,(.pc,u,v,s0),_,zs7,hp7,m,rfl,⟨dy,(s24.trans (s46.trans s7)) _ _ hy⟩,⟨SqL.of e7,F7,lh7,Gh OV7 lo7 ()⟩,⟨u0,u1,v0,v1⟩,λf2 H8 s8 e8=>?_⟩;have ff2:Fq Z.K H8 f2 (flF hp7 (.pc,u,v,s0)):=Fq.of e8;obtain⟨lf2,bf2,vf2⟩:=flk lh7 lo7 OV7;rw[hv7 _ (),hv7 _ ()] at vf2;generalize gf2:flF hp7 (.pc,u,v,s0)=f2q at ff2 lf2 bf2 vf2;have s68:=s7.trans s8;have s48:=s46.trans s68;refine⟨_,rfl,_,rfl,w3,f1,M,f1q,65,1764,rfl,s48.fq fM,s68.fq ff1,lM.pos,lf1.pos,bM,bf1,(),λg1 H9 s9 e9=>?_⟩;have lt1:=oA lM.pos lf1.pos;have bt1:=vT bM bf1 lM.pos lf1.pos;have vt1:=rQ lM.pos lf1.pos;have fg1:Fq Z.K H9 g1 (jB M f1q):=Fq.of e9;generalize gt1:jB M f1q=t1q at lt1 bt1 vt1 fg1;have b01:Bd 1 (0,1):=qn1 (n:=0);have l01:(1:Int)<=((0,1):Q2).2:=by show (1:Int)<=1;decide
 refine⟨Z.aN,g1,(0,1),t1q,1,1829,rfl,fN _,fg1,l01,lt1.pos,b01,bt1,(),λg2 HA sA eA=>?_⟩;have lt2:=gO (p:=(0,1)) (q:=t1q) l01 lt1.pos;have bt2:=kG (n:=1) (m:=1829) (p:=(0,1)) (q:=t1q) b01 bt1 l01 lt1.pos;have vt2:=iF (p:=(0,1)) (q:=t1q) l01 lt1.pos;rw[tJ] at vt2;have fg2:Fq Z.K HA g2 (Mq.minus (0,1) t1q):=Fq.of eA;generalize gt2:Mq.minus (0,1) t1q=t2q at lt2 bt2 vt2 fg2;have s8A:=s9.trans sA;refine⟨_,rfl,_,rfl,w3,f2,M,f2q,65,1764,rfl,(s48.trans s8A).fq fM,s8A.fq ff2,lM.pos,lf2.pos,bM,bf2,(),λg3 HB sB eB=>?_⟩;have lt3:=oA lM.pos lf2.pos;have bt3:=vT bM bf2 lM.pos lf2.pos;have vt3:=rQ lM.pos lf2.pos;have fg3:Fq Z.K HB g3 (jB M f2q):=Fq.of eB;generalize gt3:jB M f2q=t3q at lt3 bt3 vt3 fg3;refine⟨Z.aO,g3,(1,1),t3q,1,1829,rfl,fO _,fg3,l11,lt3.pos,Nk,bt3,(),λg4 HC sC eC=>?_⟩;have lt4:=rB (p:=(1,1)) (q:=t3q) l11 lt3.pos;have bt4:=Bm (n:=1) (m:=1829) (p:=(1,1)) (q:=t3q) Nk bt3 l11 lt3.pos;have vt4:=qO (p:=(1,1)) (q:=t3q) l11 lt3.pos;have fg4:Fq Z.K HC g4 (kT (1,1) t3q):=Fq.of eC;generalize gt4:kT (1,1) t3q=t4q at lt4 bt4 vt4 fg4;have po:=Xr o hk rfl SV7 (Va sz'.lo.pos p0);rw[vY,vt3,vM,vf2] at vt4;rw[vt1,vM,vf1] at vt2;have vt5:0 < Mq.val t4q:=by
  rw[vt4];exact po
 refine⟨g2,g4,t2q,t4q,1831,1831,rfl,(sB.trans sC).fq fg2,fg4,lt2.pos,lt4.pos,Qu lt4.pos vt5,bt2,bt4,(),λr HD sD eD=>?_⟩;have t40:t4q.1≠0:=by have:=Qu lt4.pos vt5;lia
 refine q r _ HD (s04.trans (s48.trans (s8A.trans (sB.trans (sC.trans sD))))) (Fq.of eD) ⟨qI lt2.pos t40,(uO bt2 bt4 lt2.pos t40).mono ∅,λv9 s9' hv9 hs9=>?_⟩;have vq:=qD lt2.pos lt4.pos t40;have wl2:u.toNat<=wd m ds/\v.toNat<=wd m ds:=by lia
 have a1:=Sv.uni o hv9 SVl u.toNat wl2.1;have a2:=Sv.uni o hv9 SVl v.toNat wl2.2;have a3:=Sv.uni o hs9 SV7 u.toNat wl2.1;have a4:=Sv.uni o hs9 SV7 v.toNat wl2.2;show Mq.val (lH t2q t4q)*(1+(1 / Mq.val p - 1 / Mq.val s0)*(s9' u.toNat - s9' v.toNat))=- ((1 / Mq.val p - 1 / Mq.val s0)*(v9 u.toNat - v9 v.toNat));rw[a1,a2,a3,a4];have key:Mq.val t4q=1+(1 / Mq.val p - 1 / Mq.val s0)*(vv u.toNat - vv v.toNat):=vt4;rw[<- key];refine qu4 vt5 ?_;rw[vq,vt2];congr 1;grind
theorem X8:dE Z.K Z.c_Net "copy" Z.f57:=⟨a57_0,i57,F57.kp⟩
theorem R64:FZ CX0 10 Z.f64 Z.d64 ["self","net"] (Ft Z.c_Net Z.c_Answer Z.c_Watch Z.K):=by
 refine F64.ok9 qa5 λ_ _ _ s H _ Q E hr h=>?_;obtain⟨x,dx,n,l,m,L,ds,rfl,hx,nt,DW,q⟩:=h;have r4:=hr.mono (show 4<=9 by lia);have r9:=hr;refine⟨_,(aD (iC (pv 0) (gN MA R54 r9 rfl ABx.mA b54 .nil aK (aA (pv 1) aC)) rfl)
  (aG (iC (pv 0) (bN (pv 1) NTx.cl X8 R57 r4 b57 .nil aK) rfl))),?_⟩
 have o:=DW.o;have m5:=DW.m5;have m1:=o.m1;refine⟨_,rfl,λxa dxa hx0 hdx nxd=>?_⟩;have sm:=jQ (C:=Z.c_Answer) hx0 hdx;refine⟨xa,dxa,n,l,m,190,_,L,ds,rfl,aB,DW.net (nt.same sm),Nat.le_trans DW.bwle ∅,DW.eR,iG oK o.pt () o.fr _ (Nat.le_refl _),oO o,λps H2 sx2 an lps lo OV SV LE=>⟨rfl,?_⟩⟩;have s2:=kH hx0 hdx sx2;obtain⟨dxa',li,le,fo,xs,ys,ha,hle,Fle,hfo,Ffo,nw⟩:=an.e;have hx2:=s2 _ _ hx;have nxa:xa≠x:=Ne.symm (aQ hx hx0);refine⟨_,rfl,x,Z.c_Watch,dx,[],rfl,hx2,WBx.cl,WBx.nC,by show 0 < 1000;decide,?_⟩;have x3:bG x H2 (upd H2 x (.ins Z.c_Watch dx (cP "current" (.ref xa) []))):=λb o h nb=>by rw[aX nb];exact h
 have hx3:upd H2 x (.ins Z.c_Watch dx (cP "current" (.ref xa) [])) x=some (.ins Z.c_Watch dx [(("current":Str),V.ref xa)]):=by rw[aB,Zl]
 try dsimp only
 generalize upd H2 x (.ins Z.c_Watch dx (cP "current" (.ref xa) []))=H3 at x3 hx3 ⊢;have nx:n≠x:=λz=>by
  obtain⟨dn,a⟩:=nt.ob;rw[z,hx] at a;injection a with a
  injection a with _ _ a
  unfold gP at a;have:=bH ("kept":Str) "kept" (.ref l) (cP "point_count" (.int (m:Int)) []);rw[<- a,if_pos rfl] at this
  cases this
 have nt3:dG Z.c_Net Z.K H3 n l (m:Int) ds:=by
  obtain⟨⟨dn,hn⟩,ts,hl,hR⟩:=nt.same s2;exact⟨⟨dn,x3 _ _ hn nx⟩,ts,x3 _ _ hl (cZ hl hx2 (λz=>by cases z)),Ap hx2 x3 hR⟩
 obtain⟨dn,hn3⟩:=nt3.ob;refine⟨_,rfl,n,dn,_,rfl,hn3,cI _ _ ∅ ∅,n,l,_,ds,rfl,nt3,(),(),λn1 l1 H4 s4 nn1 nl1 nt4=>?_⟩;have hx4:=s4 _ _ hx3;refine⟨_,rfl,x,Z.c_Watch,dx,_,rfl,hx4,WBx.cl,WBx.nF,by show 1 < 1000;decide,?_⟩;have x5:bG x H4 (upd H4 x (.ins Z.c_Watch dx (cP "followed" (.ref n1) [(("current":Str),V.ref xa)]))):=λb o h nb=>by rw[aX nb];exact h
 have hx5:upd H4 x (.ins Z.c_Watch dx (cP "followed" (.ref n1) [(("current":Str),V.ref xa)])) x=some (.ins Z.c_Watch dx (fU xa n1)):=by rw[aB,Zo]
 show Q .non (upd H4 x (.ins Z.c_Watch dx (cP "followed" (.ref n1) [(("current":Str),V.ref xa)])));generalize upd H4 x (.ins Z.c_Watch dx (cP "followed" (.ref n1) [(("current":Str),V.ref xa)]))=H5 at x5 hx5 ⊢;have sx25:bG x H2 H5:=x3.trans (s4.x.trans x5);have nn1x:n1≠x:=Ne.symm (aQ hx3 nn1);obtain⟨⟨dn1,hn1⟩,ts1,hl1,hR1⟩:=nt4;have h03:∀{y:Addr} {o:HO},H y=some o->∃o',H3 y=some o':=λ{y o} ho=>by
  by_cases c:y=x
  .rw[c];exact⟨_,hx3⟩
  .exact⟨o,x3 _ _ (s2 _ _ ho) c⟩
 refine q H5 (λb o h nb=>sx25 b o (s2 b o h) nb) (Tw hx2 sx25 hx5 nxa ha hle Fle hfo Ffo ⟨ps,rfl,rfl,lps,lo,OV,SV⟩ nn1x (x5 _ _ hn1 nn1x) (x5 _ _ hl1 (cZ hl1 hx4 (λz=>by cases z))) (Ap hx4 x5 hR1) λy oy hy=>?_) (λX hX=>⟨dx,xa,n1,hx5,nxa,LnX.xI hx2 sx25 nxa (LE X λy hy=>let ⟨o,ho⟩:=hX y hy;⟨aQ ho hx0,o,sm _ _ ho⟩)⟩);obtain⟨o3,h3⟩:=h03 hy;have nya:y≠xa:=aQ hy hx0;obtain⟨c1,c2⟩:=nw y oy (sm _ _ hy) nya;exact⟨Ne.symm nya,c1,c2,Ne.symm (aQ h3 nn1),Ne.symm (aQ h3 nl1)⟩
theorem X9:dE Z.K Z.c_Net "change" Z.f31:=⟨a31_0,i31,F31.kp⟩
theorem R65:FZ (CX1 Z.P Z.w) 11 Z.f65 Z.d65 ["self","k","size"] (Co Z.c_Net Z.c_Answer Z.c_Watch Z.c_NoRow Z.c_NoSize Z.K):=by
 refine F65.okX Ho (λvs H Q E h=>?_) λcdv A outer s H vs Q E hr h=>?_
 .obtain⟨_,_,_,_,_,_,_,_,rfl,_⟩:=h;rfl
 obtain⟨x,v,zv,m,L,ds,o9,oz,rfl,WA,DW,hp,hz,hb,qR,q⟩:=h;have r4:=hr.mono (show 4<=10 by lia);have r5:=hr.mono (show 5<=10 by lia);have r9:=hr.mono (show 9<=10 by lia);refine⟨_,(aD (qQ0 (i:=3) Ho.nd (bN (bX (pv 0) rfl) NTx.cl X8 R57 r4 b57 .nil aK))
  (aD (bZ (uS (pv 3) NTx.cl X9 R31 r5 b31 .nil (rO jA oH) (aA (pv 1) (aA (pv 2) aC))))
  (aD (qQ0 (i:=4) Ho.nd (aH Y63.G hr rfl m63 F63.kp Y63.b .nil aK (aA (bX (pv 0) rfl) (aA (bX (pv 0) rfl) (aA (pv 1) (aA (pv 2) aC))))))
  (aD (iC (pv 0) (gN MA R54 r9 rfl ABx.mA b54 .nil aK (aA (pv 3) aC)) rfl)
  (aD (iC (pv 0) (pv 3) rfl)
  (aG (aT (pv 4)))))))),?_⟩
 have o:=DW.o;have m5:=DW.m5;have m63:=o.m1;obtain⟨dx,a,n,l,dxa,li,le,fo,dn,xs,ys,ts,lv,fl,hw,ha,hle,Fle,hfo,Ffo,AV,hn,hl,hRt,naw,nnw,_⟩:=WA.e;refine⟨_,rfl,x,Z.c_Watch,_,_,_,rfl,hw,WBx.cl,WBx.nF,Bf _ _,n,dn,_,rfl,hn,cI _ _ ∅ ∅,n,l,_,ds,rfl,⟨⟨dn,hn⟩,ts,hl,hRt⟩,(),(),λn1 l1 H1 s1 nn1 nl1 nt1=>?_⟩;obtain⟨dn1,hn1⟩:=nt1.ob;refine⟨_,rfl,n1,dn1,_,rfl,hn1,cI _ _ ∅ ∅,_,rfl,_,rfl,n1,l1,(m:Int),ds,v,zv,o9,oz,rfl,nt1,hp.same s1,hz.same s1,hb,λe=>qR e _ s1,λk' d ek hk=>?_⟩;obtain⟨k,rfl⟩:∃k:Nat,k'=(k:Int):=by
  cases hp with
  |no _=>cases ek
  |ty _ _=>cases ek
  |ok a b=>cases ek;exact⟨k'.toNat,()⟩
 rw[Int.toNat_natCast] at hk;obtain⟨qZ,qG⟩:=q k d ek hk;refine⟨λe=>qZ e _ s1,λp ez eo H2 sx2 nt2=>?_⟩;obtain⟨sz,q9⟩:=qG p ez eo;subst ez
 cases hz with
 | @fr z _ fz lp=>
 have vk:v=.int (k:Int):=by
  cases hp with
  |no _=>cases ek
  |ty _ _=>cases ek
  |ok a b=>cases ek;rfl
 subst vk;have DW':=DW.set hk sz;have o':=DW'.o;rw[Int.toNat_natCast,<- rW hk] at nt2;have s2:aV H H2:=λb ob h=>sx2 b ob (s1 b ob h) (aQ h nl1);have hw2:=s2 _ _ hw;refine⟨_,rfl,x,Z.c_Watch,_,_,_,rfl,hw2,WBx.cl,WBx.nF,Bf _ _,_,rfl,x,Z.c_Watch,_,_,_,rfl,hw2,WBx.cl,WBx.nC,vA _ _,_,rfl,_,rfl,n,l,a,z,m,k,L,ds,d,p,lv,fl,rfl,⟨⟨dn,s2 _ _ hn⟩,ts,s2 _ _ hl,hRt.same s2⟩,DW,⟨dxa,li,le,fo,xs,ys,s2 _ _ ha,SqL.of (s2 _ _ hle),Fle.same s2,SqL.of (s2 _ _ hfo),Ffo.same s2⟩,AV,hk,s2.fq fz,sz,λrf qf H3 s3 frf eqf=>?_⟩;have s03:=s2.trans s3;have hw3:=s03 _ _ hw;have nt3:=nt2.same s3
 try dsimp only
 refine⟨_,rfl,λxa dxa' hx0 hdx nxd=>?_⟩;have sm:=jQ (C:=Z.c_Answer) hx0 hdx;refine⟨xa,dxa',n1,l1,m,190,_,L,szS ds k p,rfl,aB,DW'.net (nt3.same sm),Nat.le_trans DW'.bwle ∅,DW'.eR,iG oK o'.pt () o'.fr _ (Nat.le_refl _),oO o',λps H4 sx4 an lps lo OV SV LE=>⟨rfl,?_⟩⟩;have s4:=kH hx0 hdx sx4;obtain⟨dxb,li',le',fo',xs',ys',ha',hle',Fle',hfo',Ffo',nw⟩:=an.e;have hw4:=s4 _ _ hw3;refine⟨_,rfl,x,Z.c_Watch,dx,_,rfl,hw4,WBx.cl,WBx.nC,by show 2 < 1000;decide,?_⟩;have x5:bG x H4 (upd H4 x (.ins Z.c_Watch dx (cP "current" (.ref xa) (fU a n)))):=λb o h nb=>by rw[aX nb];exact h
 have hx5:upd H4 x (.ins Z.c_Watch dx (cP "current" (.ref xa) (fU a n))) x=some (.ins Z.c_Watch dx (fU xa n)):=by rw[aB,qg2]
 show jL _ _ _ _ (upd H4 x (.ins Z.c_Watch dx (cP "current" (.ref xa) (fU a n))));generalize upd H4 x (.ins Z.c_Watch dx (cP "current" (.ref xa) (fU a n)))=H5 at x5 hx5 ⊢;refine⟨_,rfl,_,rfl,x,Z.c_Watch,dx,_,rfl,hx5,WBx.cl,WBx.nF,by show 2 < 1000;decide,?_⟩;have x6:bG x H5 (upd H5 x (.ins Z.c_Watch dx (cP "followed" (.ref n1) (fU xa n)))):=λb o h nb=>by rw[aX nb];exact h
 have hx6:upd H5 x (.ins Z.c_Watch dx (cP "followed" (.ref n1) (fU xa n))) x=some (.ins Z.c_Watch dx (fU xa n1)):=by rw[aB,qc6]
 refine⟨_,rfl,?_⟩;show Q (.ref rf) (upd H5 x (.ins Z.c_Watch dx (cP "followed" (.ref n1) (fU xa n))));generalize upd H5 x (.ins Z.c_Watch dx (cP "followed" (.ref n1) (fU xa n)))=H6 at x6 hx6 ⊢;have sx46:bG x H4 H6:=x5.trans x6;have nn1x:n1≠x:=Ne.symm (aQ hw nn1);have nxa:xa≠x:=Ne.symm (aQ hw3 hx0);obtain⟨⟨dn4,hn4⟩,ts4,hl4,hR4⟩:=nt3.same s4;refine q9 rf qf H6 (λb ob h nb=>sx46 b ob (s4 b ob (s03 b ob h)) nb) (bG.seqTI hw4 sx46 (s4.fq frf)) eqf (Tw hw4 sx46 hx6 nxa ha' hle' Fle' hfo' Ffo' ⟨ps,rfl,rfl,lps,lo,OV,SV⟩ nn1x (sx46 _ _ hn4 nn1x) (sx46 _ _ hl4 (cZ hl4 hw4 (λz=>by cases z))) (Ap hw4 sx46 hR4) λy oy hy=>?_) (λX hX=>⟨dx,xa,n1,hx6,nxa,LnX.xI hw4 sx46 nxa (LE X λy hy=>let ⟨o,ho⟩:=hX y hy;⟨aQ (s03 _ _ ho) hx0,o,sm _ _ (s03 _ _ ho)⟩)⟩);have h3:=s03 _ _ hy;have nya:y≠xa:=aQ h3 hx0;obtain⟨c1,c2⟩:=nw y oy (sm _ _ h3) nya;exact⟨Ne.symm nya,c1,c2,Ne.symm (aQ hy nn1),Ne.symm (aQ hy nl1)⟩
theorem R66:FZ CX0 2 Z.f66 Z.d66 ["self"] (Bc Z.c_Net Z.c_Answer Z.c_Watch Z.K):=by
 refine F66.ok9 qk5 λ_ _ _ s H _ Q E hr h=>?_;obtain⟨w,m,ds,rfl,WA,q⟩:=h;have r1:=hr;refine⟨_,(aG (aT (bN (bX (pv 0) rfl) ABx.cl X7 R55 r1 b55 .nil aK))),?_⟩;obtain⟨dx,a,n,l,dxa,li,le,fo,dn,xs,ys,ts,lv,fl,hw,ha,hle,Fle,hfo,Ffo,AV,hn,hl,hRt,naw,nnw,_⟩:=WA.e;refine⟨_,rfl,w,Z.c_Watch,_,_,_,rfl,hw,WBx.cl,WBx.nC,vA _ _,a,dxa,_,rfl,ha,gS _ _ _ ∅ ∅ ∅,a,lv,fl,rfl,⟨dxa,li,le,fo,xs,ys,ha,SqL.of hle,Fle,SqL.of hfo,Ffo⟩,λl1 xs1 H1 s1 n1 e1 F1=>?_⟩;exact q lv fl AV l1 xs1 H1 s1 n1 e1 F1
theorem X10:dE Z.K Z.c_Answer "streams" Z.f56:=⟨a56_0,i56,F56.kp⟩
theorem R67:FZ CX0 2 Z.f67 Z.d67 ["self"] (Hv Z.c_Net Z.c_Answer Z.c_Watch Z.K):=by
 refine F67.ok9 qh9 λ_ _ _ s H _ Q E hr h=>?_;obtain⟨w,m,ds,rfl,WA,q⟩:=h;have r1:=hr;refine⟨_,(aG (aT (bN (bX (pv 0) rfl) ABx.cl X10 R56 r1 b56 .nil aK))),?_⟩;obtain⟨dx,a,n,l,dxa,li,le,fo,dn,xs,ys,ts,lv,fl,hw,ha,hle,Fle,hfo,Ffo,AV,hn,hl,hRt,naw,nnw,_⟩:=WA.e;refine⟨_,rfl,w,Z.c_Watch,_,_,_,rfl,hw,WBx.cl,WBx.nC,vA _ _,a,dxa,_,rfl,ha,gS _ _ _ ∅ ∅ ∅,a,lv,fl,rfl,⟨dxa,li,le,fo,xs,ys,ha,SqL.of hle,Fle,SqL.of hfo,Ffo⟩,λl1 xs1 H1 s1 n1 e1 F1=>?_⟩;exact q lv fl AV l1 xs1 H1 s1 n1 e1 F1
theorem R68:FZ CX0 5 Z.f68 Z.d68 ["self"] (Gq Z.c_Net Z.c_Answer Z.c_Watch Z.K):=by
 refine F68.ok9 qj7 λ_ _ _ s H _ Q E hr h=>?_;obtain⟨w,m,ds,rfl,WA,m1,m20,q⟩:=h;have r4:=hr;refine⟨_,(aG (aT (bN (bX (pv 0) rfl) NTx.cl X8 R57 r4 b57 .nil aK))),?_⟩;obtain⟨dx,a,n,l,dxa,li,le,fo,dn,xs,ys,ts,lv,fl,hw,ha,hle,Fle,hfo,Ffo,AV,hn,hl,hRt,naw,nnw,_⟩:=WA.e;refine⟨_,rfl,w,Z.c_Watch,_,_,_,rfl,hw,WBx.cl,WBx.nF,Bf _ _,n,dn,_,rfl,hn,cI _ _ ∅ ∅,n,l,_,ds,rfl,⟨⟨dn,hn⟩,ts,hl,hRt⟩,(),(),λn1 l1 H1 s1 f1 f2 nt1=>?_⟩;exact q n1 l1 H1 s1 f1 f2 nt1
theorem Y69:DZ 3 Z.f69 Z.d69 ["matrix"] (Cv Z.K) "beside_unit":=by
 refine⟨?_,F69.b1 _ (by intros;rfl),F69.kp,m69⟩
 refine F69.ok9 vJ λ_ _ _ s H _ Q E hr h=>?_;obtain⟨g,D0,us,X,L,b,rfl,hU,hX,MX,q⟩:=h;refine⟨_,(aD (qQ0 (i:=1) vJ.nd (cD aC))
  (aD (gA PassesOwn.never rfl (uU rfl n_enumerate rfl (aA (pv 0) aC)) (kP rfl (dC (bU (i:=2) vJ.nd rfl (Or.inr rfl)) (dC (qQ1 (i:=3) vJ.nd) iO)))
   (aD (aS (i:=4) vJ.nd rfl (Or.inr rfl) (d9 Y46 hr rfl (aA (pv 3) aC)))
  (aG (bZ (mY PySem.F.plainAttrs_list PySem.F.slot_list_append PySem.F.type_list_append fD (pv 1) (aA (aY jF (aW aZ (pv 4) aE (λ_ _=>rfl)) (fV (nl:=1) (fr:=[4,2]) (Nc:=["column","whole","place"]) (cl:=[("whole",s.heap.objs.size+2),("place",s.heap.objs.size+1)]) rfl ⟨rfl,rfl,∅,∅,(dX rfl (dX rfl (oE))),fI rfl,rfl,λi n h=>match i,h with | 0,h=>by cases h;exact⟨4,rfl,rfl,rfl,rfl,.inl rfl⟩ | 1,h=>by cases h;exact⟨2,rfl,rfl,rfl,rfl,.inl rfl⟩ | k+2,h=>by rw[show 1+(k+2)=k+3 by lia] at h;cases h⟩
    (jX rfl n_range (aA (bL bQ rfl n_len PySem.boot_len (aA (pv 0) aC)) aC)) (λ_ _ _ _ _=>(qQ1 (i:=0) lF)) (λ_ _ _ _ _=>fX)
    (λ_ _ _ _ _=>(qJ (bA eQ (pv 0) (pv 2) (bC _)) (aW (uK (K:=Z.K) rfl) (pv 1) aE (λ_ _=>rfl)) aE)))) aC))))))
  (aG (aT (pv 1))))),?_⟩
 have lu:=hX.length;have xP:=MX.p;have xB:∀row∈X,(∀p∈row,Bd b p)/\row.length=X.length:=λrow h=>⟨λp hp=>((MX.c row h).1 p hp).1,(MX.c row h).2⟩
 have x4:=MX.n;have xh:∀n,n<=X.length+1->10+b+b*n<=8000:=λn h=>Nat.le_trans (Nat.add_le_add_left (Nat.mul_le_mul_left _ h) _) MX.hb;refine⟨zl9 0,λl0 hl0=>?_⟩;have s0:=aF hl0 (.lst []);have e0:upd H l0 (.lst []) l0=some (.lst []):=aB;generalize upd H l0 (.lst [])=H0 at s0 e0 ⊢;refine⟨_,rfl,g,rfl,⟨_,s0.seq hU⟩,?_⟩;refine Eo (xs:=us) (λi σ H'=>aV H H'/\∃zs z2 z3 z4,H' l0=some (.lst zs)/\Imx l0 H' zs ((gG X).take i)/\σ=[some (.ref g),some (.ref l0),z2,z3,z4]) ⟨s0,[],none,none,none,e0,.nil,rfl⟩ (λi σ H' _ h=>h.1.seq hU) ?_ ?_
 .rintro i x σ H1 T1 hx ⟨s1,zs,z2,z3,z4,e1,I1,rfl⟩ hT;obtain⟨u,ys,row,rfl,er,hu',fu⟩:=hX.get hx;have hi:i < X.length:=(List.getElem?_eq_some_iff.mp er).1;have mem:=mem_of_getElem? er;obtain⟨rb,rl⟩:=xB row mem;have sT:=aF hT (.tup [.int (i:Int),.ref u]);refine⟨T1,_,rfl,SqT.of aB,rfl,_,_,rfl,_,_,rfl,rfl,?_⟩;generalize upd H1 T1 (.tup [.int (i:Int),.ref u])=H2 at sT ⊢;have s2:=s1.trans sT;refine⟨_,rfl,u,ys,row,b,rfl,s2.seq hu',fu.same s2,xP row mem,rb,(),xh _ (),λt l H3 s3 nl ht hl=>?_⟩;have s13:=sT.trans s3;have e3:=s13 _ _ e1;refine⟨_,rfl,.inl ⟨rfl,_,SqL.of e3⟩,_,rfl,t,_,_,_,rfl,rfl,ht,rfl,_,rfl,g,us,rfl,.inl ((s1.trans s13).seq hU),(us.length:Int),rfl,(),(),λD hD=>?_⟩;rw[Int.toNat_natCast,lu];have sD:=aF hD (.lst []);have ff:∀c:Nat,((if c=i then dA row else 0:Int))=if c=i then dA row else 0:=λ_=>rfl
  refine xO (n:=X.length) (λc ws H'=>aV H3 H'/\H' D=some (.lst ws)/\ws=((List.range c).map λc=>if c=i then dA row else (0:Int)).map V.int) ⟨sD,aB,rfl⟩ (λc ws H' h=>h.2.1) ?_ ?_
  .rintro c ws H4 hc ⟨s4,e4,rfl⟩ C hC;have fin:∀z:Int,z=(if c=i then dA row else 0)->aV H3 (upd H4 D (.lst (((List.range c).map λc=>if c=i then dA row else (0:Int)).map V.int++[V.int z])))/\upd H4 D (.lst (((List.range c).map λc=>if c=i then dA row else (0:Int)).map V.int++[V.int z])) D=some (.lst (((List.range c).map λc=>if c=i then dA row else (0:Int)).map V.int++[V.int z]))/\((List.range c).map λc=>if c=i then dA row else (0:Int)).map V.int++[V.int z]=((List.range (c+1)).map λc=>if c=i then dA row else (0:Int)).map V.int:=λz hz=>⟨s4.change hD,aB,by rw[range_succ,map_append,map_append,hz];rfl⟩
   refine⟨fR.1,fR.2,gC ?_⟩;rw[Int.zero_add];refine⟨_,rfl,_,rfl,rfl,_,rfl,pC (λe=>?_) (λe=>?_)⟩
   .refine⟨_,rfl,t,_,_,_,rfl,rfl,s4.seqT ht,rfl,e4,bK (by simp;lia),hC _ _ (fin _ ?_)⟩;rw[if_pos (by simp at e;lia)]
   .refine⟨e4,bK (by simp;lia),hC _ _ (fin _ ?_)⟩;rw[if_neg (by simp at e;lia)]
  rintro ws H4 ⟨s4,e4,rfl⟩;refine⟨l,D,_,_,rfl,rfl,s4 _ _ hl,e4,Nat.le_of_lt (bK (by simp[wh,kN];lia)),λp hp=>?_⟩;have eR:(wh row).1.map V.int++((List.range X.length).map λc=>if c=i then dA row else (0:Int)).map V.int=(fG X.length i row).map V.int:=by unfold fG wh;rw[map_append]
  have eR':(iw row).map V.int++((List.range X.length).map λc=>if c=i then dA row else (0:Int)).map V.int=(fG X.length i row).map V.int:=eR;rw[eR'];have s5:=aF hp (.lst ((fG X.length i row).map V.int));have e5:upd H4 p (.lst ((fG X.length i row).map V.int)) p=some (.lst ((fG X.length i row).map V.int)):=aB;have s15:=(s13.trans s4).trans s5;have np:p≠l0:=λz=>by
   have:=(s13.trans s4) _ _ e1;rw[z,this] at hp;cases hp
  generalize upd H4 p (.lst ((fG X.length i row).map V.int))=H5 at s5 e5 s15 ⊢;have lz:=I1.length;rw[length_take,mE] at lz;refine⟨l0,zs,.ref p,rfl,rfl,s15 _ _ e1,bK (),?_⟩;refine⟨(s1.trans s15).change hl0,_,_,_,_,aB,?_,rfl⟩;have ee:(gG X).take (i+1)=(gG X).take i++[fG X.length i row]:=by
   rw[take_add_one];unfold gG;rw[getElem?_mapIdx,er];rfl
  rw[ee];exact((I1.same s15).app (.cons np e5 .nil)).upd
 .rintro σ H1 ⟨s1,zs,z2,z3,z4,e1,I1,rfl⟩;rw[lu,<- mE X,take_length] at I1;exact⟨_,rfl,q l0 zs H1 s1 hl0 e1 I1⟩
theorem Y70:DZ 3 Z.f70 Z.d70 ["tops","pivot"] (Shp.Hw Z.K) "over_pivot":=by
 refine⟨?_,F70.b2 _ _ (by intros;rfl),F70.kp,m70⟩
 refine F70.ok9 Wq λ_ _ _ s H _ Q E hr h=>?_;obtain⟨l,ts,pq,n,rfl,hS,h100,h0,bP,hn,q⟩:=h;refine⟨_,(aG (aT (fV (nl:=1) (fr:=[1]) (Nc:=["top","pivot"]) (cl:=[("pivot",s.heap.objs.size+1)]) rfl ⟨rfl,rfl,∅,∅,λx c h=>h,fI rfl,rfl,λi n h=>match i,h with | 0,h=>by cases h;exact⟨1,rfl,rfl,rfl,rfl,.inl rfl⟩ | k+1,h=>by rw[show 1+(k+1)=k+2 by lia] at h;cases h⟩
    (dM (pv 0)) (λ_ _ _ _ _=>(qQ1 (i:=0) Bh)) (λ_ _ _ _ _=>fX)
    (λ_ _ _ _ _=>(d9 Y4 hr rfl (aA (pv 0) (aA (pv 1) aC))))))),?_⟩
 refine⟨_,rfl,l,rfl,⟨_,hS⟩,λD hD=>?_⟩;have sD:=aF hD (.lst []);refine fC (xs:=ts.map V.int) (λi zs H'=>aV H H'/\H' D=some (.lst zs)/\Fqs Z.K H' zs ((ts.map λt=>red t pq).take i)) ⟨sD,aB,.nil⟩ (λi zs H' h=>h.2.1) (λi zs H' _ h=>h.1.seq hS) ?_ ?_
 .rintro i zs x H1 hx ⟨s1,e1,F1⟩ C hC;have hi:i < ts.length:=by have:=(List.getElem?_eq_some_iff.mp hx).1;simpa using this
  have ex:x=.int (ts.getD i 0):=by rw[jP hi] at hx;cases hx;rfl
  subst ex;have lz:=F1.length;rw[length_take,length_map] at lz;refine⟨fR.1,fR.2,gC ?_⟩;refine⟨_,rfl,_,rfl,_,_,n,rfl,h0,bP,(),λr H2 s2 e2=>?_⟩;have eA:=s2 _ _ e1;refine⟨eA,bK (),hC _ _ ⟨(s1.trans s2).change hD,aB,?_⟩⟩;rw[take_add_one,getElem?_map,iS hi];exact((F1.same s2).app (.cons (Fq.of e2) .nil)).upd eA
 rintro zs H1 ⟨s1,e1,F1⟩;rw[length_map,take_of_length_le ⋯] at F1;exact q D zs H1 s1 hD e1 F1
theorem Y71:DZ 5 Z.f71 Z.d71 ["matrix"] (Al Z.K) "multiples":=by
 refine⟨?_,F71.b1 _ (by intros;rfl),F71.kp,m71⟩
 refine F71.ok9 Gi λcdv A outer s H vs Q E hr h=>?_;obtain⟨g,D0,us,X,L,b,rfl,hU,hX,MX,q⟩:=h;have hu:=zH hr;have r3:=hr.mono (show 3<=4 by lia);refine⟨_,(aD (aS (i:=1) Gi.nd rfl (Or.inr rfl) (bL bQ rfl n_len PySem.boot_len (aA (pv 0) aC)))
  (aD (aS (i:=2) Gi.nd rfl (Or.inr rfl) (d9 Y50 r3 rfl (aA (d9 Y69 r3 rfl (aA (pv 0) aC)) (aA (pv 1) aC))))
  (aD (cC (bA xW (kU hu (pv 2) bV (λ_ _=>rfl)) (pv 1) (bC _)) (aG gW) bF)
  (aG (aT (fV (nl:=1) (fr:=[1,2]) (Nc:=["row","many","end"]) (cl:=[("many",s.heap.objs.size+1),("end",s.heap.objs.size+2)]) rfl ⟨rfl,rfl,∅,∅,(dX rfl (dX rfl (oE))),fI rfl,rfl,λi n h=>match i,h with | 0,h=>by cases h;exact⟨1,rfl,rfl,rfl,rfl,.inl rfl⟩ | 1,h=>by cases h;exact⟨2,rfl,rfl,rfl,rfl,.inl rfl⟩ | k+2,h=>by rw[show 1+(k+2)=k+3 by lia] at h;cases h⟩
    (dM (kU hu (pv 2) bV (λ_ _=>rfl))) (λ_ _ _ _ _=>(qQ1 (i:=0) lB)) (λ_ _ _ _ _=>fX)
    (λ_ _ _ _ _=>(d9 Y70 r3 rfl (aA (fA (Ss (K:=Z.K) rfl) (pv 0) (eY (pv 1)) iH) (aA (kU hu (pv 2) bV (λ_ _=>rfl)) aC)))))))))),?_⟩
 have lu:=hX.length;have xP:=MX.p;have x4:=MX.n;have hw:∀row∈X,row.length=X.length:=λrow h=>(MX.c row h).2;refine⟨_,rfl,g,us,rfl,.inl hU,?_⟩;refine⟨_,rfl,g,D0,us,X,L,b,rfl,hU,hX,MX,λl zs H1 s1 nl e1 I1=>?_⟩;have bits4:bw b X.length<=9000:=Nat.le_trans MX.hw ∅;refine⟨_,rfl,l,l,zs,gG X,X.length,X.length+X.length,b,Mq.LI X.length (oR X),by rw[lu];rfl,SqL.of e1,I1,mE X,λi hi=>by rw[mZ hi,tH,hw _ (mem_of_getElem? (tV hi))],(),(),Tq MX,MX.b1,bits4,(),Uc MX,Rv,λd lE zE R' rank pivot sign H2 s2 nd nlE ed el IE SE bE bp LE=>?_⟩;obtain⟨g1',g2',g3',g4'⟩:=pZ ed;have s02:=s1.trans s2;have wr:=Ep xP (Jl λi j hi hj=>sY xP hw hi hj) SE;have hr':rank=X.length:=by
  rcases wr with z | z
  .exact absurd z.2 MX.w
  .exact z.1
 refine⟨_,rfl,d,_,rfl,g2',_,rfl,_,_,rfl,rfl,_,rfl,L2.ifF (decide_eq_false (by rw[hr',lu];lia)) ?_⟩;subst hr';have dn:=SE.dne;have pn:pivot≠0:=λz=>dn (by rw[z];simp);have lzE:=IE.length;rw[SE.len] at lzE;refine⟨_,rfl,d,_,rfl,g1',lE,rfl,⟨_,SqL.of el⟩,λD hD=>?_⟩;have sD:=aF hD (.lst []);refine fC (xs:=zE) (λi ws H'=>aV H2 H'/\H' D=some (.lst ws)/\Fmd Z.K H D H' ws ((List.range i).map λi=>((R'.getD i []).drop X.length).map λt=>red t pivot)) ⟨sD,aB,.nil⟩ (λi ws H' h=>h.2.1) (λi ws H' _ h=>h.1.seq (SqL.of el)) ?_ ?_
 .rintro i ws x H3 hx ⟨s3,e3,F3⟩ C hC;have hi:i < X.length:=by have:=(List.getElem?_eq_some_iff.mp hx).1;lia
  obtain⟨u,eu,nu,hu2⟩:=IE.at (i:=i) (by rw[SE.len];exact hi);have exu:x=.ref u:=by rw[eu] at hx;cases hx;rfl
  subst exu;have wid:=SE.wid i hi;have lz:=F3.length;rw[length_map,length_range] at lz;refine⟨fR.1,fR.2,gC ?_⟩;refine⟨_,rfl,_,rfl,(us.length:Int),rfl,u,_,rfl,SqL.of (s3 _ _ hu2),λlf hlf=>?_⟩;rw[lu,tE,<- map_drop];have s4:=aF hlf (.lst (((R'.getD i []).drop X.length).map V.int));have e4:upd H3 lf (.lst (((R'.getD i []).drop X.length).map V.int)) lf=some (.lst (((R'.getD i []).drop X.length).map V.int)):=aB;generalize upd H3 lf (.lst (((R'.getD i []).drop X.length).map V.int))=H4 at s4 e4 ⊢;refine⟨_,rfl,d,_,rfl,pZ ((s3.trans s4) _ _ ed) |>.2.2.1,lf,(R'.getD i []).drop X.length,pivot,bw b X.length,rfl,SqL.of e4,by rw[length_drop,wid];lia,pn,bp,bits4,λl5 z5 H5 s5 nl5 e5 F5=>?_⟩;have s35:=s4.trans s5;have eD:=s35 _ _ e3;have ne:l5≠D:=λz=>by rw[z,s4 _ _ e3] at nl5;cases nl5
  refine⟨eD,bK (),hC _ _ ⟨(s3.trans s35).change hD,aB,?_⟩⟩;rw[range_succ,map_append];exact((F3.same s35).app (.cons ((s02.trans (s3.trans s4)).free nl5) ne e5 F5 .nil)).upd eD
 rintro ws H3 ⟨s3,e3,F3⟩;rw[lzE] at F3;refine q D ws _ H3 (s02.trans s3) (s02.free hD) e3 F3 ⟨⋯,λrow hrow=>?_,λk x hk hx=>?_⟩
 .obtain⟨i,hi,rfl⟩:=mem_map.mp hrow;have hi':=mem_range.mp hi;have wid:=SE.wid i hi';refine⟨by rw[length_map,length_drop,wid];lia,λp hp=>?_⟩;obtain⟨t,_,rfl⟩:=mem_map.mp hp;exact gX pn
 .rw[<- LE.whole SE hk hx];refine aP λj hj=>?_;have e1:((List.range X.length).map λi=>((R'.getD i []).drop X.length).map λt=>red t pivot).getD k []=((R'.getD k []).drop X.length).map λt=>red t pivot:=by
   rw[getD_eq_getElem?_getD,getElem?_map,getElem?_range hk];rfl
  have wid:=SE.wid k hk;rw[e1,Ac (by rw[length_drop,wid];lia),jO pn,Mf];rfl
theorem R72:FZ CX0 6 Z.f72 Z.d72 ["self"] (tY Z.c_Answer Z.K):=by
 refine F72.ok9 qd1 λ_ _ _ s H _ Q E hr h=>?_;obtain⟨a,m,b,L,ds,rfl,LN,EB,w10,q⟩:=h;obtain⟨dx,li,le,fo,us,M,N,Y,ha,hl,FM,EO,_⟩:=LN.e;refine⟨_,(aG (aT (d9 Y71 hr rfl (aA (bX (pv 0) rfl) aC)))),?_⟩;exact⟨_,rfl,a,Z.c_Answer,dx,_,_,rfl,ha,ABx.cl,ABx.nI,Vd _ _ _,li,li,us,M,L,b,rfl,SqL.of hl,FM,EB.mxl EO w10,λl zs P H' s' nl el FP IV=>q l zs P H' s' nl el FP (IV.pap EO)⟩
theorem X11:dE Z.K Z.c_Answer "paper" Z.f72:=⟨a72_0,i72,F72.kp⟩
theorem R73:FZ CX0 7 Z.f73 Z.d73 ["self"] (Cy Z.c_Answer Z.c_Watch Z.K):=by
 refine F73.ok9 qi0 λ_ _ _ s H _ Q E hr h=>?_;obtain⟨w,m,b,L,ds,rfl,WP,EB,w10,q⟩:=h;obtain⟨dx,a,n,hw,naw,LN⟩:=WP.e;refine⟨_,(aG (aT (bN (bX (pv 0) rfl) ABx.cl X11 R72 hr b72 .nil aK))),?_⟩;have LN1:=LN;obtain⟨dxa,li,le,fo,us,M,N,Y,ha,_⟩:=LN.e;exact⟨_,rfl,w,Z.c_Watch,_,_,_,rfl,hw,WBx.cl,WBx.nC,vA _ _,a,dxa,_,rfl,ha,gS _ _ _ ∅ ∅ ∅,a,m,b,L,ds,rfl,LN1,EB,w10,q⟩
theorem Y74:DZ 1 Z.f74 Z.d74 ["_law_script","_law_k"] (Ce Z.K) "_law_draw":=by
 refine⟨?_,F74.b2 _ _ (by intros;rfl),F74.kp,m74⟩
 refine F74.ok9 Oz λ_ _ _ s H _ Q E hr h=>?_;obtain⟨a,ns,j,k,rfl,hj,hS,h63,q⟩:=h;have hu:=hr.units;refine⟨_,(aD (qQ0 (i:=2) Oz.nd (fA gK (pv 0) (eY (pv 1)) (eY (aY dS (pv 1) aE))))
  (aD (cC (bA (kO hu) (pv 2) (cD aC) (bC _)) (aG (aT aE)) bF)
  (aG (aT (aW cA (pv 2) aE (λ_ _=>rfl)))))),?_⟩
 refine⟨_,rfl,_,rfl,j,rfl,_,rfl,_,_,rfl,rfl,j+1,rfl,a,_,rfl,hS,λl hl=>?_⟩;have s1:=aF hl (.lst (jC (ns.map V.int) (some j) (some (j+1))));have e1:upd H l (.lst (jC (ns.map V.int) (some j) (some (j+1)))) l=some (.lst (jC (ns.map V.int) (some j) (some (j+1)))):=aB;obtain⟨ms,em,lm⟩:=Dv ns (some j) (some (j+1));rw[em] at e1 s1 ⊢;generalize upd H l (.lst (ms.map V.int))=H1 at e1 s1 ⊢;refine⟨_,rfl,zl9 0,λe he=>?_⟩;have s2:=aF he (.lst []);refine Qv (s2.seq (SqL.of e1)) (SqL.of aB) ⟨_,rfl,?_⟩;rcases ms with _ | ⟨m,ms⟩
 .exact gC (q 0 _ (s1.trans s2))
 .refine gH ⟨_,rfl,l,_,_,_,rfl,rfl,s2.seq (SqL.of e1),cO (j:=0) rfl,q m _ (s1.trans s2)⟩
theorem Y75:DZ 1 Z.f75 Z.d75 ["_law_cell","_law_turn","_law_many"] pT "_law_mix":=by
 refine⟨?_,F75.b3 _ _ _ (by intros;rfl),F75.kp,m75⟩
 refine F75.ok9 wI λ_ _ _ s H _ Q E hr h=>?_;obtain⟨c,t,m,rfl,h0,h9,hm,q⟩:=h;rw[qo9];obtain⟨q1,q2,q3,q4,q5,l1,e1,eo1⟩:=qe8;obtain⟨r1,r2,r3,r4,r5,l2,e2,eo2⟩:=qa9;rw[e1,e2];refine⟨_,(aD (cC (bA eQ (aY mM (pv 0) aE) aE (bC _)) (aD (qQ0 (i:=3) wI.nd (aY rA (pv 0) aE))
  (aD (gA PassesOwn.never rfl (jX rfl n_range (aA (pv 1) aC)) (qQ1 (i:=4) wI.nd)
   (aG (qQ0 (i:=3) wI.nd (aY rA (pv 3) (aY lV aE aE)))))
  (aG (aT (aY kK (pv 3) (pv 2)))))) bF)
  (aD (qQ0 (i:=5) wI.nd (aW cA (cD (Ba _ l1)) (pv 1) (λ_ _=>rfl)))
  (aD (qQ0 (i:=6) wI.nd (aW cA (cD (Ba _ l2)) (pv 1) (λ_ _=>rfl)))
  (aD (qQ0 (i:=7) wI.nd (aY mM (pv 0) aE))
  (aG (aT (aY kK (aY rA (aY kK (aY dS (aY dS (aY cW (aY oZ aE (pv 7)) (pv 7)) (aY cW (pv 5) (pv 7))) (aY oZ aE (aY dS (pv 1) aE))) (pv 6)) aE) (pv 2)))))))),?_⟩
 rw[eo1,eo2];have hf:∀u:Int,0<=u.fmod m/\u.fmod m < m:=λu=>⟨Int.fmod_nonneg_of_pos u hm,Int.fmod_lt_of_pos u hm⟩
 have m0:m≠0:=by lia
 refine⟨_,rfl,_,_,rfl,rfl,(show (0:Int) < 2 by decide),rfl,_,rfl,pC (λ_=>?_) (λ_=>?_)⟩
 .refine⟨_,rfl,_,_,rfl,rfl,⟨∅,∅⟩,?_⟩;refine⟨_,rfl,t,rfl,(),(),?_⟩;refine kE (n:=t.toNat) (λi σ H'=>H'=H/\∃u z,σ=[some (.int c),some (.int t),some (.int m),some (.int u),z,none,none,none]) ⟨rfl,_,none,rfl⟩ ?_ ?_
  .rintro i σ H' hi ⟨rfl,u,z,rfl⟩;exact⟨_,rfl,_,_,rfl,rfl,⟨∅,∅,∅⟩,_,_,rfl,rfl,⟨∅,∅⟩,rfl,_,_,rfl⟩
  .rintro σ H' ⟨rfl,u,z,rfl⟩;exact⟨_,rfl,_,rfl,_,_,rfl,rfl,m0,q _ _ (hf u).1 (hf u).2 (aV.refl _)⟩
 .refine⟨zl9 10,λl1 hl1=>?_⟩;obtain⟨by_,eb,b1,b2⟩:=qr3 (a0:=48271) (a1:=69621) (a2:=16807) (a3:=40692) (a4:=39373) (a5:=30269) (a6:=27183) (a7:=60013) (a8:=51749) (a9:=35969) ∅ ∅ h0 h9;have s1:=aF hl1 (.lst (l48.map V.int));have g1:upd H l1 (.lst (l48.map V.int)) l1=some (.lst (l48.map V.int)):=aB;generalize upd H l1 (.lst (l48.map V.int))=H1 at s1 g1 ⊢;refine⟨_,rfl,l1,_,_,_,rfl,rfl,SqL.of g1,eb,?_⟩;refine⟨zl9 10,λl2 hl2=>?_⟩;obtain⟨pr,ep,p1,p2⟩:=qr3 (a0:=999983) (a1:=999979) (a2:=999961) (a3:=999959) (a4:=999953) (a5:=999931) (a6:=999917) (a7:=999907) (a8:=999883) (a9:=999863) ∅ ∅ h0 h9;have s2:=aF hl2 (.lst (l99.map V.int));have g2:upd H1 l2 (.lst (l99.map V.int)) l2=some (.lst (l99.map V.int)):=aB;generalize upd H1 l2 (.lst (l99.map V.int))=H2 at s2 g2 ⊢;refine⟨_,rfl,l2,_,_,_,rfl,rfl,SqL.of g2,ep,?_⟩;refine⟨_,rfl,_,_,rfl,rfl,(show (0:Int) < 2147483647 by decide),?_⟩;have x1:=Int.emod_nonneg c (show (2147483647:Int)≠0 by decide);have x2:=Int.emod_lt_of_pos c (show (0:Int) < 2147483647 by decide);generalize c % 2147483647=x at x1 x2 ⊢;refine⟨_,rfl,_,_,rfl,rfl,Or.inl ⟨∅,∅⟩,_,rfl,cU (n:=40) (m:=40) (tW () ()) (tW () ()) () () ?_⟩;refine⟨_,rfl,_,rfl,cU (n:=40) (m:=40) (tW () ()) (tW () ()) () () ⟨_,_,rfl,rfl,?_⟩⟩;refine⟨_,rfl,_,_,rfl,rfl,_,_,rfl,rfl,Or.inl ⟨∅,∅⟩,_,_,rfl,rfl,_,rfl,_,_,rfl,rfl,(),_,_,rfl,rfl,⟨∅,∅⟩,_,rfl,_,_,rfl,rfl,m0,?_⟩;exact q _ _ (hf _).1 (hf _).2 (s1.trans s2)
theorem Y76:DZ 1 Z.f76 Z.d76 ["_law_cell","_law_turn"] Su "_law_far":=by
 refine⟨?_,F76.b2 _ _ (by intros;rfl),F76.kp,m76⟩
 refine F76.ok9 Jj λ_ _ _ s H _ Q E hr h=>?_;obtain⟨c,t,rfl,h0,h9,q⟩:=h;refine⟨_,(aD (cC (bA eQ (aY mM (pv 0) aE) aE (bC _)) (aD (qQ0 (i:=2) Jj.nd (aY rA (pv 0) aE))
  (aD (gA PassesOwn.never rfl (jX rfl n_range (aA aE aC)) (qQ1 (i:=3) Jj.nd)
   (aG (qQ0 (i:=2) Jj.nd (aY rA (pv 2) (aY lV aE aE)))))
  (aG (aT (aY iW (aY mM (pv 2) (aY dS (aY oZ aE (aY lV aE aE)) aE)) (aY lV aE aE)))))) bF)
  (aG (aT (aY iW (aY mM (aY cW (aY mM (pv 0) (aY lV aE aE)) (aY dS (aY oZ aE (pv 1)) aE)) (aY dS (aY oZ aE (aY lV aE aE)) aE)) (aY lV aE aE))))),?_⟩
 have fin:∀u:Int,Q (.int (u % (2*10 ^ (12:Int).toNat+1) - 10 ^ (12:Int).toNat)) H:=λu=>by
  rw[p12];have x1:=Int.emod_nonneg u (show (2*1000000000000+1:Int)≠0 by decide);have x2:=Int.emod_lt_of_pos u (show (0:Int) < 2*1000000000000+1 by decide);exact q _ () ()
 refine⟨_,rfl,_,_,rfl,rfl,(show (0:Int) < 2 by decide),rfl,_,rfl,pC (λ_=>?_) (λ_=>?_)⟩
 .refine⟨_,rfl,_,_,rfl,rfl,⟨∅,∅⟩,?_⟩;refine⟨_,rfl,(),(),?_⟩;refine kE (n:=10) (λi σ H'=>H'=H/\∃u z,σ=[some (.int c),some (.int t),some (.int u),z]) ⟨rfl,_,none,rfl⟩ ?_ ?_
  .rintro i σ H' hi ⟨rfl,u,z,rfl⟩;exact⟨_,rfl,_,_,rfl,rfl,⟨∅,∅,∅⟩,_,_,rfl,rfl,⟨∅,∅⟩,rfl,_,_,rfl⟩
  .rintro σ H' ⟨rfl,u,z,rfl⟩;exact⟨_,rfl,_,_,rfl,rfl,⟨∅,∅,∅⟩,_,_,rfl,rfl,Or.inl ⟨∅,∅⟩,_,_,rfl,rfl,_,_,rfl,rfl,(show (0:Int) < 2*10 ^ (12:Int).toNat+1 by decide),_,_,rfl,rfl,⟨∅,∅,∅⟩,_,_,rfl,rfl,fin u⟩
 .refine⟨_,rfl,_,_,rfl,rfl,⟨∅,∅,∅⟩,_,_,rfl,rfl,(show (0:Int) < 10 ^ (12:Int).toNat by decide),?_⟩;have x1:=Int.emod_nonneg c (show (10 ^ (12:Int).toNat:Int)≠0 by decide);have x2:=Int.emod_lt_of_pos c (show (0:Int) < 10 ^ (12:Int).toNat by decide);rw[p12] at x1 x2;refine⟨_,rfl,_,_,rfl,rfl,Or.inl ⟨∅,∅⟩,_,_,rfl,rfl,cU (n:=40) (m:=40) (tW (by rw[p12];lia) (by rw[p12];lia)) (tW () ()) () () ?_⟩;exact⟨_,_,rfl,rfl,⟨∅,∅,∅⟩,_,_,rfl,rfl,Or.inl ⟨∅,∅⟩,_,_,rfl,rfl,_,_,rfl,rfl,(show (0:Int) < 2*10 ^ (12:Int).toNat+1 by decide),_,_,rfl,rfl,⟨∅,∅,∅⟩,_,_,rfl,rfl,fin _⟩
theorem Y77:DZ 1 Z.f77 Z.d77 ["_law_top","_law_bottom"] hG "_law_lowest":=by
 refine⟨?_,F77.b2 _ _ (by intros;rfl),F77.kp,m77⟩
 refine F77.ok9 qE λ_ _ _ s H _ Q E hr h=>?_;obtain⟨t,b',n,rfl,hb,hB,hn,q⟩:=h;refine⟨_,(aD (Rh (i:=2) (j:=3) rfl qE.nd rfl rfl ∅ rfl rfl (aA (bL qX rfl bl.abs PyProof.Rows.boot_abs (aA (pv 0) aC)) (aA (bL qX rfl bl.abs PyProof.Rows.boot_abs (aA (pv 1) aC)) aC)) rfl)
  (aD (xS PassesOwn.never (bA qK (pv 3) aE (bC _)) (aG (Rh (i:=2) (j:=3) rfl qE.nd rfl rfl ∅ rfl rfl (aA (pv 3) (aA (aY kK (pv 2) (pv 3)) aC)) rfl)))
  (aD (cC (bA xW (pv 1) aE (bC _)) (aG (qQ0 (i:=2) qE.nd (aY iW aE (pv 2)))) bF)
  (aG (aT (cF (aA (aY jE (pv 0) (pv 2)) (aA (aY jE (pv 1) (pv 2)) aC)))))))),?_⟩
 refine⟨_,rfl,_,rfl,_,rfl,_,rfl,_,_,rfl,?_⟩;have g0:=Mq.qj1 t b';have n0:0<=(if t < 0 then -t else t):=by split<;>lia
 have n1:0<=(if b' < 0 then -b' else b'):=by split<;>lia
 generalize (if t < 0 then -t else t)=x' at *
 generalize (if b' < 0 then -b' else b')=y' at *
 have hd:=rH (t:=t) hb;have hdB:Mq.B n (dvr t b'):=hB.le (Fu hb);refine wN (λσ H'=>H'=H/\∃u v,σ=[some (.int t),some (.int b'),some (.int u),some (.int v)]/\gc u v=gc t b'/\0<=u/\0<=v) (λσ _=>match σ with | [_,_,_,some (.int v)]=>v.natAbs | _=>0) ⟨rfl,x',y',rfl,g0,n0,n1⟩ ?_ ?_
 .rintro σ H' ⟨rfl,u,v,rfl,e,hu,hv0⟩;refine⟨_,rfl,rfl,_,rfl,?_⟩;refine pC (λc=>?_) (λc=>?_)
  .have hv:v≠0:=by intro q;subst q;simp at c
   refine⟨_,rfl,_,rfl,_,rfl,_,_,rfl,rfl,hv,_,_,rfl,⟨rfl,v,Int.fmod u v,rfl,(Kl u v).trans e,hv0,Int.fmod_nonneg_of_pos u ()⟩,yN hv⟩
  .have hv:v=0:=by
    simp at c;exact c
   subst hv;have eu:u=gc t b':=by rw[<- e,Jp,if_neg ()]
   subst eu;refine⟨_,rfl,_,_,rfl,rfl,_,rfl,pC (λc=>?_) (λc=>?_)⟩
   .have hlt:b' < 0:=of_decide_eq_true c;have e:dvr t b'=0 - gc t b':=by unfold dvr;rw[if_pos hlt];lia
    rw[e] at hd hdB;have q':pI H' Q (t.fdiv (0 - gc t b'),b'.fdiv (0 - gc t b')):=by
     have z:=q;unfold red at z;rw[e] at z;exact z
    refine⟨_,rfl,_,_,rfl,rfl,?_⟩;refine⟨_,rfl,_,rfl,gE hd hdB hn ⟨_,rfl,_,rfl,gE hd hdB hn ⟨zl9 2,λp hp=>?_⟩⟩⟩;exact q' p _ (aF hp _) aB
   .have hlt:¬b' < 0:=λz=>c (decide_eq_true z);have e:dvr t b'=gc t b':=by unfold dvr;rw[if_neg hlt]
    rw[e] at hd hdB;have q':pI H' Q (t.fdiv (gc t b'),b'.fdiv (gc t b')):=by
     have z:=q;unfold red at z;rw[e] at z;exact z
    refine⟨_,rfl,_,rfl,gE hd hdB hn ⟨_,rfl,_,rfl,gE hd hdB hn ⟨zl9 2,λp hp=>?_⟩⟩⟩;exact q' p _ (aF hp _) aB
 .rintro σ H Q Q' m ⟨v,h1,h2,k,h3,h4⟩;exact⟨v,h1,h2,k,h3,m _ _ h4⟩
theorem Y78:DZ 2 Z.f78 Z.d78 ["_law_one","_law_other"] (iI Z.K Mq.kT) "_law_plus":=by
 refine⟨?_,F78.b2 _ _ (by intros;rfl),F78.kp,m78⟩
 refine F78.ok9 Ur λ_ _ _ s H _ Q E hr h=>?_;obtain⟨a,b,p,q,n,m,rfl,fa,fb,hp,hq,bp,bq,hnm,z⟩:=h;refine⟨_,(aG (aT (d9 Y77 hr rfl (aA (aY dS (aY cW (aW aZ (pv 0) aE (λ_ _=>rfl)) (aW aZ (pv 1) aE (λ_ _=>rfl))) (aY cW (aW aZ (pv 1) aE (λ_ _=>rfl)) (aW aZ (pv 0) aE (λ_ _=>rfl)))) (aA (aY cW (aW aZ (pv 0) aE (λ_ _=>rfl)) (aW aZ (pv 1) aE (λ_ _=>rfl))) aC))))),?_⟩;refine fB rfl fa (cX rfl fb (cU bp.a bq.b () () ?_));refine fB rfl fb (cX rfl fa (cU bq.a bp.b () () ⟨_,_,rfl,rfl,?_⟩));refine cX rfl fa (cX rfl fb (cU bp.b bq.b () () ?_));exact⟨_,_,n+m,rfl,gZ hp hq,bp.b.mul bq.b,(),z⟩
theorem Y79:DZ 2 Z.f79 Z.d79 ["_law_one","_law_other"] (iI Z.K Mq.jB) "_law_times":=by
 refine⟨?_,F79.b2 _ _ (by intros;rfl),F79.kp,m79⟩
 refine F79.ok9 Of λ_ _ _ s H _ Q E hr h=>?_;obtain⟨a,b,p,q,n,m,rfl,fa,fb,hp,hq,bp,bq,hnm,z⟩:=h;refine⟨_,(aG (aT (d9 Y77 hr rfl (aA (aY cW (aW aZ (pv 0) aE (λ_ _=>rfl)) (aW aZ (pv 1) aE (λ_ _=>rfl))) (aA (aY cW (aW aZ (pv 0) aE (λ_ _=>rfl)) (aW aZ (pv 1) aE (λ_ _=>rfl))) aC))))),?_⟩;refine fB rfl fa (fB rfl fb (cU bp.a bq.a () () ?_));refine cX rfl fa (cX rfl fb (cU bp.b bq.b () () ?_));exact⟨_,_,n+m,rfl,gZ hp hq,bp.b.mul bq.b,(),z⟩
theorem Y80:DZ 1 Z.f80 Z.d80 ["_law_found","_law_due"] (Fw Z.K) "_law_told":=by
 refine⟨?_,F80.b2 _ _ (by intros;rfl),F80.kp,m80⟩
 refine F80.ok9 Rs λcdv A outer s H vs Q E hr h=>?_;obtain⟨a,d,p,rfl,fa,fd',q⟩:=h;have hu:=hr.units;refine⟨_,(aD (cC (PW.pt (kY (fY (dQ (iP (i:=0) rfl (Or.inl rfl) bl.isi n_tuple rfl rfl PyProof.Rows.boot_tuple))) (jT (bA qK (bL bQ rfl n_len PySem.boot_len (aA (pv 0) aC)) aE (bC _))))) (aG (aT gY)) bF)
  (aD (gA PassesOwn.never rfl (Zh (pv 0)) (qQ1 (i:=2) Rs.nd)
   (aG (cC (PW.pt (kY (fY (dQ (iP (i:=2) rfl (Or.inl rfl) bl.isi bl.int rfl rfl PyProof.Rows.boot_int))) (jT (dQ (iP (i:=2) rfl (Or.inl rfl) bl.isi bl.bool rfl rfl PyProof.Rows.boot_bool))))) (aG (aT gY)) bF)))
  (aG (aT (gL (kO hu) (pv 0) (pv 1) (bC _)))))),?_⟩
 refine⟨_,_,true,rfl,.tup fa,rfl,_,rfl,gH ⟨_,rfl,a,_,rfl,.inr fa,rfl,_,rfl,gH ?_⟩⟩;refine⟨_,rfl,a,rfl,⟨_,fa⟩,?_⟩;refine Vw (xs:=[.int p.1,.int p.2]) (λi σ H'=>H'=H/\∃z,σ=[some (.ref a),some (.ref d),z]) ⟨rfl,none,rfl⟩ (λi σ H' _ h=>by rw[h.1];exact fa) ?_ ?_
 .rintro i x σ H' hx ⟨rfl,z,rfl⟩;have hint:∃j,x=.int j:=by
   match i,hx with
   |0,h=>exact⟨p.1,by simpa using h.symm⟩
   |1,h=>exact⟨p.2,by simpa using h.symm⟩
   |n+2,h=>simp at h
  obtain⟨j,rfl⟩:=hint;refine⟨_,_,true,rfl,.of (.int j),rfl,_,rfl,gH ⟨_,_,false,rfl,.of (.int j),(by with_unfolding_all rfl),_,rfl,gH ⟨rfl,_,rfl⟩⟩⟩
 .rintro σ H' ⟨rfl,z,rfl⟩;refine⟨_,rfl,_,rfl,qg6 fa fd' ?_⟩;show Q (.bl (decide (p=p))) H';rw[decide_eq_true rfl];exact q
theorem Y81:DZ 2 Z.f81 Z.d81 ["_law_cell"] Iv "_law_size":=by
 refine⟨?_,F81.b1 _ (by intros;rfl),F81.kp,m81⟩
 refine F81.ok9 qj2 λcdv A outer s H vs Q E hr h=>?_;obtain⟨c,rfl,q⟩:=h;refine⟨_,(aG (aT (d9 Y77 hr rfl (aA (aY dS aE (d9 Y75 hr rfl (aA (pv 0) (aA aE (aA aE aC))))) (aA (aY dS aE (d9 Y75 hr rfl (aA (pv 0) (aA aE (aA aE aC))))) aC))))),?_⟩;refine⟨_,rfl,c,3,12,rfl,∅,∅,∅,λr H1 r1 r2 s1=>⟨_,_,rfl,rfl,?_⟩⟩;refine⟨_,rfl,c,4,6,rfl,∅,∅,∅,λb H3 b1 b2 s3=>⟨_,_,rfl,rfl,?_⟩⟩;have b0:1+b≠0:=by lia
 have le:=mX (t:=1+r) b0;have bT:Mq.B 4 (1+r):=tW () ();have bB:Mq.B 4 (1+b):=tW () ();exact⟨1+r,1+b,4,rfl,b0,bB,(),pI.same (s1.trans s3) (q _ ⟨gX b0,Jn () (),⟨bT.le le.1,bB.le le.2⟩⟩)⟩
theorem X12:dE Z.K Z.c_Net "add" Z.f30:=⟨a30_0,i30,F30.kp⟩
theorem Y82:DZ 6 Z.f82 Z.d82 ["_law_many","_law_rows"] (pS Z.c_Net Z.K) "_law_net":=by
 refine⟨?_,F82.b2 _ _ (by intros;rfl),F82.kp,m82⟩
 refine F82.ok9 Cg λ_ _ _ s H _ Q E hr h=>?_;obtain⟨m,r,us,ds,rfl,hm1,hm20,hU,hR,hK,h40,q⟩:=h;have r3:=hr.mono (show 3<=5 by lia);refine⟨_,(aD (qQ0 (i:=2) Cg.nd (gN MN R27 r3 rfl NTx.mN b27 .nil aK (aA (pv 0) aC)))
  (aD (gA PassesOwn.never rfl (dM (pv 1)) (qQ1 (i:=3) Cg.nd)
   (aG (bZ (uS (pv 2) NTx.cl X12 R30 hr b30 .nil aK (aA (d9 Y18 r3 rfl (aA (pv 3) aC)) aC)))))
  (aG (aT (pv 2))))),?_⟩
 have lus:=hR.length;refine⟨_,rfl,λn dx h1 h2 ne=>⟨n,dx,m,rfl,aB,hm1,hm20,λl H2 nl keep hn hl=>⟨rfl,?_⟩⟩⟩;have s2:aV H H2:=λb o e=>keep b o (by rw[aX (aQ e h1),aX (aQ e h2)];exact e) (aQ e h1);have hl0:H l=none:=by
  cases o:H l with
  |none=>rfl
  |some o'=>
   have:(upd (upd H dx (.own n)) n (.ins Z.c_Net dx [])) l=some o':=by rw[aX (aQ o h1),aX (aQ o h2)];exact o
   rw[this] at nl;cases nl
 refine⟨_,rfl,r,rfl,⟨_,s2.seq hU⟩,?_⟩;refine gU (xs:=us) (λi σ H'=>aV H H'/\dG Z.c_Net Z.K H' n l m (ds.take i)/\∃z,σ=[some (.int m),some (.ref r),some (.ref n),z]) ⟨s2,⟨⟨dx,hn⟩,[],hl,.nil⟩,none,rfl⟩ (λi σ H' _ h=>h.1.seq hU) ?_ ?_
 .rintro i x σ H3 hx ⟨s3,N3,z,rfl⟩;have hi:i < ds.length:=by
   have:=(List.getElem?_eq_some_iff.mp hx).1;lia
  obtain⟨⟨k,u,v,p⟩,hd⟩:∃d,ds[i]?=some d:=⟨_,getElem?_eq_getElem hi⟩
  obtain⟨t,z',et,hT,fz⟩:=hR.at hd;have ex:x=.ref t:=by rw[et] at hx;exact(Option.some.inj hx).symm
  subst ex;obtain⟨dn,hn3⟩:=N3.ob;have lt:(ds.take i).length<=ds.length:=by rw[length_take];lia
  refine⟨_,rfl,n,dn,_,rfl,hn3,cI _ _ ∅ ∅,_,rfl,t,_,_,_,_,rfl,s3.seqT hT,k,rfl,λy H4 s4 ny rw=>?_⟩;refine⟨n,l,y,z',m,ds.take i,k,u,v,p,rfl,N3.same s4,rw,(s3.trans s4).fq fz,hK _ (mem_of_getElem? hd),by rw[length_take];lia,λH5 x5 N5=>?_⟩;refine⟨λb o e=>x5 _ _ ((s3.trans s4) _ _ e) (aQ e hl0),?_,_,rfl⟩;rw[take_add_one,hd];exact N5
 .rintro σ H3 ⟨s3,N3,z,rfl⟩;rw[lus,take_length] at N3;exact⟨_,rfl,q n l H3 s3 hl0 N3⟩
theorem Y83:DZ 3 Z.f83 Z.d83 ["_law_rows","_law_cell","_law_word","_law_ends"] (Sj Z.K) "_law_put":=by
 refine⟨?_,F83.b4 _ _ _ _ (by intros;rfl),F83.kp,m83⟩
 refine F83.ok9 Kb λ_ _ _ s H _ Q E hr h=>?_;obtain⟨r,e,c,k,us,ds,i,j,rfl,er,hR,h60,he,q⟩:=h;have r1:=hr.mono (show 1<=2 by lia);refine⟨_,(aD (qQ0 (i:=4) Kb.nd (d9 Y81 hr rfl (aA (pv 1) aC)))
  (aD (cC (bA qK (pv 2) bV (bC _)) (aG (qQ0 (i:=4) Kb.nd (d9 Y77 r1 rfl (aA (aY iW (d9 Y75 r1 rfl (aA (pv 1) (aA aE (aA aE aC)))) aE) (aA (aY dS aE (d9 Y75 r1 rfl (aA (pv 1) (aA aE (aA aE aC))))) aC))))) bF)
  (aD (cC (bA eQ (d9 Y75 r1 rfl (aA (pv 1) (aA aE (aA aE aC)))) aE (bC _)) (aG (qQ0 (i:=3) Kb.nd (cF (aA (aW aZ (pv 3) aE (λ_ _=>rfl)) (aA (aW aZ (pv 3) aE (λ_ _=>rfl)) aC))))) bF)
  (aG (bZ (mY PySem.F.plainAttrs_list PySem.F.slot_list_insert PySem.F.type_list_insert Lw (pv 0) (aA (d9 Y75 r1 rfl (aA (pv 1) (aA aE (aA (aY dS (bL bQ rfl n_len PySem.boot_len (aA (pv 0) aC)) aE) aC)))) (aA (cF (aA (pv 2) (aA (aW aZ (pv 3) aE (λ_ _=>rfl)) (aA (aW aZ (pv 3) aE (λ_ _=>rfl)) (aA (pv 4) aC))))) aC)))))))),?_⟩
 have lu:=hR.length
 try dsimp only
 refine Ij (λσ' H'=>aV H H'/\∃(z:Addr) (p:Q2),σ'=[some (.ref r),some (.int c),some (.str k.wd),some (.ref e),some (.ref z)]/\Fq Z.K H' z p/\Low p/\Bd 7 p/\Mq.B 4 p.2/\(k=.pc->0 < p.1/\Bd 4 p)) (λX hX=>?_) ?_
 .refine⟨_,rfl,c,rfl,λp hp z H1 s1 e1=>?_⟩
  by_cases hk:k=.pc
  .refine⟨_,rfl,rfl,_,rfl,L2.ifF (by show (!decide (V.str k.wd=V.str "piece"))=false;rw[zR,decide_eq_true hk];rfl) ?_⟩;exact hX _ _ ⟨s1,z,p,rfl,Fq.of e1,hp.1,hp.2.2.mono (),hp.2.2.b,λ_=>⟨hp.2.1,hp.2.2⟩⟩
  .refine⟨_,rfl,rfl,_,rfl,L2.ifT (by show (!decide (V.str k.wd=V.str "piece"))=true;rw[zR,decide_eq_false hk];rfl) ?_⟩;refine⟨_,rfl,c,5,121,rfl,∅,∅,∅,λa H2 a1 a2 s2=>⟨_,_,rfl,rfl,?_⟩⟩;refine⟨_,rfl,c,6,12,rfl,∅,∅,∅,λb H3 b1 b2 s3=>⟨_,_,rfl,rfl,?_⟩⟩;have b0:1+b≠0:=by lia
   have le:=mX (t:=a - 60) b0;have bT:Mq.B 7 (a - 60):=tW () ();have bB:Mq.B 7 (1+b):=tW () ();have bB4:Mq.B 4 (1+b):=tW () ();exact⟨a - 60,1+b,7,rfl,b0,bB,(),λz2 H4 s4 e4=>hX _ _ ⟨s1.trans (s2.trans (s3.trans s4)),z2,_,rfl,Fq.of e4,gX b0,⟨bT.le le.1,bB.le le.2⟩,bB4.le le.2,λh=>absurd h hk⟩⟩
 rintro σ1 H1 ⟨s1,z,p,rfl,fz,lp,bp,b4,hpc⟩
 try dsimp only
 refine lQ (λσ' H'=>aV H1 H'/\∃(e':Addr) (i' j':Int),σ'=[some (.ref r),some (.int c),some (.str k.wd),some (.ref e'),some (.ref z)]/\SqT Z.K H' e' [.int i',.int j']/\((i'=i/\j'=j)\/(i'=j/\j'=i))) (λX hX=>?_) ?_
 .refine⟨_,rfl,c,2,2,rfl,∅,∅,∅,λa H2 a1 a2 s2=>⟨rfl,_,rfl,pC (λ_=>?_) (λ_=>?_)⟩⟩
  .refine⟨_,rfl,e,_,_,_,rfl,rfl,(s1.trans s2).seqT he,rfl,_,rfl,e,_,_,_,rfl,rfl,(s1.trans s2).seqT he,rfl,zl9 2,λe2 he2=>?_⟩;have s3:=aF he2 (.tup [.int j,.int i]);exact hX _ _ ⟨s2.trans s3,e2,j,i,rfl,SqT.of aB,.inr ⟨rfl,rfl⟩⟩
  .exact hX _ _ ⟨s2,e,i,j,rfl,(s1.trans s2).seqT he,.inl ⟨rfl,rfl⟩⟩
 rintro σ2 H2 ⟨s2,e',i',j',rfl,he',hij⟩;have s02:=s1.trans s2;have er2:=s02 _ _ er;refine⟨_,rfl,.inl ⟨rfl,_,SqL.of er2⟩,_,rfl,_,rfl,r,us,rfl,.inl (SqL.of er2),_,_,rfl,rfl,c,8,(us.length:Int)+1,rfl,∅,∅,(),λy' H3 y0 y1 s3=>?_⟩;obtain⟨y,rfl⟩:∃y:Nat,y'=(y:Int):=⟨y'.toNat,()⟩
 have he3:=s3.seqT he';refine⟨_,rfl,_,rfl,e',_,_,_,rfl,rfl,he3,rfl,_,rfl,e',_,_,_,rfl,rfl,he3,rfl,_,rfl,zl9 4,λt4 ht4=>?_⟩;have s4:=aF ht4 (.tup [.str k.wd,.int i',.int j',.ref z]);have e4:upd H3 t4 (.tup [.str k.wd,.int i',.int j',.ref z]) t4=some (.tup [.str k.wd,.int i',.int j',.ref z]):=aB;generalize upd H3 t4 (.tup [.str k.wd,.int i',.int j',.ref z])=H4 at s4 e4 ⊢;have s04:=s02.trans (s3.trans s4);have er4:=s04 _ _ er;refine⟨r,us,y,_,.ref t4,rfl,rfl,rfl,(),er4,bK (),?_⟩;refine q y t4 (k,i',j',p) H4 _ () s04 rfl hij lp bp b4 hpc rfl ?_;exact Rts.upd er4 ((Rts.take y (hR.same s04)).app (.cons (SqT.of e4) ((s2.trans (s3.trans s4)).fq fz) (Rts.drop y (hR.same s04))))
theorem Y84:DZ 4 Z.f84 Z.d84 ["_law_script","_law_many","_law_most","_law_words"] (Ic Z.K) "_law_hanging":=by
 refine⟨?_,F84.b4 _ _ _ _ (by intros;rfl),F84.kp,m84⟩
 refine F84.ok9 lK λcdv A outer s H vs Q E hr h=>?_;obtain⟨a,w,ns,m,ms,ks,rfl,hS,h63,hm1,hm20,hms,hW,hks1,hks,q⟩:=h;have r1:=hr.mono (show 1<=3 by lia);refine⟨_,(aD (qQ0 (i:=4) lK.nd (cD aC))
  (aD (qQ0 (i:=5) lK.nd (d9 Y75 r1 rfl (aA (d9 Y74 r1 rfl (aA (pv 0) (aA aE aC))) (aA aE (aA (pv 1) aC)))))
  (aD (gA PassesOwn.never rfl (zC rfl n_range (aA aE (aA (pv 1) aC))) (qQ1 (i:=6) lK.nd)
   (aD (qQ0 (i:=7) lK.nd (d9 Y74 r1 rfl (aA (pv 0) (aA (aY dS aE (pv 6)) aC))))
  (aD (qQ0 (i:=8) lK.nd (cF (aA (aY kK (aY dS (pv 6) (pv 5)) (pv 1)) (aA (aY kK (aY dS (d9 Y75 r1 rfl (aA (pv 7) (aA aE (aA (pv 6) aC)))) (pv 5)) (pv 1)) aC))))
  (aG (bZ (d9 Y83 hr rfl (aA (pv 4) (aA (pv 7) (aA (aW cA (pv 3) (d9 Y75 r1 rfl (aA (pv 7) (aA aE (aA (bL bQ rfl n_len PySem.boot_len (aA (pv 3) aC)) aC)))) (λ_ _=>rfl)) (aA (pv 8) aC))))))))))
  (aD (gA PassesOwn.never rfl (dM (fA gK (pv 0) (eY aE) (eY (aY dS aE (pv 2))))) (qQ1 (i:=7) lK.nd)
   (aD (qQ0 (i:=8) lK.nd (cF (aA (d9 Y75 r1 rfl (aA (pv 7) (aA aE (aA (pv 1) aC)))) (aA (d9 Y75 r1 rfl (aA (pv 7) (aA aE (aA (pv 1) aC)))) aC))))
  (aG (bZ (d9 Y83 hr rfl (aA (pv 4) (aA (pv 7) (aA (aW cA (cD (aA bV (aA bV (aA bV aC)))) (d9 Y75 r1 rfl (aA (pv 7) (aA aE (aA aE aC)))) (λ_ _=>rfl)) (aA (pv 8) aC)))))))))
  (aG (aT (pv 4))))))),?_⟩
 refine⟨zl9 0,λr hr0=>?_⟩;have s1:=aF hr0 (.lst []);have e1:upd H r (.lst []) r=some (.lst []):=aB;generalize upd H r (.lst [])=H1 at s1 e1 ⊢;refine⟨_,rfl,a,ns,2,2,rfl,rfl,s1.seq hS,h63,λc0 H2 s2=>?_⟩;refine⟨_,rfl,c0,1,(m:Int),rfl,∅,∅,(),λt' H3 t0 tm s3=>?_⟩;obtain⟨t,rfl⟩:∃t:Nat,t'=(t:Int):=⟨t'.toNat,()⟩
 have s03:=s1.trans (s2.trans s3);have e3:=(s2.trans s3) _ _ e1
 try dsimp only
 refine lQ (λσ' H'=>aV H H'/\∃(us:List V) (E:List Hn) (z6 z7 z8:Option V),σ'=[some (.ref a),some (.int (m:Int)),some (.int (ms:Int)),some (.ref w),some (.ref r),some (.int (t:Int)),z6,z7,z8]/\H' r=some (.lst us)/\Rts Z.K H' us (rwH E)/\Hng m t m E/\E.length=m - 1/\∀d∈rwH E,Mq.B 4 d.2.2.2.2) (λX hX=>?_) ?_
 .refine⟨_,rfl,1,(m:Int),rfl,(),?_⟩;refine kE (lo:=1) (n:=((m:Int) - 1).toNat) (λi σ H'=>aV H H'/\∃(us:List V) (E:List Hn) (z6 z7 z8:Option V),σ=[some (.ref a),some (.int (m:Int)),some (.int (ms:Int)),some (.ref w),some (.ref r),some (.int (t:Int)),z6,z7,z8]/\H' r=some (.lst us)/\Rts Z.K H' us (rwH E)/\Hng m t (i+1) E/\E.length=i/\∀d∈rwH E,Mq.B 4 d.2.2.2.2) ⟨s03,[],[],none,none,none,rfl,e3,.nil,⟨hm1,(),(λe he=>by cases he),nodup_nil,(λk a b=>by lia),(λp hp=>by cases hp),rfl⟩,rfl,λd hd=>by cases hd⟩ ?_ ?_
  .rintro i σ H4 hi ⟨s4,us,E,z6,z7,z8,rfl,er,hR,hg,le,b4⟩;obtain⟨k,hk⟩:∃k:Nat,k=i+1:=⟨_,rfl⟩
   have ek:(1:Int)+(i:Int)=(k:Int):=by lia
   rw[ek];have lE:(rwH E).length=E.length:=length_map ..;refine⟨_,rfl,_,rfl,_,_,rfl,rfl,a,ns,_,2+k,rfl,(),s4.seq hS,h63,λc H5 s5=>?_⟩;have s45:=s4.trans s5;refine⟨_,rfl,_,rfl,_,_,rfl,rfl,_,rfl,_,_,rfl,rfl,(show (m:Int)≠0 by lia),_,rfl,_,rfl,c,1,(k:Int),rfl,∅,∅,(),λj' H6 j0 j1 s6=>?_⟩;obtain⟨j,rfl⟩:∃j:Nat,j'=(j:Int):=⟨j'.toNat,()⟩
   refine⟨_,rfl,_,_,rfl,rfl,_,rfl,_,_,rfl,rfl,(show (m:Int)≠0 by lia),zl9 2,λe he=>?_⟩;have s7:=aF he (.tup [.int (Int.fmod ((k:Int)+(t:Int)) (m:Int)),.int (Int.fmod ((j:Int)+(t:Int)) (m:Int))]);have e7:upd H6 e (.tup [.int (Int.fmod ((k:Int)+(t:Int)) (m:Int)),.int (Int.fmod ((j:Int)+(t:Int)) (m:Int))]) e=some (.tup [.int (Int.fmod ((k:Int)+(t:Int)) (m:Int)),.int (Int.fmod ((j:Int)+(t:Int)) (m:Int))]):=aB;generalize upd H6 e (.tup [.int (Int.fmod ((k:Int)+(t:Int)) (m:Int)),.int (Int.fmod ((j:Int)+(t:Int)) (m:Int))])=H7 at s7 e7 ⊢;rw[Dh hm1,Dh hm1] at e7;have s47:=s5.trans (s6.trans s7);have s07:=s4.trans s47;have er7:=s47 _ _ er;refine⟨_,rfl,_,rfl,_,rfl,_,rfl,_,rfl,w,_,rfl,.inl (s07.seq hW),c,0,_,rfl,∅,∅,by unfold kws;rw[length_map];lia,λx H8 x0 x1 s8=>?_⟩;have x1:x < (ks.length:Int):=by unfold kws at x1;rwa [length_map] at x1
   obtain⟨kd,hkd,ekd⟩:=qd5 x0 x1;refine⟨w,_,_,_,rfl,rfl,(s07.trans s8).seq hW,ekd,_,rfl,?_⟩;have s48:=s47.trans s8;refine⟨r,e,c,kd,us,rwH E,_,_,rfl,s48 _ _ er,hR.same s48,(),SqT.of (s8 _ _ e7),λy t9 d H9 H10 hy s9 dk hij lp bp d4 hpc e10 R10=>?_⟩;subst e10;have ho:=Vf (m:=m) (t:=t) (k:=k) (j:=j) (d:=d) hm1 () () () (by rw[dk];exact hks kd hkd) lp bp (by rw[dk];exact hpc) hij;have hg':=Hng.tree hg ho (j:=j) (by rw[hk]) y;have ee:rwH (E.take y++(some (k,j),d) :: E.drop y)=(rwH E).take y++d :: (rwH E).drop y:=Jf ..;rw[<- ee] at R10;exact⟨((s4.trans s48).trans s9).change hr0,us.take y++.ref t9 :: us.drop y,E.take y++(some (k,j),d) :: E.drop y,some (.int (k:Int)),some (.int c),some (.ref e),rfl,aB,R10,hg',by rw[Lb,le],by rw[ee];exact Um b4 d4⟩
  .rintro σ H4 ⟨s4,us,E,z6,z7,z8,rfl,er,hR,hg,le,b4⟩;rw[show ((m:Int) - 1).toNat+1=m by lia] at hg;exact hX _ _ ⟨s4,us,E,z6,z7,z8,rfl,er,hR,hg,(),b4⟩
 rintro σ2 H2 ⟨s2,us0,E0',z6,z7,z8,rfl,er0,hR0,hg0,le0,b40⟩;refine⟨_,rfl,8,rfl,_,rfl,_,_,rfl,rfl,8+(ms:Int),rfl,a,_,rfl,s2.seq hS,λC hC=>?_⟩;have cl:=qr9 (ns.map V.int) ms;obtain⟨cs,em,_⟩:=Dv ns (some 8) (some (8+(ms:Int)));rw[em] at cl ⊢;rw[length_map] at cl;have nCr:C≠r:=Ne.symm (aQ er0 hC);have s3:=aF hC (.lst (cs.map V.int));have eC:upd H2 C (.lst (cs.map V.int)) C=some (.lst (cs.map V.int)):=aB;generalize upd H2 C (.lst (cs.map V.int))=H3 at s3 eC ⊢;refine⟨C,rfl,⟨_,SqL.of eC⟩,?_⟩;refine gU (xs:=cs.map V.int) (λn σ H'=>aV H H'/\H' C=some (.lst (cs.map V.int))/\∃(us:List V) (E:List Hn) (z7 z8:Option V),σ=[some (.ref a),some (.int (m:Int)),some (.int (ms:Int)),some (.ref w),some (.ref r),some (.int (t:Int)),z6,z7,z8]/\H' r=some (.lst us)/\Rts Z.K H' us (rwH E)/\Hng m t m E/\E.length=m - 1+n/\∀d∈rwH E,Mq.B 4 d.2.2.2.2) ⟨s2.trans s3,eC,us0,E0',z7,z8,rfl,s3 _ _ er0,hR0.same s3,hg0,le0,b40⟩ (λn σ H' _ h=>SqL.of h.2.1) ?_ ?_
 .rintro n x σ H4 hx ⟨s4,eC4,us,E,z7,z8,rfl,er,hR,hg,le,b4⟩;have hn:n < cs.length:=by
   have:=(List.getElem?_eq_some_iff.mp hx).1
   rwa [length_map] at this
  obtain⟨c,rfl⟩:∃c,x=.int c:=by
   rw[getElem?_map] at hx
   cases hm:cs[n]? with
   |none=>rw[hm] at hx;cases hx
   |some c=>rw[hm] at hx;cases hx;exact⟨c,rfl⟩
  have lE:(rwH E).length=E.length:=length_map ..;refine⟨_,rfl,_,rfl,c,1,(m:Int),rfl,∅,∅,(),λi H5 i0 i1 s5=>?_⟩;refine⟨_,rfl,_,rfl,c,9,(m:Int),rfl,∅,∅,(),λj H6 j0 j1 s6=>?_⟩;refine⟨zl9 2,λe he=>?_⟩;have s7:=aF he (.tup [.int i,.int j]);have e7:upd H6 e (.tup [.int i,.int j]) e=some (.tup [.int i,.int j]):=aB;generalize upd H6 e (.tup [.int i,.int j])=H7 at s7 e7 ⊢;have s47:=s5.trans (s6.trans s7);refine⟨_,rfl,_,rfl,zl9 3,λW2 hW2=>?_⟩;have s8:=aF hW2 (.lst [.str "piece",.str "push",.str "piece"]);have e8:upd H7 W2 (.lst [.str "piece",.str "push",.str "piece"]) W2=some (.lst [.str "piece",.str "push",.str "piece"]):=aB;generalize upd H7 W2 (.lst [.str "piece",.str "push",.str "piece"])=H8 at s8 e8 ⊢;refine⟨_,rfl,c,0,3,rfl,∅,∅,∅,λx H9 x0 x1 s9=>?_⟩;obtain⟨kd,hkd,ekd⟩:∃k:Kd,k≠.ho/\atI [V.str "piece",.str "push",.str "piece"] x=some (.str (Kd.wd k)):=by
   have:x=0\/x=1\/x=2:=by lia
   rcases this with rfl | rfl | rfl
   .exact⟨.pc,(λz=>by cases z),rfl⟩
   .exact⟨.pu,(λz=>by cases z),rfl⟩
   .exact⟨.pc,(λz=>by cases z),rfl⟩
  refine⟨W2,_,_,_,rfl,rfl,SqL.of (s9 _ _ e8),ekd,_,rfl,?_⟩;have s49:=s47.trans (s8.trans s9);refine⟨r,e,c,kd,us,rwH E,_,_,rfl,s49 _ _ er,hR.same s49,(),SqT.of ((s8.trans s9) _ _ e7),λy t9 d HA HB hy sA dk hij lp bp d4 hpc eB RB=>?_⟩;subst eB;have pt:dD (m:Int) d.2.1 d.2.2.1:=by
   rcases hij with ⟨x,y⟩ | ⟨x,y⟩<;>(rw[x,y];exact⟨(),(),(),()⟩)
  have ho:=Ww (m:=m) (t:=t) (d:=d) pt (by rw[dk];exact hkd) lp bp (by rw[dk];exact hpc);have hg':=Hng.ins hg ho rfl y;have ee:rwH (E.take y++(none,d) :: E.drop y)=(rwH E).take y++d :: (rwH E).drop y:=Jf ..;rw[<- ee] at RB;exact⟨((s4.trans s49).trans sA).change hr0,by rw[aX nCr];exact(s49.trans sA) _ _ eC4,us.take y++.ref t9 :: us.drop y,E.take y++(none,d) :: E.drop y,some (.int c),some (.ref e),rfl,aB,RB,hg',by rw[Lb,le];lia,by rw[ee];exact Um b4 d4⟩
 .rintro σ H4 ⟨s4,_,us,E,z7,z8,rfl,er,hR,hg,le,b4⟩;rw[length_map] at le;exact⟨_,rfl,q r us t E H4 s4 hr0 er hR hg () b4⟩
theorem Y85:DZ 1 Z.f85 Z.d85 ["_law_kept"] (Cq Z.K Z.mg) "_law_kinds":=by
 refine⟨?_,F85.b1 _ (by intros;rfl),F85.kp,m85⟩
 refine F85.ok9 Hg λcdv A outer s H vs Q E hr h=>?_;obtain⟨a,C,od,j,n,rfl,ea,kc,hj,q⟩:=h;obtain⟨c0,n0,k0'⟩:=kc.ks 0 _ rfl;obtain⟨c1,n1,k1'⟩:=kc.ks 1 _ rfl;obtain⟨c2,n2,k2'⟩:=kc.ks 2 _ rfl;obtain⟨c3,n3,k3'⟩:=kc.ks 3 _ rfl;obtain⟨c4,n4,k4'⟩:=kc.ks 4 _ rfl;obtain⟨c5,n5,k5'⟩:=kc.ks 5 _ rfl;obtain⟨c6,n6,k6'⟩:=kc.ks 6 _ rfl;obtain⟨c7,n7,k7'⟩:=kc.ks 7 _ rfl;obtain⟨c8,n8,k8'⟩:=kc.ks 8 _ rfl;obtain⟨c9,n9,k9'⟩:=kc.ks 9 _ rfl;obtain⟨c10,n10,k10'⟩:=kc.ks 10 _ rfl;obtain⟨c11,n11,k11'⟩:=kc.ks 11 _ rfl;obtain⟨c12,n12,k12'⟩:=kc.ks 12 _ rfl;have ex:=kc.ex;refine⟨_,(aD (qQ0 (i:=1) Hg.nd (cD (aA (cF (aA bV (aA (bL dL rfl bl.isi PyProof.Rows.boot_isinstance (aA (pv 0) (aA (iB rfl n0) aC))) aC))) (aA (cF (aA bV (aA (bL dL rfl bl.isi PyProof.Rows.boot_isinstance (aA (pv 0) (aA (iB rfl n1) aC))) aC))) aC))))
  (aD (qQ0 (i:=1) Hg.nd (aY jF (pv 1) (cD (aA (cF (aA bV (aA (bL dL rfl bl.isi PyProof.Rows.boot_isinstance (aA (pv 0) (aA (iB rfl n2) aC))) aC))) (aA (cF (aA bV (aA (bL dL rfl bl.isi PyProof.Rows.boot_isinstance (aA (pv 0) (aA (iB rfl n3) aC))) aC))) aC)))))
  (aD (qQ0 (i:=1) Hg.nd (aY jF (pv 1) (cD (aA (cF (aA bV (aA (bL dL rfl bl.isi PyProof.Rows.boot_isinstance (aA (pv 0) (aA (iB rfl n4) aC))) aC))) (aA (cF (aA bV (aA (bL dL rfl bl.isi PyProof.Rows.boot_isinstance (aA (pv 0) (aA (iB rfl n5) aC))) aC))) aC)))))
  (aD (qQ0 (i:=1) Hg.nd (aY jF (pv 1) (cD (aA (cF (aA bV (aA (bL dL rfl bl.isi PyProof.Rows.boot_isinstance (aA (pv 0) (aA (iB rfl n6) aC))) aC))) (aA (cF (aA bV (aA (bL dL rfl bl.isi PyProof.Rows.boot_isinstance (aA (pv 0) (aA (iB rfl n7) aC))) aC))) aC)))))
  (aD (qQ0 (i:=1) Hg.nd (aY jF (pv 1) (cD (aA (cF (aA bV (aA (bL dL rfl bl.isi PyProof.Rows.boot_isinstance (aA (pv 0) (aA (iB rfl n8) aC))) aC))) (aA (cF (aA bV (aA (bL dL rfl bl.isi PyProof.Rows.boot_isinstance (aA (pv 0) (aA (iB rfl n9) aC))) aC))) aC)))))
  (aD (qQ0 (i:=1) Hg.nd (aY jF (pv 1) (cD (aA (cF (aA bV (aA (bL dL rfl bl.isi PyProof.Rows.boot_isinstance (aA (pv 0) (aA (iB rfl n10) aC))) aC))) (aA (cF (aA bV (aA (bL dL rfl bl.isi PyProof.Rows.boot_isinstance (aA (pv 0) (aA (iB rfl n11) aC))) aC))) aC)))))
  (aD (bZ (mY PySem.F.plainAttrs_list PySem.F.slot_list_append PySem.F.type_list_append fD (pv 1) (aA (cF (aA bV (aA (bL dL rfl bl.isi PyProof.Rows.boot_isinstance (aA (pv 0) (aA (iB rfl n12) aC))) aC))) aC)))
  (aD (cC (fY (dQ (bL dL rfl bl.isi PyProof.Rows.boot_isinstance (aA (pv 0) (aA (Kt (v:=.ty "ValueError") rfl n_ValueError PyProof.Rows.Boot.«ValueError» rfl) aC))))) (aG (aT (cD aC))) bF)
  (aG (aT (fV (nl:=2) (fr:=[]) (Nc:=["_law_name","_law_truth"]) (cl:=[]) (g:=(Fi Z.K 2 (kA (jJ 0) (kA (jJ 1) Hd)))) rfl ⟨rfl,rfl,∅,∅,λx c h=>(by cases h),fI rfl,rfl,λi n h=>(by simp at h)⟩
    (dM (pv 1)) (λ_ _ _ _ _=>(kP rfl (dC (qQ1 (i:=0) oW) (dC (qQ1 (i:=1) oW) iO)))) (λ_ _ _ _ _=>(uA (dQ (pv 1))))
    (λ_ _ _ _ _=>(pv 0))))))))))))),?_⟩
 refine lQ (λσ' H'=>aV H H'/\∃(l:Addr) (xs:List V),σ'=[some (.ref a),some (.ref l)]/\H l=none/\H' l=some (.lst xs)/\Pbs Z.K H' xs ((List.range 2).map λi=>(kNm.getD i "",decide (i=j)))) (λX hX=>?_) ?_
 .refine⟨_,rfl,a,C,od,_,_,_,rfl,ea.same (aV.refl H),ex,rfl,λ_ h=>h,k0',zl9 2,λt0 ht0=>?_⟩;have u0:=aF ht0 (.tup [.str "NoNumber",.bl (decide (0=j))]);have w0:upd H t0 (.tup [.str "NoNumber",.bl (decide (0=j))]) t0=some (.tup [.str "NoNumber",.bl (decide (0=j))]):=aB;generalize upd H t0 (.tup [.str "NoNumber",.bl (decide (0=j))])=J0 at u0 w0 ⊢;refine⟨_,rfl,a,C,od,_,_,_,rfl,ea.same ((aV.refl H).trans u0),ex,rfl,λ_ h=>h,k1',zl9 2,λt1 ht1=>?_⟩;have u1:=aF ht1 (.tup [.str "NoPoint",.bl (decide (1=j))]);have w1:upd J0 t1 (.tup [.str "NoPoint",.bl (decide (1=j))]) t1=some (.tup [.str "NoPoint",.bl (decide (1=j))]):=aB;generalize upd J0 t1 (.tup [.str "NoPoint",.bl (decide (1=j))])=J1 at u1 w1 ⊢;refine⟨zl9 2,λM hM=>?_⟩;have uM:=aF hM (.lst [.ref t0,.ref t1]);have wM:upd J1 M (.lst [.ref t0,.ref t1]) M=some (.lst [.ref t0,.ref t1]):=aB;generalize upd J1 M (.lst [.ref t0,.ref t1])=JM at uM wM ⊢;have PB:Pbs Z.K JM [.ref t0,.ref t1] [("NoNumber",decide (0=j)),("NoPoint",decide (1=j))]:=.cons (uM.seqT (u1.seqT (SqT.of w0))) (.cons (uM.seqT (SqT.of w1)) .nil);exact hX _ _ ⟨((((aV.refl H).trans u0).trans u1).trans uM),M,_,rfl,(((aV.refl H).trans u0).trans u1).free hM,wM,PB⟩
 rintro σ2 G2 ⟨g2,l2,xs2,rfl,nl2,el2,Pl2⟩;refine lQ (λσ' H'=>aV H H'/\∃(l:Addr) (xs:List V),σ'=[some (.ref a),some (.ref l)]/\H l=none/\H' l=some (.lst xs)/\Pbs Z.K H' xs ((List.range 4).map λi=>(kNm.getD i "",decide (i=j)))) (λX hX=>?_) ?_
 .refine⟨_,rfl,?_⟩;refine⟨_,rfl,a,C,od,_,_,_,rfl,ea.same g2,ex,rfl,λ_ h=>h,k2',zl9 2,λt2 ht2=>?_⟩;have u2:=aF ht2 (.tup [.str "NoSize",.bl (decide (2=j))]);have w2:upd G2 t2 (.tup [.str "NoSize",.bl (decide (2=j))]) t2=some (.tup [.str "NoSize",.bl (decide (2=j))]):=aB;generalize upd G2 t2 (.tup [.str "NoSize",.bl (decide (2=j))])=J2 at u2 w2 ⊢;refine⟨_,rfl,a,C,od,_,_,_,rfl,ea.same (g2.trans u2),ex,rfl,λ_ h=>h,k3',zl9 2,λt3 ht3=>?_⟩;have u3:=aF ht3 (.tup [.str "NoRow",.bl (decide (3=j))]);have w3:upd J2 t3 (.tup [.str "NoRow",.bl (decide (3=j))]) t3=some (.tup [.str "NoRow",.bl (decide (3=j))]):=aB;generalize upd J2 t3 (.tup [.str "NoRow",.bl (decide (3=j))])=J3 at u3 w3 ⊢;refine⟨zl9 2,λM hM=>?_⟩;have uM:=aF hM (.lst [.ref t2,.ref t3]);have wM:upd J3 M (.lst [.ref t2,.ref t3]) M=some (.lst [.ref t2,.ref t3]):=aB;generalize upd J3 M (.lst [.ref t2,.ref t3])=JM at uM wM ⊢;have PB:Pbs Z.K JM [.ref t2,.ref t3] [("NoSize",decide (2=j)),("NoRow",decide (3=j))]:=.cons (uM.seqT (u3.seqT (SqT.of w2))) (.cons (uM.seqT (SqT.of w3)) .nil);have elM:=(u2.trans (u3.trans uM)) _ _ el2;have lx:=Pl2.length;rw[length_map,length_range] at lx;refine⟨l2,M,_,_,rfl,rfl,elM,wM,by rw[lx,sizeLine_eq];show 2+2<=_;lia,λp hp=>?_⟩;have up:=aF hp (.lst (xs2++[.ref t2,.ref t3]));exact hX _ _ ⟨((g2.trans u2).trans u3).trans (uM.trans up),p,_,rfl,(((g2.trans u2).trans u3).trans uM).free hp,aB,((Pl2.same (u2.trans (u3.trans uM))).app PB).same up⟩
 rintro σ4 G4 ⟨g4,l4,xs4,rfl,nl4,el4,Pl4⟩;refine lQ (λσ' H'=>aV H H'/\∃(l:Addr) (xs:List V),σ'=[some (.ref a),some (.ref l)]/\H l=none/\H' l=some (.lst xs)/\Pbs Z.K H' xs ((List.range 6).map λi=>(kNm.getD i "",decide (i=j)))) (λX hX=>?_) ?_
 .refine⟨_,rfl,?_⟩;refine⟨_,rfl,a,C,od,_,_,_,rfl,ea.same g4,ex,rfl,λ_ h=>h,k4',zl9 2,λt4 ht4=>?_⟩;have u4:=aF ht4 (.tup [.str "NoWord",.bl (decide (4=j))]);have w4:upd G4 t4 (.tup [.str "NoWord",.bl (decide (4=j))]) t4=some (.tup [.str "NoWord",.bl (decide (4=j))]):=aB;generalize upd G4 t4 (.tup [.str "NoWord",.bl (decide (4=j))])=J4 at u4 w4 ⊢;refine⟨_,rfl,a,C,od,_,_,_,rfl,ea.same (g4.trans u4),ex,rfl,λ_ h=>h,k5',zl9 2,λt5 ht5=>?_⟩;have u5:=aF ht5 (.tup [.str "NoName",.bl (decide (5=j))]);have w5:upd J4 t5 (.tup [.str "NoName",.bl (decide (5=j))]) t5=some (.tup [.str "NoName",.bl (decide (5=j))]):=aB;generalize upd J4 t5 (.tup [.str "NoName",.bl (decide (5=j))])=J5 at u5 w5 ⊢;refine⟨zl9 2,λM hM=>?_⟩;have uM:=aF hM (.lst [.ref t4,.ref t5]);have wM:upd J5 M (.lst [.ref t4,.ref t5]) M=some (.lst [.ref t4,.ref t5]):=aB;generalize upd J5 M (.lst [.ref t4,.ref t5])=JM at uM wM ⊢;have PB:Pbs Z.K JM [.ref t4,.ref t5] [("NoWord",decide (4=j)),("NoName",decide (5=j))]:=.cons (uM.seqT (u5.seqT (SqT.of w4))) (.cons (uM.seqT (SqT.of w5)) .nil);have elM:=(u4.trans (u5.trans uM)) _ _ el4;have lx:=Pl4.length;rw[length_map,length_range] at lx;refine⟨l4,M,_,_,rfl,rfl,elM,wM,by rw[lx,sizeLine_eq];show 4+2<=_;lia,λp hp=>?_⟩;have up:=aF hp (.lst (xs4++[.ref t4,.ref t5]));exact hX _ _ ⟨((g4.trans u4).trans u5).trans (uM.trans up),p,_,rfl,(((g4.trans u4).trans u5).trans uM).free hp,aB,((Pl4.same (u4.trans (u5.trans uM))).app PB).same up⟩
 rintro σ6 G6 ⟨g6,l6,xs6,rfl,nl6,el6,Pl6⟩;refine lQ (λσ' H'=>aV H H'/\∃(l:Addr) (xs:List V),σ'=[some (.ref a),some (.ref l)]/\H l=none/\H' l=some (.lst xs)/\Pbs Z.K H' xs ((List.range 8).map λi=>(kNm.getD i "",decide (i=j)))) (λX hX=>?_) ?_
 .refine⟨_,rfl,?_⟩;refine⟨_,rfl,a,C,od,_,_,_,rfl,ea.same g6,ex,rfl,λ_ h=>h,k6',zl9 2,λt6 ht6=>?_⟩;have u6:=aF ht6 (.tup [.str "NoStreams",.bl (decide (6=j))]);have w6:upd G6 t6 (.tup [.str "NoStreams",.bl (decide (6=j))]) t6=some (.tup [.str "NoStreams",.bl (decide (6=j))]):=aB;generalize upd G6 t6 (.tup [.str "NoStreams",.bl (decide (6=j))])=J6 at u6 w6 ⊢;refine⟨_,rfl,a,C,od,_,_,_,rfl,ea.same (g6.trans u6),ex,rfl,λ_ h=>h,k7',zl9 2,λt7 ht7=>?_⟩;have u7:=aF ht7 (.tup [.str "NoRoad",.bl (decide (7=j))]);have w7:upd J6 t7 (.tup [.str "NoRoad",.bl (decide (7=j))]) t7=some (.tup [.str "NoRoad",.bl (decide (7=j))]):=aB;generalize upd J6 t7 (.tup [.str "NoRoad",.bl (decide (7=j))])=J7 at u7 w7 ⊢;refine⟨zl9 2,λM hM=>?_⟩;have uM:=aF hM (.lst [.ref t6,.ref t7]);have wM:upd J7 M (.lst [.ref t6,.ref t7]) M=some (.lst [.ref t6,.ref t7]):=aB;generalize upd J7 M (.lst [.ref t6,.ref t7])=JM at uM wM ⊢;have PB:Pbs Z.K JM [.ref t6,.ref t7] [("NoStreams",decide (6=j)),("NoRoad",decide (7=j))]:=.cons (uM.seqT (u7.seqT (SqT.of w6))) (.cons (uM.seqT (SqT.of w7)) .nil);have elM:=(u6.trans (u7.trans uM)) _ _ el6;have lx:=Pl6.length;rw[length_map,length_range] at lx;refine⟨l6,M,_,_,rfl,rfl,elM,wM,by rw[lx,sizeLine_eq];show 6+2<=_;lia,λp hp=>?_⟩;have up:=aF hp (.lst (xs6++[.ref t6,.ref t7]));exact hX _ _ ⟨((g6.trans u6).trans u7).trans (uM.trans up),p,_,rfl,(((g6.trans u6).trans u7).trans uM).free hp,aB,((Pl6.same (u6.trans (u7.trans uM))).app PB).same up⟩
 rintro σ8 G8 ⟨g8,l8,xs8,rfl,nl8,el8,Pl8⟩;refine lQ (λσ' H'=>aV H H'/\∃(l:Addr) (xs:List V),σ'=[some (.ref a),some (.ref l)]/\H l=none/\H' l=some (.lst xs)/\Pbs Z.K H' xs ((List.range 10).map λi=>(kNm.getD i "",decide (i=j)))) (λX hX=>?_) ?_
 .refine⟨_,rfl,?_⟩;refine⟨_,rfl,a,C,od,_,_,_,rfl,ea.same g8,ex,rfl,λ_ h=>h,k8',zl9 2,λt8 ht8=>?_⟩;have u8:=aF ht8 (.tup [.str "TooMany",.bl (decide (8=j))]);have w8:upd G8 t8 (.tup [.str "TooMany",.bl (decide (8=j))]) t8=some (.tup [.str "TooMany",.bl (decide (8=j))]):=aB;generalize upd G8 t8 (.tup [.str "TooMany",.bl (decide (8=j))])=J8 at u8 w8 ⊢;refine⟨_,rfl,a,C,od,_,_,_,rfl,ea.same (g8.trans u8),ex,rfl,λ_ h=>h,k9',zl9 2,λt9 ht9=>?_⟩;have u9:=aF ht9 (.tup [.str "Lame",.bl (decide (9=j))]);have w9:upd J8 t9 (.tup [.str "Lame",.bl (decide (9=j))]) t9=some (.tup [.str "Lame",.bl (decide (9=j))]):=aB;generalize upd J8 t9 (.tup [.str "Lame",.bl (decide (9=j))])=J9 at u9 w9 ⊢;refine⟨zl9 2,λM hM=>?_⟩;have uM:=aF hM (.lst [.ref t8,.ref t9]);have wM:upd J9 M (.lst [.ref t8,.ref t9]) M=some (.lst [.ref t8,.ref t9]):=aB;generalize upd J9 M (.lst [.ref t8,.ref t9])=JM at uM wM ⊢;have PB:Pbs Z.K JM [.ref t8,.ref t9] [("TooMany",decide (8=j)),("Lame",decide (9=j))]:=.cons (uM.seqT (u9.seqT (SqT.of w8))) (.cons (uM.seqT (SqT.of w9)) .nil);have elM:=(u8.trans (u9.trans uM)) _ _ el8;have lx:=Pl8.length;rw[length_map,length_range] at lx;refine⟨l8,M,_,_,rfl,rfl,elM,wM,by rw[lx,sizeLine_eq];show 8+2<=_;lia,λp hp=>?_⟩;have up:=aF hp (.lst (xs8++[.ref t8,.ref t9]));exact hX _ _ ⟨((g8.trans u8).trans u9).trans (uM.trans up),p,_,rfl,(((g8.trans u8).trans u9).trans uM).free hp,aB,((Pl8.same (u8.trans (u9.trans uM))).app PB).same up⟩
 rintro σ10 G10 ⟨g10,l10,xs10,rfl,nl10,el10,Pl10⟩;refine lQ (λσ' H'=>aV H H'/\∃(l:Addr) (xs:List V),σ'=[some (.ref a),some (.ref l)]/\H l=none/\H' l=some (.lst xs)/\Pbs Z.K H' xs ((List.range 12).map λi=>(kNm.getD i "",decide (i=j)))) (λX hX=>?_) ?_
 .refine⟨_,rfl,?_⟩;refine⟨_,rfl,a,C,od,_,_,_,rfl,ea.same g10,ex,rfl,λ_ h=>h,k10',zl9 2,λt10 ht10=>?_⟩;have u10:=aF ht10 (.tup [.str "Ring",.bl (decide (10=j))]);have w10:upd G10 t10 (.tup [.str "Ring",.bl (decide (10=j))]) t10=some (.tup [.str "Ring",.bl (decide (10=j))]):=aB;generalize upd G10 t10 (.tup [.str "Ring",.bl (decide (10=j))])=J10 at u10 w10 ⊢;refine⟨_,rfl,a,C,od,_,_,_,rfl,ea.same (g10.trans u10),ex,rfl,λ_ h=>h,k11',zl9 2,λt11 ht11=>?_⟩;have u11:=aF ht11 (.tup [.str "Floats",.bl (decide (11=j))]);have w11:upd J10 t11 (.tup [.str "Floats",.bl (decide (11=j))]) t11=some (.tup [.str "Floats",.bl (decide (11=j))]):=aB;generalize upd J10 t11 (.tup [.str "Floats",.bl (decide (11=j))])=J11 at u11 w11 ⊢;refine⟨zl9 2,λM hM=>?_⟩;have uM:=aF hM (.lst [.ref t10,.ref t11]);have wM:upd J11 M (.lst [.ref t10,.ref t11]) M=some (.lst [.ref t10,.ref t11]):=aB;generalize upd J11 M (.lst [.ref t10,.ref t11])=JM at uM wM ⊢;have PB:Pbs Z.K JM [.ref t10,.ref t11] [("Ring",decide (10=j)),("Floats",decide (11=j))]:=.cons (uM.seqT (u11.seqT (SqT.of w10))) (.cons (uM.seqT (SqT.of w11)) .nil);have elM:=(u10.trans (u11.trans uM)) _ _ el10;have lx:=Pl10.length;rw[length_map,length_range] at lx;refine⟨l10,M,_,_,rfl,rfl,elM,wM,by rw[lx,sizeLine_eq];show 10+2<=_;lia,λp hp=>?_⟩;have up:=aF hp (.lst (xs10++[.ref t10,.ref t11]));exact hX _ _ ⟨((g10.trans u10).trans u11).trans (uM.trans up),p,_,rfl,(((g10.trans u10).trans u11).trans uM).free hp,aB,((Pl10.same (u10.trans (u11.trans uM))).app PB).same up⟩
 rintro σ12 G12 ⟨g12,l12,xs12,rfl,nl12,el12,Pl12⟩;have lx:=Pl12.length;rw[length_map,length_range] at lx;refine⟨_,rfl,.inl ⟨rfl,_,SqL.of el12⟩,_,rfl,a,C,od,_,_,_,rfl,ea.same g12,ex,rfl,λ_ h=>h,k12',zl9 2,λt12 ht12=>?_⟩;have u12:=aF ht12 (.tup [.str "Held",.bl (decide (12=j))]);have w12:upd G12 t12 (.tup [.str "Held",.bl (decide (12=j))]) t12=some (.tup [.str "Held",.bl (decide (12=j))]):=aB;generalize upd G12 t12 (.tup [.str "Held",.bl (decide (12=j))])=J12 at u12 w12 ⊢;have el13:=u12 _ _ el12;refine⟨l12,xs12,.ref t12,rfl,rfl,el13,bK (),?_⟩;have sG:=(g12.trans u12).change nl12 (o:=.lst (xs12++[.ref t12]));have PB:Pbs Z.K (upd J12 l12 (.lst (xs12++[.ref t12]))) (xs12++[.ref t12]) ((List.range 13).map λi=>(kNm.getD i "",decide (i=j))):=by
  have sq:∀{t:Addr} {p:Str × Bool},SqT Z.K J12 t [.str p.1,.bl p.2]->SqT Z.K (upd J12 l12 (.lst (xs12++[.ref t12]))) t [.str p.1,.bl p.2]:=λh=>SqT.upd h el13;have go:∀{xs:List V} {ps:List (Str × Bool)},Pbs Z.K J12 xs ps->Pbs Z.K (upd J12 l12 (.lst (xs12++[.ref t12]))) xs ps:=λh=>by
   induction h with
   |nil=>exact .nil
   |cons h _ ih=>exact .cons (sq h) ih
  exact go ((Pl12.same u12).app (.cons (p:=("Held",decide (12=j))) (SqT.of w12) .nil))
 have el14:upd J12 l12 (.lst (xs12++[.ref t12])) l12=some (.lst (xs12++[.ref t12])):=aB
 try dsimp only
 generalize upd J12 l12 (.lst (xs12++[.ref t12]))=G at sG PB el14 ⊢;refine⟨_,rfl,a,C,od,_,_,_,rfl,ea.same sG,ex,rfl,λ_ h=>h,kc.ve,_,rfl,L2.ifF rfl ?_⟩;refine⟨_,rfl,l12,rfl,⟨_,SqL.of el14⟩,λD hD=>?_⟩;have sD:=aF hD (.lst []);have lP:=PB.length;refine fC (xs:=xs12++[.ref t12]) (λi zs H'=>aV G H'/\H' D=some (.lst zs)/\zs=(((((List.range 13).map λi=>(kNm.getD i "",decide (i=j))).take i).filter λp=>p.2).map λp=>V.str p.1)) ⟨sD,aB,rfl⟩ (λi zs H' h=>h.2.1) (λi zs H' _ h=>SqL.of (h.1 _ _ el14)) ?_ ?_
 .rintro i zs x H4 hx ⟨s4,e4,rfl⟩ C' hC;obtain⟨tt,p,rfl,hp,hT⟩:=(PB.same s4).at hx;have hi:i < 13:=by have:=(List.getElem?_eq_some_iff.mp hp).1;rw[length_map,length_range] at this;exact this
  refine⟨tt,_,rfl,hT,rfl,_,_,rfl,_,_,rfl,rfl,lC.1,lC.2,?_⟩;have tk:((List.range 13).map λi=>(kNm.getD i "",decide (i=j))).take (i+1)=((List.range 13).map λi=>(kNm.getD i "",decide (i=j))).take i++[p]:=by rw[take_add_one,hp];rfl
  refine⟨_,rfl,_,rfl,?_⟩
  cases hb:p.2 with
  |false=>
   refine L2.ifF rfl (hC _ _ ⟨s4,e4,?_⟩);rw[tk,filter_append,filter_cons_of_neg (by rw[hb];simp)];simp
  |true=>
   refine L2.ifT rfl ⟨_,rfl,e4,bK ?_,hC _ _ ⟨s4.change hD,aB,?_⟩⟩
   .rw[length_map];have:=length_filter_le (λp:Str × Bool=>p.2) (((List.range 13).map λi=>(kNm.getD i "",decide (i=j))).take i);rw[length_take] at this;lia
   .rw[tk,filter_append,filter_cons_of_pos hb,map_append];rfl
 .rintro zs H4 ⟨s4,e4,rfl⟩;rw[lP,take_length,qb0 hj] at e4;exact q D H4 (sG.trans s4) (sG.free hD) e4
theorem Y86:DZ 2 Z.f86 Z.d86 ["_law_cell","_law_word"] (Ch Z.K) "_law_new_size":=by
 refine⟨?_,F86.b2 _ _ (by intros;rfl),F86.kp,m86⟩
 refine F86.ok9 Bb λ_ _ _ s H _ Q E hr h=>?_;obtain⟨c,k,rfl,q⟩:=h;have r1:=hr;refine⟨_,(aD (qQ0 (i:=2) Bb.nd (aY iW (d9 Y75 r1 rfl (aA (pv 0) (aA aE (aA aE aC)))) aE))
  (aD (cC (bA eQ (pv 1) bV (bC _)) (aG (qQ0 (i:=2) Bb.nd (aY dS aE (bL qX rfl bl.abs PyProof.Rows.boot_abs (aA (pv 2) aC))))) bF)
  (aD (cC (bA eQ (d9 Y75 r1 rfl (aA (pv 0) (aA aE (aA aE aC)))) aE (bC _)) (aG (qQ0 (i:=2) Bb.nd (aY dS aE (aY mM (d9 Y76 r1 rfl (aA (pv 0) (aA aE aC))) (aY lV aE aE))))) bF)
  (aG (aT (d9 Y77 r1 rfl (aA (pv 2) (aA (aY dS aE (d9 Y75 r1 rfl (aA (pv 0) (aA aE (aA aE aC))))) aC)))))))),?_⟩
 refine⟨_,rfl,c,3,121,rfl,∅,∅,∅,λy H1 y0 y1 s1=>⟨_,_,rfl,rfl,?_⟩⟩
 try dsimp only
 refine lQ (λσ' H'=>H'=H1/\∃t:Int,σ'=[some (.int c),some (.str k.wd),some (.int t)]/\t.natAbs<=61/\(k=.pc->0 < t)) (λX hX=>?_) ?_
 .by_cases hk:k=.pc
  .refine⟨_,rfl,rfl,_,rfl,L2.ifT (by show decide (V.str k.wd=V.str "piece")=true;rw[zR];exact decide_eq_true hk) ?_⟩;refine⟨_,rfl,_,rfl,_,_,rfl,rfl,?_⟩;refine hX _ _ ⟨rfl,1+(if y - 60 < 0 then -(y - 60) else y - 60),rfl,?_,λ_=>?_⟩
   .split<;>lia
   .split<;>lia
  .refine⟨_,rfl,rfl,_,rfl,L2.ifF (by show decide (V.str k.wd=V.str "piece")=false;rw[zR];exact decide_eq_false hk) ?_⟩;exact hX _ _ ⟨rfl,y - 60,rfl,(),λz=>absurd z hk⟩
 rintro σ2 H2 ⟨rfl,t,rfl,t61,tp⟩;refine lQ (λσ' H'=>aV H2 H'/\∃t:Int,σ'=[some (.int c),some (.str k.wd),some (.int t)]/\t.natAbs<=1000000000/\(k=.pc->0 < t)) (λX hX=>?_) ?_
 .refine⟨_,rfl,c,7,9,rfl,∅,∅,∅,λg H3 _ _ s3=>⟨rfl,_,rfl,pC (λ_=>?_) (λ_=>?_)⟩⟩
  .refine⟨_,rfl,c,1,rfl,∅,∅,λu u1 u2=>?_⟩;clear u1 u2;refine⟨_,_,rfl,rfl,⟨∅,∅,∅⟩,_,_,rfl,rfl,(show (0:Int) < 10 ^ (9:Int).toNat by decide),_,_,rfl,rfl,?_⟩;have p9:(10:Int) ^ (9:Int).toNat=1000000000:=by decide
   have f0:=Int.emod_nonneg u (show (10 ^ (9:Int).toNat:Int)≠0 by decide);have f9:=Int.emod_lt_of_pos u (show (0:Int) < 10 ^ (9:Int).toNat by decide);refine hX _ _ ⟨s3,1+u % 10 ^ (9:Int).toNat,rfl,?_,λ_=>by lia⟩;generalize u % (10 ^ (9:Int).toNat)=v at f0 f9 ⊢;rw[p9] at f9;lia
  .exact hX _ _ ⟨s3,t,rfl,(),tp⟩
 rintro σ3 H3 ⟨s3,t',rfl,t9,tp'⟩;refine⟨_,rfl,_,rfl,c,4,12,rfl,∅,∅,∅,λb' H4 b0 b1 s4=>⟨_,_,rfl,rfl,?_⟩⟩;have bn:1+b'≠0:=by lia
 have le:=mX (t:=t') bn;have bT:Mq.B 31 t':=Nat.lt_of_le_of_lt t9 ∅;have bB:Mq.B 31 (1+b'):=tW () ();have l2:=le.2;refine⟨t',1+b',31,rfl,bn,bB,(),pI.same (s1.trans (s3.trans s4)) (q _ (gX bn) ⟨bT.le le.1,bB.le le.2⟩ () λhk=>Jn (tp' hk) ())⟩
theorem X13:dE Z.K Z.c_Watch "change" Z.f65:=⟨a65_0,i65,F65.kp⟩
theorem Y87:DZ 12 Z.f87 Z.d87 ["_law_watch","_law_k","_law_size_here"] (zX Z.c_Net Z.c_Answer Z.c_Watch Z.c_NoRow Z.c_NoSize Z.K) "_law_change":=by
 refine⟨?_,F87.b3 _ _ _ (by intros;rfl),F87.kp,m87⟩
 refine F87.ok9 sQ λcdv A outer s H vs Q E hr h=>?_;obtain⟨x,v,z,m,L,ds,o,oz,rfl,WA,DW,hp,hz,hb,qR,q⟩:=h;obtain⟨CO,mO,eR,eZ⟩:=oc.oe;refine⟨_,(aD (qQ0 (i:=3) sQ.nd xT)
  (aD (qQ0 (i:=4) sQ.nd xT)
  (aD (qi1 ⟨rfl,rfl,rfl⟩ (Ot (Vk (i:=4) sQ.nd rfl (Or.inl rfl) (Xh (pv 0) WBx.cl X13 R65 ⟨rfl,rfl,rfl⟩ hr b65 .nil (aA (pv 1) (aA (pv 2) aC))))) bF (qq7 (j:=5) ⟨rfl,rfl,rfl⟩ sQ.nd rfl rfl rfl (.inl mO) (λa=>aG (qQ0 (i:=3) sQ.nd (pv 5))) Oi))
  (aG (aT (cF (aA (pv 4) (aA (pv 3) aC)))))))),?_⟩
 obtain⟨dx,a,n,hw⟩:=jM WA;refine⟨_,rfl,x,dx,_,rfl,hw,fH _ _ ∅ ∅,_,rfl,_,rfl,x,v,z,m,L,ds,o,oz,rfl,WA,DW,hp,hz,hb,λe H' s' a ha=>⟨true,eR,?_⟩,λk d e hd=>⟨λc H' s' a ha=>⟨true,eZ,?_⟩,λp ez eo=>?_⟩⟩
 .rw[if_pos rfl];refine⟨_,rfl,_,rfl,_,rfl,zl9 2,λt ht=>?_⟩;have sa:=aF ha (pV a (.ref Z.c_NoRow) none);have st:=aF ht (.tup [V.non,.ref a]);exact qR e t a _ (s'.trans (sa.trans st)) (SqT.of aB) (st _ _ aB)
 .rw[if_pos rfl];refine⟨_,rfl,_,rfl,_,rfl,zl9 2,λt ht=>?_⟩;have sa:=aF ha (pV a (.ref Z.c_NoSize) none);have st:=aF ht (.tup [V.non,.ref a]);exact(q k d e hd).1 c t a _ (s'.trans (sa.trans st)) (SqT.of aB) (st _ _ aB)
 .obtain⟨sz,q9⟩:=(q k d e hd).2 p ez eo;refine⟨sz,λr q' H' sx fr FR W1 W2=>?_⟩;refine⟨_,rfl,_,rfl,zl9 2,λt ht=>?_⟩;have st:=aF ht (.tup [V.ref r,.non]);exact q9 t r q' _ (λb ob h nb=>st _ _ (sx b ob h nb)) (SqT.of aB) (st.fq fr) FR (λX hX=>(W1 X hX).same st) (λX hX=>(W2 X hX).same st)
theorem X14:dE Z.K Z.c_Watch "heights" Z.f66:=⟨a66_0,i66,F66.kp⟩
theorem X15:dE Z.K Z.c_Watch "streams" Z.f67:=⟨a67_0,i67,F67.kp⟩
theorem Y88:DZ 10 Z.f88 Z.d88 ["_law_watch","_law_many","_law_rows","_law_turned"] (Ua Z.c_Net Z.c_Answer Z.c_Watch Z.K) "_law_as_answered":=by
 refine⟨?_,F88.b4 _ _ _ _ (by intros;rfl),F88.kp,m88⟩
 refine F88.ok9 Yv λ_ _ _ s H _ Q E hr h=>?_;obtain⟨x,r,us,m,L,ds,f,rfl,WA,DW,hS,hR,q⟩:=h;have r1:=hr.mono (show 1<=9 by lia);have r2:=hr.mono (show 2<=9 by lia);have r6:=hr.mono (show 6<=9 by lia);have hu:=hr.units;have o:=DW.o;have m5:=DW.m5;have len:=DW.len;refine⟨_,(aD (qQ0 (i:=4) Yv.nd (gN MA R54 hr rfl ABx.mA b54 .nil aK (aA (d9 Y82 r6 rfl (aA (pv 1) (aA (pv 2) aC))) aC)))
  (aD (cC (PW.pt (rT (dQ (pv 3)) (nQ (bA (pG hu) (bN (pv 0) WBx.cl X14 R66 r2 b66 .nil aK) (bN (pv 4) ABx.cl X7 R55 r1 b55 .nil aK) (bC _))))) (aG (aT gY)) bF)
  (aG (aT (tD (gL (kO hu) (bN (pv 0) WBx.cl X15 R67 r2 b67 .nil aK) (bN (pv 4) ABx.cl X10 R56 r1 b56 .nil aK) (bC _)) (xG (gL (kO hu) (bN (pv 0) WBx.cl X14 R66 r2 b66 .nil aK) (bN (pv 4) ABx.cl X7 R55 r1 b55 .nil aK) (bC _)))))))),?_⟩
 refine⟨_,rfl,_,rfl,(m:Int),r,us,ds,rfl,by have:=o.m1;lia,(),hS,hR,λd hd=>(DW.ok d hd).1,(),λn l H1 s1 nl nt=>?_⟩;refine λxa dxa hx0 hdx nxd=>?_;have sm:=jQ (C:=Z.c_Answer) hx0 hdx;refine⟨xa,dxa,n,l,m,190,_,L,ds,rfl,aB,DW.net (nt.same sm),Nat.le_trans DW.bwle ∅,DW.eR,iG oK o.pt () o.fr _ (Nat.le_refl _),oO o,λps H2 sx2 an lps lo OV SV LE=>⟨rfl,?_⟩⟩;have s02:=s1.trans (kH hx0 hdx sx2);obtain⟨dxa',li,le,fo,xs,ys,ha,hle,Fle,hfo,Ffo,_⟩:=an.e;have AT:vK Z.c_Answer Z.K H2 xa (lvS m ps) (pU (lvS m ps) (ps.drop (m - 1)) 0 ds):=⟨dxa',li,le,fo,xs,ys,ha,SqL.of hle,Fle,SqL.of hfo,Ffo⟩
 have AV:rV m ds (lvS m ps) (pU (lvS m ps) (ps.drop (m - 1)) 0 ds):=⟨ps,rfl,rfl,lps,lo,OV,SV⟩
 generalize lvS m ps=lv at AT AV;generalize pU lv (ps.drop (m - 1)) 0 ds=fl at AT AV;obtain⟨dx,a,n',hw⟩:=jM WA;have noW:∀{a n:Addr} {x:Str},¬x = "current"->¬x = "followed"->(fU a n).lookup x=none:=fH _ _
 try dsimp only
 refine lQ (λσ' H'=>aV H2 H'/\σ'=[some (.ref x),some (.int (m:Int)),some (.ref r),some (.bl f),some (.ref xa)]) (λX hX=>?_) ?_
 .refine⟨_,rfl,_,rfl,?_⟩
  cases f with
  |false=>exact L2.ifF rfl (L2.ifF rfl (hX _ _ ⟨aV.refl _,rfl⟩))
  |true=>
   refine L2.ifT rfl ?_;refine⟨_,rfl,x,dx,_,rfl,s02 _ _ hw,fH _ _ ∅ ∅,x,m,ds,rfl,WA.same s02,λlv' fl' AV' l1 xs1 H3 s3 n3 e3 F3=>?_⟩;obtain⟨rfl,rfl⟩:=AV.uni o AV';refine⟨_,rfl,xa,dxa',_,rfl,s3 _ _ ha,gS _ _ _ ∅ ∅ ∅,xa,lv,fl,rfl,AT.same s3,λl2 xs2 H4 s4 n4 e4 F4=>?_⟩;exact zZ (SqL.of (s4 _ _ e3)) (SqL.of e4) (F3.same s4) F4 ⟨_,rfl,L2.ifF rfl (hX _ _ ⟨s3.trans s4,rfl⟩)⟩
 rintro σ3 H3 ⟨s3,rfl⟩;have s03:=s02.trans s3;refine⟨_,rfl,x,dx,_,rfl,s03 _ _ hw,fH _ _ ∅ ∅,x,m,ds,rfl,WA.same s03,λlv' fl' AV' l1 xs1 H4 s4 n4 e4 F4=>?_⟩;obtain⟨rfl,rfl⟩:=AV.uni o AV';have s34:=s3.trans s4;refine⟨_,rfl,xa,dxa',_,rfl,s34 _ _ ha,gS _ _ _ ∅ ∅ ∅,xa,lv,fl,rfl,AT.same s34,λl2 xs2 H5 s5 n5 e5 F5=>?_⟩;refine zZ (SqL.of (s5 _ _ e4)) (SqL.of e5) (F4.same s5) F5 ⟨_,rfl,gC ?_⟩;have s35:=s34.trans s5;have s05:=s02.trans s35;refine⟨_,rfl,x,dx,_,rfl,s05 _ _ hw,fH _ _ ∅ ∅,x,m,ds,rfl,WA.same s05,λlv' fl' AV' l3 xs3 H6 s6 n6 e6 F6=>?_⟩;obtain⟨rfl,rfl⟩:=AV.uni o AV';have s36:=s35.trans s6;refine⟨_,rfl,xa,dxa',_,rfl,s36 _ _ ha,gS _ _ _ ∅ ∅ ∅,xa,lv,fl,rfl,AT.same s36,λl4 xs4 H7 s7 n7 e7 F7=>?_⟩;exact zZ (SqL.of (s7 _ _ e6)) (SqL.of e7) (F6.same s7) F7 (q H7 (s05.trans (s6.trans s7)))
theorem Y89:DZ 13 Z.f89 Z.d89 ["_law_watch","_law_many","_law_rows","_law_cell"] (Rx Z.c_Net Z.c_Answer Z.c_Watch Z.K) "_law_refused":=by
 refine⟨?_,F89.b4 _ _ _ _ (by intros;rfl),F89.kp,m89⟩
 refine F89.ok9 zF λ_ _ _ s H _ Q E hr h=>?_;obtain⟨x,r,c,us,m,L,ds,rfl,WA,DW,hS,hR,q⟩:=h;have r1:=hr.mono (show 1<=12 by lia);have r2:=hr.mono (show 2<=12 by lia);have hu:=hr.units;have lus:=hR.length;have len:=DW.len;refine⟨_,(aD (qQ0 (i:=4) zF.nd (aH Y86.G r2 rfl m86 F86.kp Y86.b .nil aK (aA (pv 3) (aA bV aC))))
  (aD (qQ0 (i:=5) zF.nd (aW cA (cD (aA (Eu wR aE) (aA (bL bQ rfl n_len PySem.boot_len (aA (pv 2) aC)) (aA gY (aA xT (aA (cF (aA aE (aA aE aC))) aC)))))) (aH Y75.G r1 rfl m75 F75.kp Y75.b .nil aK (aA (pv 3) (aA aE (aA aE aC)))) (λ_ _=>rfl)))
  (aD (cC (bA (pG hu) (aH Y85.G r1 rfl m85 F85.kp Y85.b .nil aK (aA (aW aZ (aH Y87.G hr rfl m87 F87.kp Y87.b .nil aK (aA (pv 0) (aA (pv 5) (aA (aW cA (cD (aA (pv 4) (aA (cF (aA aE (aA aE aC))) aC))) (aH Y75.G r1 rfl m75 F75.kp Y75.b .nil aK (aA (pv 3) (aA aE (aA aE aC)))) (λ_ _=>rfl)) aC)))) aE (λ_ _=>rfl)) aC)) (cD (aA bV aC)) (bC _)) (aG (aT gY)) bF)
  (aD (cC (bA (kO hu) (pv 2) (cD aC) (bC _)) (aG (aT gY)) bF)
  (aD (qQ0 (i:=6) zF.nd (aH Y75.G r1 rfl m75 F75.kp Y75.b .nil aK (aA (pv 3) (aA aE (aA (bL bQ rfl n_len PySem.boot_len (aA (pv 2) aC)) aC)))))
  (aD (qQ0 (i:=7) zF.nd (aW cA (cD (aA (cF (aA (aY oZ aE (aW aZ (pv 4) aE (λ_ _=>rfl))) (aA (aY oZ aE (aW aZ (pv 4) aE (λ_ _=>rfl))) aC))) (aA (aW aZ (pv 4) aE (λ_ _=>rfl)) (aA (cD (aA aE (aA aE aC))) (aA xT (aA (cF (aA aE (aA aE aC))) aC)))))) (aH Y75.G r1 rfl m75 F75.kp Y75.b .nil aK (aA (pv 3) (aA aE (aA aE aC)))) (λ_ _=>rfl)))
  (aD (cC (bA eQ (aW aZ (aW cA (pv 2) (pv 6) (λ_ _=>rfl)) aE (λ_ _=>rfl)) bV (bC _)) (aG (qQ0 (i:=7) zF.nd (aW cA (cD (aA (pv 7) (aA (cF (aA aE (aA aE aC))) (aA (cF (aA (Eu wR aE) (aA aE aC))) aC)))) (aH Y75.G r1 rfl m75 F75.kp Y75.b .nil aK (aA (pv 3) (aA aE (aA aE aC)))) (λ_ _=>rfl)))) bF)
  (aG (aT (gL (kO hu) (aH Y85.G r1 rfl m85 F85.kp Y85.b .nil aK (aA (aW aZ (aH Y87.G hr rfl m87 F87.kp Y87.b .nil aK (aA (pv 0) (aA (pv 6) (aA (pv 7) aC)))) aE (λ_ _=>rfl)) aC)) (cD (aA bV aC)) (bC _))))))))))),?_⟩
 refine Ij (λσ' H'=>aV H H'/\∃(z1:Addr) (p:Q2) (x5:V),σ'=[some (.ref x),some (.int (m:Int)),some (.ref r),some (.int c),some (.ref z1),some x5,none,none]/\Fq Z.K H' z1 p/\Low p/\Bd 31 p/\∀H'',aV H' H''->Pn Z.K H'' (ds.length:Int) x5 none) (λX hX=>?_) ?_
 .refine⟨_,rfl,c,.pc,rfl,λp lp bp _ _ z1 H1 s1 e1=>?_⟩;refine⟨1,rfl,_,rfl,r,us,rfl,.inl (s1.seq hS),zl9 2,λt ht=>?_⟩;have s2:=aF ht (.tup [.int 0,.int 1]);have e2:upd H1 t (.tup [.int 0,.int 1]) t=some (.tup [.int 0,.int 1]):=aB;generalize upd H1 t (.tup [.int 0,.int 1])=H2 at s2 e2 ⊢;refine⟨zl9 5,λL hL=>?_⟩;have s3:=aF hL (.lst [V.int (-1),.int (us.length:Int),.bl true,.non,.ref t]);have e3:upd H2 L (.lst [V.int (-1),.int (us.length:Int),.bl true,.non,.ref t]) L=some (.lst [V.int (-1),.int (us.length:Int),.bl true,.non,.ref t]):=aB;generalize upd H2 L (.lst [V.int (-1),.int (us.length:Int),.bl true,.non,.ref t])=H3 at s3 e3 ⊢;refine⟨_,rfl,c,5,5,rfl,(),(),(),λj H4 j0 j5 s4=>?_⟩;obtain⟨x5,ex,hx⟩:=qg1 (K:=Z.K) us.length ((s3.trans s4) _ _ e2) j0 j5;exact⟨L,_,_,_,rfl,rfl,SqL.of (s4 _ _ e3),ex,hX _ _ ⟨s1.trans (s2.trans (s3.trans s4)),z1,p,x5,rfl,(s2.trans (s3.trans s4)).fq (Fq.of e1),lp,bp,by rw[<- lus];exact hx⟩⟩
 rintro σ4 H4 ⟨s4,z1,p,x5,rfl,fz,lp,bp,hx5⟩
 try dsimp only
 refine lQ (λσ' H'=>aV H4 H'/\σ'=[some (.ref x),some (.int (m:Int)),some (.ref r),some (.int c),some (.ref z1),some x5,none,none]) (λX hX=>?_) ?_
 .refine⟨_,rfl,_,rfl,_,rfl,zl9 2,λu hu1=>?_⟩;have s5:=aF hu1 (.tup [.int 2,.int 4]);have e5:upd H4 u (.tup [.int 2,.int 4]) u=some (.tup [.int 2,.int 4]):=aB;generalize upd H4 u (.tup [.int 2,.int 4])=H5 at s5 e5 ⊢;refine⟨zl9 2,λLL hLL=>?_⟩;have s6:=aF hLL (.lst [V.ref z1,.ref u]);have e6:upd H5 LL (.lst [V.ref z1,.ref u]) LL=some (.lst [V.ref z1,.ref u]):=aB;generalize upd H5 LL (.lst [V.ref z1,.ref u])=H6 at s6 e6 ⊢;refine⟨_,rfl,c,8,2,rfl,(),(),(),λj H7 j0 j2 s7=>?_⟩;have s47:=s5.trans (s6.trans s7);obtain⟨zv,oz,ev,hzv,bz⟩:∃(zv:V) (oz:Option Q2),atI [V.ref z1,.ref u] j=some zv/\Zv Z.K H7 zv oz/\Bz oz:=by
   have:j=0\/j=1:=by lia
   rcases this with rfl | rfl
   .exact⟨_,some p,rfl,.fr (s47.fq fz) lp,λq e=>by cases e;exact bp.mono ∅⟩
   .exact⟨_,none,rfl,.fb (p:=(2,4)) ((s6.trans s7).seqT (SqT.of e5)) (.inr ⟨∅,∅⟩),λq e=>by cases e⟩
  refine⟨LL,_,_,_,rfl,rfl,SqL.of (s7 _ _ e6),ev,?_⟩;have s07:=s4.trans s47;refine⟨x,x5,zv,m,L,ds,none,oz,rfl,WA.same s07,DW,hx5 _ s47,hzv,bz,λ_ t9 a H8 s8 hT ea=>?_,λk d e=>by cases e⟩;refine⟨t9,_,1,_,rfl,rfl,hT,rfl,?_⟩;refine⟨a,Z.c_NoRow,none,3,"NoRow",rfl,⟨ea,λdx e=>by cases e⟩,kR,rfl,λl1 H9 s9 n9 e9=>?_⟩;refine⟨zl9 1,λl2 hl2=>?_⟩;have sA:=aF hl2 (.lst [.str "NoRow"]);have eA:upd H9 l2 (.lst [.str "NoRow"]) l2=some (.lst [.str "NoRow"]):=aB;generalize upd H9 l2 (.lst [.str "NoRow"])=HA at sA eA ⊢;exact Ji (SqL.of (sA _ _ e9)) (SqL.of eA) ∅ ⟨_,rfl,L2.ifF rfl (hX _ _ ⟨s47.trans (s8.trans (s9.trans sA)),rfl⟩)⟩
 rintro σ5 H5 ⟨s5,rfl⟩;have s05:=s4.trans s5;have fz5:=s5.fq fz;clear hx5 fz s4 s5
 try dsimp only
 refine⟨_,rfl,zl9 0,λe he=>?_⟩;have s6:=aF he (.lst []);have e6:upd H5 e (.lst []) e=some (.lst []):=aB;generalize upd H5 e (.lst [])=H6 at s6 e6 ⊢;have s06:=s05.trans s6;refine Az (s06.seq hS) (hR.same s06) (SqL.of e6) ⟨_,rfl,?_⟩
 by_cases hd0:ds=[]
 .exact L2.ifT (by rw[hd0];rfl) (q H6 s06)
 refine L2.ifF (by cases hx:ds with | nil=>exact absurd hx hd0 | cons y ys=>rfl) ?_;have lpos:0 < us.length:=by rw[lus];exact length_pos_iff.mpr hd0
 refine⟨_,rfl,_,rfl,r,us,rfl,.inl (s06.seq hS),c,1,_,rfl,(),(),(),λkk H7 k0 kk1 s7=>?_⟩;obtain⟨k,rfl⟩:∃k:Nat,kk=(k:Int):=⟨kk.toNat,()⟩
 have s07:=s06.trans s7;obtain⟨d,hd⟩:∃d,ds[k]?=some d:=⟨_,getElem?_eq_getElem ()⟩
 have fz7:=(s6.trans s7).fq fz5;clear s05 s06 s6 fz5 e6
 try dsimp only
 refine Ij (λσ' H'=>aV H7 H'/\∃(z9:V) (oz:Option Q2),σ'=[some (.ref x),some (.int (m:Int)),some (.ref r),some (.int c),some (.ref z1),some x5,some (.int (k:Int)),some z9]/\Zv Z.K H' z9 oz/\Bz oz/\okz d.1 oz=false) (λX hX=>?_) ?_
 .refine⟨_,rfl,z1,_,0,_,rfl,rfl,fz7,rfl,_,_,rfl,rfl,Or.inl ⟨∅,∅⟩,_,rfl,z1,_,1,_,rfl,rfl,fz7,rfl,_,_,rfl,rfl,Or.inl ⟨∅,∅⟩,zl9 2,λu hu1=>?_⟩;have s8:=aF hu1 (.tup [.int (2*p.1),.int (2*p.2)]);have e8:upd H7 u (.tup [.int (2*p.1),.int (2*p.2)]) u=some (.tup [.int (2*p.1),.int (2*p.2)]):=aB;generalize upd H7 u (.tup [.int (2*p.1),.int (2*p.2)])=H8 at s8 e8 ⊢;refine⟨_,rfl,z1,_,0,_,rfl,rfl,s8.seqT fz7,rfl,zl9 2,λl hl=>?_⟩;have s9:=aF hl (.lst [.int 1,.int 2]);have e9:upd H8 l (.lst [.int 1,.int 2]) l=some (.lst [.int 1,.int 2]):=aB;generalize upd H8 l (.lst [.int 1,.int 2])=H9 at s9 e9 ⊢;refine⟨zl9 2,λt ht=>?_⟩;have sA:=aF ht (.tup [.int 1,.int 0]);have eA:upd H9 t (.tup [.int 1,.int 0]) t=some (.tup [.int 1,.int 0]):=aB;generalize upd H9 t (.tup [.int 1,.int 0])=HA at sA eA ⊢;refine⟨zl9 5,λL1 hL1=>?_⟩;have sB:=aF hL1 (.lst [V.ref u,.int p.1,.ref l,.non,.ref t]);have eB:upd HA L1 (.lst [V.ref u,.int p.1,.ref l,.non,.ref t]) L1=some (.lst [V.ref u,.int p.1,.ref l,.non,.ref t]):=aB;generalize upd HA L1 (.lst [V.ref u,.int p.1,.ref l,.non,.ref t])=HB at sB eB ⊢;refine⟨_,rfl,c,6,5,rfl,(),(),(),λj HC j0 j5 sC=>?_⟩;have sBC:=sB.trans sC;obtain⟨v9,ev,hv9⟩:=qh4 (K:=Z.K) (i:=p.1) lp.pos ((s9.trans (sA.trans sBC)).seqT (SqT.of e8)) ((sA.trans sBC) _ _ e9) (sBC.seqT (SqT.of eA)) j0 j5;refine⟨L1,_,_,_,rfl,rfl,SqL.of (sC _ _ eB),ev,?_⟩;have s7C:=s8.trans (s9.trans (sA.trans sBC));obtain⟨t8,z8,et,hT,_⟩:=(hR.same (s07.trans s7C)).at hd;obtain⟨kd,uu,vv,pp⟩:=d;refine⟨_,rfl,_,rfl,r,_,_,_,rfl,rfl,(s07.trans s7C).seq hS,cO et,t8,_,_,_,rfl,rfl,hT,rfl,rfl,_,rfl,?_⟩
  by_cases hk:kd=.pc
  .refine L2.ifT (by show decide (V.str kd.wd=V.str "piece")=true;rw[zR];exact decide_eq_true hk) ?_;refine⟨_,rfl,zl9 2,λa ha=>?_⟩;have sD:=aF ha (.tup [.int 0,.int 1]);have eD:upd HC a (.tup [.int 0,.int 1]) a=some (.tup [.int 0,.int 1]):=aB;generalize upd HC a (.tup [.int 0,.int 1])=HD at sD eD ⊢;refine⟨1,rfl,zl9 2,λb hb=>?_⟩;have sE:=aF hb (.tup [.int (-1),.int 3]);have eE:upd HD b (.tup [.int (-1),.int 3]) b=some (.tup [.int (-1),.int 3]):=aB;generalize upd HD b (.tup [.int (-1),.int 3])=HE at sE eE ⊢;refine⟨zl9 3,λL2' hL2=>?_⟩;have sF:=aF hL2 (.lst [v9,.ref a,.ref b]);have eF:upd HE L2' (.lst [v9,.ref a,.ref b]) L2'=some (.lst [v9,.ref a,.ref b]):=aB;generalize upd HE L2' (.lst [v9,.ref a,.ref b])=HF at sF eF ⊢;refine⟨_,rfl,c,2,3,rfl,(),(),(),λi HG i0 i3 sG=>?_⟩;have sCG:=sD.trans (sE.trans (sF.trans sG));subst hk;obtain⟨w9,oz,ew,hw,bz,oz0⟩:∃(w9:V) (oz:Option Q2),atI [v9,.ref a,.ref b] i=some w9/\Zv Z.K HG w9 oz/\Bz oz/\okz .pc oz=false:=by
    have:i=0\/i=1\/i=2:=by lia
    rcases this with rfl | rfl | rfl
    .exact⟨_,none,rfl,hv9 _ sCG,λq e=>(by cases e),rfl⟩
    .exact⟨_,some (0,1),rfl,.fr ((sE.trans (sF.trans sG)).seqT (SqT.of eD)) ⟨∅,∅⟩,λq e=>by cases e;exact⟨Nat.two_pow_pos _,Nat.one_lt_two_pow ∅⟩,∅⟩
    .exact⟨_,some (-1,3),rfl,.fr ((sF.trans sG).seqT (SqT.of eE)) ⟨∅,∅⟩,λq e=>by cases e;exact Bd.mono (n:=2) (m:=1000) ⟨by show (1:Nat) < 2 ^ 2;decide,by show (3:Nat) < 2 ^ 2;decide⟩ ∅,∅⟩
   exact⟨L2',_,_,_,rfl,rfl,SqL.of (sG _ _ eF),ew,hX _ _ ⟨s7C.trans sCG,w9,oz,rfl,hw,bz,oz0⟩⟩
  .refine L2.ifF (by show decide (V.str kd.wd=V.str "piece")=false;rw[zR];exact decide_eq_false hk) ?_;exact hX _ _ ⟨s7C,v9,none,rfl,hv9 _ (aV.refl _),λq e=>(by cases e),rfl⟩
 rintro σ8 H8 ⟨s8,z9,oz,rfl,hz9,bz,oz0⟩;have s08:=s07.trans s8;refine⟨_,rfl,_,rfl,_,rfl,x,.int (k:Int),z9,m,L,ds,some (k:Int),oz,rfl,WA.same s08,DW,.ok () (),hz9,bz,λe=>(by cases e),λk' d' e hd'=>⟨λc9 t9 a H9 s9 hT ea=>?_,λp' ez eo=>?_⟩⟩
 .refine⟨t9,_,1,_,rfl,rfl,hT,rfl,?_⟩;refine⟨a,Z.c_NoSize,none,2,"NoSize",rfl,⟨ea,λdx e=>by cases e⟩,kZ,rfl,λl1 HA sA nA eA=>?_⟩;refine⟨zl9 1,λl2 hl2=>?_⟩;have sB:=aF hl2 (.lst [.str "NoSize"]);have eB:upd HA l2 (.lst [.str "NoSize"]) l2=some (.lst [.str "NoSize"]):=aB;generalize upd HA l2 (.lst [.str "NoSize"])=HB at sB eB ⊢;exact Ji (SqL.of (sB _ _ eA)) (SqL.of eB) ∅ (q HB (s08.trans (s9.trans (sA.trans sB))))
 .have ek:k'=k:=by injection e with e;lia
  rw[ek,hd] at hd'
  cases hd'
  rw[oz0] at eo;cases eo
theorem Y90:DZ 14 Z.f90 Z.d90 ["_law_watch","_law_many","_law_rows","_law_cell"] (Pp Z.c_Net Z.c_Answer Z.c_Watch Z.K) "_law_changed":=by
 refine⟨?_,F90.b4 _ _ _ _ (by intros;rfl),F90.kp,m90⟩
 refine F90.ok9 tI λ_ _ _ s H _ Q E hr h=>?_;obtain⟨x,r,c,us,m,n,ds,rfl,WA,WP,CL,n119,er,hR,q⟩:=h;have hu:=hr.units;have r13:=hr;have r1:=hr.mono (show 1<=13 by lia);have r2:=hr.mono (show 2<=13 by lia);have r6:=hr.mono (show 6<=13 by lia);have r9:=hr.mono (show 9<=13 by lia);have r12:=hr.mono (show 12<=13 by lia);obtain⟨L0,D0,LB0,l10⟩:=CL.e;have lus:=hR.length;refine⟨_,(aD (cC (PW.pt (kY (bA (kO hu) (pv 2) (cD aC) (bC _)) (jT (bA eQ (aH Y75.G r1 rfl m75 F75.kp Y75.b .nil aK (aA (pv 3) (aA aE (aA aE aC)))) aE (bC _))))) (aG (aT (aH Y89.G r13 rfl m89 F89.kp Y89.b .nil aK (aA (pv 0) (aA (pv 1) (aA (pv 2) (aA (pv 3) aC))))))) bF)
  (aD (qQ0 (i:=4) tI.nd (aH Y75.G r1 rfl m75 F75.kp Y75.b .nil aK (aA (pv 3) (aA aE (aA (bL bQ rfl n_len PySem.boot_len (aA (pv 2) aC)) aC)))))
  (aD (qQ0 (i:=5) tI.nd (aH Y86.G r2 rfl m86 F86.kp Y86.b .nil aK (aA (pv 3) (aA (aW aZ (aW cA (pv 2) (pv 4) (λ_ _=>rfl)) aE (λ_ _=>rfl)) aC))))
  (aD (qQ0 (i:=6) tI.nd (bN (pv 0) WBx.cl X14 R66 r2 b66 .nil aK))
  (aD (qQ0 (i:=7) tI.nd (aH Y62.G r9 rfl m62 F62.kp Y62.b .nil aK (aA (aH Y82.G r6 rfl m82 F82.kp Y82.b .nil aK (aA (pv 1) (aA (pv 2) aC))) (aA (pv 4) aC))))
  (aD (mH (aH Y87.G r12 rfl m87 F87.kp Y87.b .nil aK (aA (pv 0) (aA (pv 4) (aA (pv 5) aC)))) (kP rfl (dC (bU (i:=8) tI.nd rfl (Or.inr rfl)) (dC (qQ1 (i:=9) tI.nd) iO))))
  (aD (cC (PW.pt (kY (wT (Xj (pv 9))) (jT (fY (dQ (aH Y80.G r1 rfl m80 F80.kp Y80.b .nil aK (aA (pv 8) (aA (pv 8) aC)))))))) (aG (aT gY)) bF)
  (aD (mH (aY Vu (fA Zx (aW cA (pv 2) (pv 4) (λ_ _=>rfl)) iH (eY aE)) (cF (aA (pv 5) aC))) (pD (pv 2) (pv 4) iZ))
  (aD (uV (i:=10) (nl:=2) (fr:=[8]) (Nc:=["_law_one","_law_two","_law_found"]) (cl:=[("_law_found",s.heap.objs.size+1)]) (g:=(Fi Z.K 2 (kA (jJ 0) (kA (jJ 1) Hd)))) tI.nd rfl rfl rfl ⟨rfl,rfl,∅,∅,λx c h=>h,fI rfl,rfl,λi n h=>match i,h with | 0,h=>by cases h;exact⟨8,rfl,rfl,rfl,rfl,.inl rfl⟩ | k+1,h=>by rw[show 2+(k+1)=k+3 by lia] at h;cases h⟩
    (Ig rfl n_zip rfl (aA (pv 6) (aA (pv 7) aC))) (λ_ _ _ _ _=>(kP rfl (dC (qQ1 (i:=0) kC) (dC (qQ1 (i:=1) kC) iO)))) (λ_ _ _ _ _=>fX)
    (λ_ _ _ _ _=>(aH Y78.G r2 rfl m78 F78.kp Y78.b .nil aK (aA (pv 0) (aA (aH Y79.G r2 rfl m79 F79.kp Y79.b .nil aK (aA (pv 2) (aA (pv 1) aC))) aC)))) rfl)
  (aG (aT (gL (kO hu) (bN (pv 0) WBx.cl X14 R66 r2 b66 .nil aK) (pv 10) (bC _))))))))))))),?_⟩
 have oN:=D0.o;have hm1:=oN.m1;have hm5:=D0.m5;refine⟨_,rfl,zl9 0,λe he=>?_⟩;have s1:=aF he (.lst []);have e1:upd H e (.lst []) e=some (.lst []):=aB;generalize upd H e (.lst [])=H1 at s1 e1 ⊢;refine Az (SqL.of (s1 _ _ er)) (hR.same s1) (SqL.of e1) ⟨_,rfl,?_⟩
 by_cases hd0:ds=[]
 .refine L2.ifT (by rw[hd0];rfl) (L2.ifT rfl ?_);refine⟨_,rfl,_,rfl,_,rfl,_,rfl,x,r,c,us,m,L0,ds,rfl,(WA.less (λy hy=>by cases hy)).same s1,D0,SqL.of (s1 _ _ er),hR.same s1,λH9 s9=>?_⟩;have s09:=s1.trans s9;exact q us ds H9 (λb o h _ _=>s09 _ _ h) (s09 _ _ er) (hR.same s09) ⟨L0,D0,LB0.mono (),l10⟩ (WA.same s09) (WP.same s09)
 refine L2.ifF (by cases hx:ds with | nil=>exact absurd hx hd0 | cons y ys=>rfl) ?_;have lpos:0 < us.length:=by rw[lus];exact length_pos_iff.mpr hd0
 refine⟨_,rfl,c,0,3,rfl,(),(),(),λzz H2 z0 z3 s2=>⟨rfl,_,rfl,pC (λ_=>?_) (λ_=>?_)⟩⟩
 .have s02:=s1.trans s2;refine⟨_,rfl,_,rfl,_,rfl,_,rfl,x,r,c,us,m,L0,ds,rfl,(WA.less (λy hy=>by cases hy)).same s02,D0,SqL.of (s02 _ _ er),hR.same s02,λH9 s9=>?_⟩;have s09:=s02.trans s9;exact q us ds H9 (λb o h _ _=>s09 _ _ h) (s09 _ _ er) (hR.same s09) ⟨L0,D0,LB0.mono (),l10⟩ (WA.same s09) (WP.same s09)
 have s02:=s1.trans s2;clear e1
 try dsimp only
 refine qe0 (λσ' H'=>aV H H'/\∃(k:Nat) (d:RD) (z:Addr) (p:Q2),σ'=[some (.ref x),some (.int (m:Int)),some (.ref r),some (.int c),some (.int (k:Int)),some (.ref z),none,none,none,none,none]/\ds[k]?=some d/\Fq Z.K H' z p/\NwS d.1 p) (λX hX=>?_) ?_
 .refine⟨_,rfl,_,rfl,r,us,rfl,.inl (SqL.of (s02 _ _ er)),c,1,_,rfl,(),(),(),λkk H3 k0 kk1 s3=>?_⟩;obtain⟨k,rfl⟩:∃k:Nat,kk=(k:Int):=⟨kk.toNat,()⟩
  have s03:=s02.trans s3;obtain⟨d,hd⟩:∃d,ds[k]?=some d:=⟨_,getElem?_eq_getElem ()⟩
  obtain⟨t,s0,et,hT,f0⟩:=(hR.same s03).at hd;refine⟨_,rfl,_,rfl,_,rfl,r,us,_,_,rfl,rfl,SqL.of (s03 _ _ er),cO et,t,_,0,_,rfl,rfl,hT,rfl,c,d.1,rfl,λp lp bp b12 pp z H4 s4 e4=>?_⟩;exact hX _ _ ⟨s03.trans s4,k,d,z,p,rfl,hd,Fq.of e4,⟨lp,bp,b12,pp⟩⟩
 clear hd0;rintro σ3 H3 ⟨s3,k,d,z,p,rfl,hd,fz,nws⟩;obtain⟨L1,D1,szw,LB1,_⟩:=CL.new n119 nws;obtain⟨dxw,aw,nw,hw⟩:=jM WA;have WA0:gR [] Z.c_Net Z.c_Answer Z.c_Watch Z.K H x m ds:=WA.less (λy hy=>by cases hy)
 try dsimp only
 refine Ij (λσ' H'=>aV H3 H'/\∃(ha sa:Addr) (xh zs:List V) (lv fl hp:List Q2),σ'=[some (.ref x),some (.int (m:Int)),some (.ref r),some (.int c),some (.int (k:Int)),some (.ref z),some (.ref ha),some (.ref sa),none,none,none]/\H' ha=some (.lst xh)/\Fqs Z.K H' xh lv/\rV m ds lv fl/\H' sa=some (.lst zs)/\Fqs Z.K H' zs hp/\qn6 m ds k d hp/\Ovr (bw 190 (wd m ds)) hp/\ha≠r/\sa≠r) (λX hX=>?_) ?_
 .refine⟨_,rfl,x,dxw,_,rfl,s3 _ _ hw,fH _ _ ∅ ∅,x,m,ds,rfl,WA0.same s3,λlv fl AV ha xh H4 s4 nha eha Fha=>?_⟩;have s04:=s3.trans s4;refine⟨_,rfl,_,rfl,(m:Int),r,us,ds,rfl,(),(),SqL.of (s04 _ _ er),hR.same s04,λd hd=>(D1.ok d hd).1,(),λnn l H5 s5 nl nt=>?_⟩;refine⟨_,rfl,nn,l,m,190,_,L1,ds,k,d,rfl,D1.net nt,hd,λsa zs hp vv H6 nsa s6 esa Fsa lhp lohp OVhp SVhp vhp=>hX _ _ ⟨s4.trans (s5.trans s6),ha,sa,xh,zs,lv,fl,hp,rfl,(s5.trans s6) _ _ eha,Fha.same (s5.trans s6),AV,esa,Fsa,⟨lhp,lohp,vv,SVhp,vhp⟩,OVhp,Ne.symm (aQ (s3 _ _ er) nha),Ne.symm (aQ ((s04.trans s5) _ _ er) nsa)⟩⟩
 rintro σ4 H4 ⟨s34,ha,sa,xh,zs,lv,fl,hp,rfl,eha,Fha,AV,esa,Fsa,SV,OVh,nra,nrs⟩;have s4:=s3.trans s34;have fz4:=s34.fq fz;have hw4:=s4 _ _ hw;have er4:=s4 _ _ er;clear fz s34
 try dsimp only
 refine Ij (λσ' H'=>∃(rq:Addr) (qq:Q2),σ'=[some (.ref x),some (.int (m:Int)),some (.ref r),some (.int c),some (.int (k:Int)),some (.ref z),some (.ref ha),some (.ref sa),some (.ref rq),some .non,none]/\bG x H4 H'/\Fq Z.K H' rq qq/\Se m ds k d p qq/\gR [r] Z.c_Net Z.c_Answer Z.c_Watch Z.K H' x m (szS ds k p)/\kM [r] Z.c_Answer Z.c_Watch Z.K H' x m (szS ds k p)) (λX hX=>?_) ?_
 .refine⟨_,rfl,_,rfl,_,rfl,x,.int (k:Int),.ref z,m,L1,ds,some (k:Int),some p,rfl,WA0.same s4,D1,.ok () (by have:=(List.getElem?_eq_some_iff.mp hd).1;lia),.fr fz4 nws.lo,(λp' e=>by cases e;exact nws.bd.mono ()),λe=>(by cases e),λk' d' e hd'=>?_⟩;have ek:k'=k:=by injection e with e;lia
  subst ek;rw[hd] at hd'
  cases hd'
  refine⟨λz0=>?_,λp' ep _=>?_⟩
  .exfalso
   have:okz d.1 (some p)=true:=by
    cases h:d.1 with
    |pc=>exact decide_eq_true (nws.pc h)
    |pu=>rfl
    |ho=>rfl
   rw[this] at z0;cases z0
  .cases ep
   refine⟨szw,λt9 rq qq H5 sx hT frq fac wat wap=>?_⟩;refine⟨t9,_,rfl,hT,rfl,_,_,rfl,_,_,rfl,rfl,?_⟩;refine⟨_,rfl,_,rfl,L2.ifF rfl ?_⟩;have hrX:∀y∈[r],∃o,H4 y=some o:=λy hy=>by rw[mem_singleton.mp hy];exact⟨_,er4⟩
   exact⟨_,rfl,_,rfl,rq,rq,qq,rfl,frq,frq,_,rfl,L2.ifF rfl (hX _ _ ⟨rq,qq,rfl,sx,frq,fac,wat _ hrX,wap _ hrX⟩)⟩
 rintro σ5 H5 ⟨rq,qq,rfl,sx,frq,fac,WA5,WP5⟩;have rx:r≠x:=cZ er4 hw4 (λz=>by cases z);have er5:H5 r=some (.lst us):=sx _ _ er4 rx;have eha5:=sx _ _ eha (cZ eha hw4 (λz=>by cases z));have esa5:=sx _ _ esa (cZ esa hw4 (λz=>by cases z));have Fha5:Fqs Z.K H5 xh lv:=bG.fqsI hw4 sx Fha;have Fsa5:Fqs Z.K H5 zs hp:=bG.fqsI hw4 sx Fsa;have hR5:Rts Z.K H5 us ds:=Ap hw4 sx (hR.same s4);have fz5:Fq Z.K H5 z p:=bG.seqTI hw4 sx fz4;have kl:=(List.getElem?_eq_some_iff.mp hd).1
 try dsimp only
 refine lQ (λσ' H'=>σ'=[some (.ref x),some (.int (m:Int)),some (.ref r),some (.int c),some (.int (k:Int)),some (.ref z),some (.ref ha),some (.ref sa),some (.ref rq),some .non,none]/\bG r H5 H'/\∃us',H' r=some (.lst us')/\Rts Z.K H' us' (szS ds k p)) (λX hX=>?_) ?_
 .obtain⟨t,s0,et,hT,f0⟩:=hR5.at hd;obtain⟨kd,u,v,w0⟩:=d;refine⟨_,rfl,_,rfl,r,us,_,_,rfl,rfl,SqL.of er5,cO et,3,rfl,t,_,rfl,hT,(by show ¬(_/\3=4);lia),λA2 hA2=>?_⟩;have sG:=aF hA2 (.tup [.str kd.wd,.int u,.int v]);have eG:upd H5 A2 (.tup [.str kd.wd,.int u,.int v]) A2=some (.tup [.str kd.wd,.int u,.int v]):=aB;show qn7 _ _ (upd H5 A2 (.tup [.str kd.wd,.int u,.int v])) _;generalize upd H5 A2 (.tup [.str kd.wd,.int u,.int v])=HG at sG eG ⊢;refine⟨_,rfl,zl9 1,λoN hoN=>?_⟩;have sK:=aF hoN (.tup [.ref z]);have eK:upd HG oN (.tup [.ref z]) oN=some (.tup [.ref z]):=aB;generalize upd HG oN (.tup [.ref z])=HK at sK eK ⊢;refine⟨A2,oN,_,_,rfl,rfl,SqT.of (sK _ _ eG),SqT.of eK,⋯,(zl9 4),(λz=>by cases z),λ_ A5 hA5=>?_⟩;have sL:=aF hA5 (.tup ([.str kd.wd,.int u,.int v]++[.ref z]));have eL:upd HK A5 (.tup ([.str kd.wd,.int u,.int v]++[.ref z])) A5=some (.tup ([.str kd.wd,.int u,.int v]++[.ref z])):=aB;generalize upd HK A5 (.tup ([.str kd.wd,.int u,.int v]++[.ref z]))=HL at sL eL ⊢;have s5L:=sG.trans (sK.trans sL);have erL:=s5L _ _ er5;have fL:=s5L.fq fz5;have ixk:ixN us.length (k:Int)=some k:=kW ();refine⟨_,rfl,_,rfl,r,us,_,k,rfl,rfl,erL,ixk,?_⟩;have hRn:Rts Z.K HL (us.set k (.ref A5)) (ds.set k (kd,u,v,p)):=Rts.set (k:=kd) (SqT.of eL) fL k (hR5.same s5L);have hRM:=Rts.upd (o:=.lst (us.set k (.ref A5))) erL hRn;have sxr:bG r H5 (upd HL r (.lst (us.set k (.ref A5)))):=λb o h nb=>by rw[aX nb];exact s5L _ _ h
  exact hX _ _ ⟨rfl,sxr,_,aB,by rw[rW hd];exact hRM⟩
 rintro σ6 H6 ⟨rfl,sxr,us',er6,hR6⟩;have eha6:=sxr _ _ eha5 nra;have esa6:=sxr _ _ esa5 nrs;have Fha6:Fqs Z.K H6 xh lv:=bG.fqsL er5 sxr Fha5;have Fsa6:Fqs Z.K H6 zs hp:=bG.fqsL er5 sxr Fsa5;have frq6:Fq Z.K H6 rq qq:=bG.seqT er5 sxr frq;have WA6:=WA5.x er5 sxr ⋯;have WP6:=WP5.x er5 sxr ⋯;obtain⟨lvl,lvo,lvb⟩:=qi9 D1 AV;have lhp:=SV.len;have lohp:=SV.lo;have hpb:∀a∈hp,Bd 1763 a:=λa ha=>(Ovr.minus OVh lohp ha ha).2.1.mono D1.bwle;have lxh:=Fha6.length;have lzs:=Fsa6.length;clear Fha Fsa Fha5 Fsa5 eha5 esa5 WA5 WP5 frq hR5 fz5 er5 eha esa;refine⟨_,rfl,_,rfl,ha,sa,rfl,⟨_,SqL.of eha6⟩,⟨_,SqL.of esa6⟩,λD hD=>?_⟩;have sD:=aF hD (.lst []);refine vU (xs:=xh) (ys:=zs) (λi ws H'=>aV H6 H'/\H' D=some (.lst ws)/\Fqs Z.K H' ws ((zipWith (λa b=>kT a (jB qq b)) lv hp).take i)) ⟨sD,aB,.nil⟩ (λi ws H' h=>h.2.1) (λi ws H' _ h=>⟨h.1.seq (SqL.of eha6),h.1.seq (SqL.of esa6)⟩) ?_ ?_
 .rintro i ws xx yy H7 T1 ex ey ⟨s7,e7,hF7⟩ hT C hC;obtain⟨u,ph,rfl,eph,fu⟩:=Fha6.get ex;obtain⟨v,pl,rfl,epl,fv⟩:=Fsa6.get ey;have hi:=(List.getElem?_eq_some_iff.mp epl).1;have lz:=hF7.length;rw[length_take,length_zipWith] at lz;have sT:=aF hT (.tup [.ref u,.ref v]);have sB:=s7.trans sT;have hm:=mem_of_getElem? eph;have lm:=mem_of_getElem? epl;have lt:=oA fac.lo.pos (lohp pl lm).pos;refine⟨T1,_,rfl,SqT.of aB,rfl,_,_,rfl,_,_,rfl,rfl,lC.1,lC.2,gC ?_⟩;refine⟨_,rfl,_,rfl,_,rfl,rq,v,qq,pl,3700,1763,rfl,sB.fq frq6,sB.fq fv,fac.lo.pos,(lohp pl lm).pos,fac.bd,hpb pl lm,(),λr7 H8 s8 e8=>?_⟩;refine⟨u,r7,ph,_,1763,5463,rfl,(sB.trans s8).fq fu,Fq.of e8,(lvo ph hm).pos,lt.pos,lvb ph hm,vT fac.bd (hpb pl lm) fac.lo.pos (lohp pl lm).pos,(),λr8 H9 s9 e9=>?_⟩;have eA:=s9 _ _ (s8 _ _ (sT _ _ e7));refine⟨eA,bK (),hC _ _ ⟨(s7.trans (sT.trans (s8.trans s9))).change hD,aB,?_⟩⟩;rw[Nf eph epl];exact((hF7.same (sT.trans (s8.trans s9))).app (.cons (Fq.of e9) .nil)).upd eA
 rintro ws H7 ⟨s7,e7,hF7⟩;rw[show min xh.length zs.length=(zipWith (λa b=>kT a (jB qq b)) lv hp).length by rw[length_zipWith];lia,take_length] at hF7;obtain⟨dxv,av,nv,hw6⟩:=jM WA6;refine⟨_,rfl,x,dxv,_,rfl,s7 _ _ hw6,fH _ _ ∅ ∅,x,m,_,rfl,(WA6.less (λy hy=>by cases hy)).same s7,λlw gl AW hl xl H8 s8 nl el Fl=>?_⟩;have ee:=qd6 D1 hd szw AV SV fac AW;rw[ee] at Fl;have s78:=s7.trans s8;refine⟨_,rfl,zZ (SqL.of el) (SqL.of (s8 _ _ e7)) Fl (hF7.same s8) ?_⟩;exact q us' (szS ds k p) H8 (λb o h nx nr=>s78 _ _ (sxr _ _ (sx _ _ (s4 _ _ h) nx) nr)) (s78 _ _ er6) (hR6.same s78) ⟨L1,D1.set hd szw,LB1,by rw[qd4 hd];exact l10⟩ (WA6.same s78) (WP6.same s78)
theorem X16:dE Z.K Z.c_Watch "net" Z.f68:=⟨a68_0,i68,F68.kp⟩
theorem X17:dE Z.K Z.c_Watch "paper" Z.f73:=⟨a73_0,i73,F73.kp⟩
theorem X18:dE Z.K Z.c_Net "told" Z.f29:=⟨a29_0,i29,F29.kp⟩
theorem X19:aL Z.P Z.w Z.K Z.mg ZB CX0 5 Z.f31 Z.d31 ["self","k","size"] (wD Z.c_Net Z.K):=qq1 R31
theorem Rlaw:FZ CX0 15 Z.f91 (W.fnOf ("law") ("law") (eX Da) (cV Da) (aI Da) .none Z.kV91 Z.dc91 Z.pm91 Z.an91 Z.cd91 Z.ct91) ["_law_script"] (Ew Z.K):=by
 refine F91.ok9 tN λ_ _ _ s H _ Q E hr h=>?_;obtain⟨a,ns,rfl,hS,h63,q⟩:=h;have hu:=hr.units;have r14:=hr;have r1:=hr.mono (show 1<=14 by lia);have r2:=hr.mono (show 2<=14 by lia);have r3:=hr.mono (show 3<=14 by lia);have r4:=hr.mono (show 4<=14 by lia);have r5:=hr.mono (show 5<=14 by lia);have r6:=hr.mono (show 6<=14 by lia);have r7:=hr.mono (show 7<=14 by lia);have r9:=hr.mono (show 9<=14 by lia);have r10:=hr.mono (show 10<=14 by lia);have r11:=hr.mono (show 11<=14 by lia);refine⟨_,(aD (qQ0 (i:=1) tN.nd (aY dS aE (aY mM (d9 Y74 r1 rfl (aA (pv 0) (aA aE aC))) aE)))
  (aD (qQ0 (i:=2) tN.nd (d9 Y84 r4 rfl (aA (pv 0) (aA (pv 1) (aA aE (aA (cD (aA bV (aA bV (aA bV (aA bV aC))))) aC))))))
  (aD (qQ0 (i:=3) tN.nd (d9 Y82 r6 rfl (aA (pv 1) (aA (pv 2) aC))))
  (aD (qQ0 (i:=4) tN.nd (gN MWa R64 r11 rfl WBx.mW b64 .nil aK (aA (pv 3) aC)))
  (aD (cC (bA (pG hu) (pv 2) (cD aC) (bC _)) (aG (bZ (uS (pv 3) NTx.cl X9 X19 r5 b31 .nil aK (aA aE (aA (cF (aA aE (aA aE aC))) aC))))) bF)
  (aD (cC (fY (dQ (d9 Y88 r10 rfl (aA (pv 4) (aA (pv 1) (aA (pv 2) (aA gY aC))))))) (aG (aT gY)) bF)
  (aD (qQ0 (i:=5) tN.nd (cF (aA (bN (pv 4) WBx.cl X16 R68 r5 b68 .nil aK) (aA (iQ gF rfl n_list PyProof.Rows.boot_list (aA (pv 2) aC)) aC))))
  (aD (cC (PW.pt (rT (bA eQ (d9 Y75 r1 rfl (aA (d9 Y74 r1 rfl (aA (pv 0) (aA aE aC))) (aA aE (aA aE aC)))) aE (bC _)) (nQ (bA (pG hu) (bN (pv 4) WBx.cl X17 R73 r7 b73 .nil aK) (bN (gN MA R54 r9 rfl ABx.mA b54 .nil aK (aA (d9 Y82 r6 rfl (aA (pv 1) (aA (pv 2) aC))) aC)) ABx.cl X11 R72 r6 b72 .nil aK) (bC _))))) (aG (aT gY)) bF)
  (aD (gA PassesOwn.never rfl (dM (fA gK (pv 0) (eY aE) (eY aE))) (qQ1 (i:=6) tN.nd)
   (aD (cC (fY (dQ (d9 Y90 r14 rfl (aA (pv 4) (aA (pv 1) (aA (pv 2) (aA (pv 6) aC))))))) (aG (aT gY)) bF)
  (aG (cC (fY (dQ (d9 Y88 r10 rfl (aA (pv 4) (aA (pv 1) (aA (pv 2) (aA (gL eQ (d9 Y75 r1 rfl (aA (pv 6) (aA aE (aA aE aC)))) aE (bC _)) aC))))))) (aG (aT gY)) bF))))
  (aD (qQ0 (i:=7) tN.nd (bN (pv 4) WBx.cl X16 R68 r5 b68 .nil aK))
  (aD (cC (PW.pt (kY (bA qK (bN (pv 7) NTx.cl X3 R28 r1 b28 .nil aK) (pv 1) (bC _)) (jT (bA (pG hu) (bN (pv 7) NTx.cl X18 R29 r1 b29 .nil aK) (pv 2) (bC _))))) (aG (aT gY)) bF)
  (aD (bZ (uS (pv 7) NTx.cl X12 R30 r5 b30 .nil aK (aA (d9 Y18 r3 rfl (aA (cF (aA bV (aA aE (aA aE (aA (cF (aA aE (aA aE aC))) aC))))) aC)) aC)))
  (aD (cC (PW.pt (kY (bA (pG hu) (bN (bN (pv 4) WBx.cl X16 R68 r5 b68 .nil aK) NTx.cl X18 R29 r1 b29 .nil aK) (pv 2) (bC _)) (jT (bA (pG hu) (bN (aW aZ (pv 5) aE (λ_ _=>rfl)) NTx.cl X18 R29 r1 b29 .nil aK) (aW aZ (pv 5) aE (λ_ _=>rfl)) (bC _))))) (aG (aT gY)) bF)
  (aG (aT (gL (kO hu) (bN (pv 4) WBx.cl X17 R73 r7 b73 .nil aK) (bN (gN MA R54 r9 rfl ABx.mA b54 .nil aK (aA (d9 Y82 r6 rfl (aA (pv 1) (aA (pv 2) aC))) aC)) ABx.cl X11 R72 r6 b72 .nil aK) (bC _))))))))))))))))),?_⟩
 refine lQ (λσ' H'=>aV H H'/\∃m:Nat,1<=m/\m<=4/\σ'=[some (.ref a),some (.int (m:Int)),none,none,none,none,none,none]) (λX hX=>?_) ?_
 .refine⟨_,rfl,a,ns,0,0,rfl,rfl,hS,h63,λc H1 s1=>?_⟩;have c0:=Int.emod_nonneg c (show (4:Int)≠0 by decide);have c1:=Int.emod_lt_of_pos c (show (0:Int) < 4 by decide);obtain⟨m,hm⟩:∃m:Nat,1+c % 4=(m:Int):=⟨(1+c % 4).toNat,()⟩
  exact⟨_,_,rfl,rfl,(show (0:Int) < 4 by decide),_,_,rfl,rfl,hX _ _ ⟨s1,m,(),(),by rw[<- hm];rfl⟩⟩
 rintro σ1 H1 ⟨s1,m,hm1,hm4,rfl⟩;refine lQ (λσ' H'=>aV H1 H'/\∃(ds:List RD) (r:Addr) (us:List V),σ'=[some (.ref a),some (.int (m:Int)),some (.ref r),none,none,none,none,none]/\Cl m 19 ds/\H' r=some (.lst us)/\Rts Z.K H' us ds) (λX hX=>?_) ?_
 .refine⟨_,rfl,_,rfl,zl9 4,λw hw=>?_⟩;have s2:=aF hw (.lst [.str "piece",.str "hold",.str "piece",.str "piece"]);have e2:upd H1 w (.lst [.str "piece",.str "hold",.str "piece",.str "piece"]) w=some (.lst [.str "piece",.str "hold",.str "piece",.str "piece"]):=aB;generalize upd H1 w (.lst [.str "piece",.str "hold",.str "piece",.str "piece"])=H2 at s2 e2 ⊢;refine⟨a,w,ns,m,7,[.pc,.ho,.pc,.pc],rfl,(s1.trans s2).seq hS,h63,hm1,(),(),SqL.of e2,∅,∅,λr us tt E H3 s3 nr er hR hg le b4=>?_⟩;exact hX _ _ ⟨s2.trans s3,rwH E,r,us,rfl,qe7 hg hm4 le b4,er,hR⟩
 rintro σ3 H3 ⟨s13,ds,r,us,rfl,C0,er,hR⟩;obtain⟨L0,D0,LB0,l10⟩:=C0.e;have o:=D0.o;have s3:=s1.trans s13;have lus:=hR.length;clear s1 s13
 try dsimp only
 refine qe0 (λσ' H'=>aV H3 H'/\∃n0 wt:Addr,σ'=[some (.ref a),some (.int (m:Int)),some (.ref r),some (.ref n0),some (.ref wt),none,none,none]/\gR [r] Z.c_Net Z.c_Answer Z.c_Watch Z.K H' wt m ds/\kM [r] Z.c_Answer Z.c_Watch Z.K H' wt m ds) (λX hX=>?_) ?_
 .refine⟨_,rfl,_,rfl,(m:Int),r,us,ds,rfl,(),(),SqL.of er,hR,λd hd=>(D0.ok d hd).1,(),λn l H4 s4 nl nt=>?_⟩;refine⟨_,rfl,λx dx hx0 hdx nxd=>?_⟩;have sm:=jQ (C:=Z.c_Watch) hx0 hdx;obtain⟨⟨dn,hn⟩,ts,hl,hRn⟩:=nt;refine⟨x,dx,n,l,m,L0,ds,rfl,aB,⟨⟨dn,sm _ _ hn⟩,ts,sm _ _ hl,hRn.same sm⟩,D0,λH5 sx5 wat wap=>⟨rfl,?_⟩⟩;have ex:∀y∈[r,l],∃o,upd (upd H4 dx (.own x)) x (.ins Z.c_Watch dx []) y=some o:=λy hy=>by
   rcases mem_cons.mp hy with rfl | hy
   .exact⟨_,sm _ _ (s4 _ _ er)⟩
   .rw[mem_singleton.mp hy];exact⟨_,sm _ _ hl⟩
  have WA:=wat _ ex;have WP:=wap _ ex;have s5:=kH hx0 hdx sx5;clear wat wap sm ex;refine⟨_,rfl,zl9 0,λe he=>?_⟩;have s6:=aF he (.lst []);have e6:upd H5 e (.lst []) e=some (.lst []):=aB;generalize upd H5 e (.lst [])=H6 at s6 e6 ⊢;have s46:=s5.trans s6;have s36:=s4.trans s46;refine Az (SqL.of (s36 _ _ er)) (hR.same s36) (SqL.of e6) ⟨_,rfl,?_⟩;have fin:∀H',bG l H6 H'->aV H3 H'/\∃n0 wt:Addr,([some (.ref a),some (.int (m:Int)),some (.ref r),some (.ref n),some (.ref x),none,none,none]:List (Option V))=[some (.ref a),some (.int (m:Int)),some (.ref r),some (.ref n0),some (.ref wt),none,none,none]/\gR [r] Z.c_Net Z.c_Answer Z.c_Watch Z.K H' wt m ds/\kM [r] Z.c_Answer Z.c_Watch Z.K H' wt m ds:=λH' sx=>by
   have hl6:=s46 _ _ hl;refine⟨λb ob hb=>sx _ _ (s36 _ _ hb) (aQ hb nl),n,x,rfl,((WA.same s6).x hl6 sx ⋯).less (λy hy=>?_),((WP.same s6).x hl6 sx ⋯).less (λy hy=>?_)⟩<;>(rw[mem_singleton.mp hy];simp)
  by_cases hd0:ds=[]
  .exact L2.ifF (by rw[hd0];rfl) (hX _ _ (fin _ (λb ob hb _=>hb)))
  refine L2.ifT (by cases hx:ds with | nil=>exact absurd hx hd0 | cons y ys=>rfl) ?_;obtain⟨d0,hd⟩:∃d,ds[0]?=some d:=⟨_,getElem?_eq_getElem (length_pos_iff.mpr hd0)⟩
  refine⟨_,rfl,n,dn,_,rfl,s46 _ _ hn,cI _ _ ∅ ∅,zl9 2,λu hu1=>?_⟩;have s7:=aF hu1 (.tup [.int 1,.int 97]);have e7:upd H6 u (.tup [.int 1,.int 97]) u=some (.tup [.int 1,.int 97]):=aB;generalize upd H6 u (.tup [.int 1,.int 97])=H7 at s7 e7 ⊢;have s47:=s46.trans s7;refine⟨n,l,u,(m:Int),0,ds,d0.1,d0.2.1,d0.2.2.1,d0.2.2.2,(1,97),rfl,⟨⟨dn,s47 _ _ hn⟩,ts,s47 _ _ hl,hRn.same s47⟩,(),hd,SqT.of e7,qo5,λ_=>by decide,Bd.mono (n:=7) (m:=1000) ⟨by show (1:Nat) < 2 ^ 7;decide,by show (97:Nat) < 2 ^ 7;decide⟩ (),λH8 sx8 _=>?_⟩;exact hX _ _ (fin _ (λb ob hb nb=>sx8 _ _ (s7 _ _ hb) nb))
 rintro σ5 H5 ⟨s35,n0,wt,rfl,WA,WP⟩;have s5:=s3.trans s35;have er5:=s35 _ _ er;have hR5:=hR.same s35;clear er hR s35 s3;obtain⟨dxw0,aw0,nw0,hw5⟩:=jM WA;have WA0:gR [] Z.c_Net Z.c_Answer Z.c_Watch Z.K H5 wt m ds:=WA.less (λy hy=>by cases hy)
 try dsimp only
 refine Ij (λσ' H'=>aV H5 H'/\∃t5:Addr,σ'=[some (.ref a),some (.int (m:Int)),some (.ref r),some (.ref n0),some (.ref wt),some (.ref t5),none,none]/\FsT Z.c_Net Z.K H' m ds t5 wt r) (λX hX=>?_) ?_
 .refine⟨_,rfl,_,rfl,_,rfl,wt,r,us,m,L0,ds,true,rfl,WA0,D0,SqL.of er5,hR5,λH6 s6=>⟨_,rfl,L2.ifF rfl ?_⟩⟩;have hw6:=s6 _ _ hw5;refine⟨_,rfl,wt,dxw0,_,rfl,hw6,fH _ _ ∅ ∅,wt,m,ds,rfl,WA0.same s6,(),(),λn1 l1 H7 s7 f1 f2 nt1=>?_⟩;have s57:=s6.trans s7;refine⟨_,rfl,r,us,rfl,.inl (SqL.of (s57 _ _ er5)),λl2 hl2=>?_⟩;have s8:=aF hl2 (.lst us);have e8:upd H7 l2 (.lst us) l2=some (.lst us):=aB;generalize upd H7 l2 (.lst us)=H8 at s8 e8 ⊢;refine⟨zl9 2,λt5 ht5=>?_⟩;have s9:=aF ht5 (.tup [.ref n1,.ref l2]);have e9:upd H8 t5 (.tup [.ref n1,.ref l2]) t5=some (.tup [.ref n1,.ref l2]):=aB;generalize upd H8 t5 (.tup [.ref n1,.ref l2])=H9 at s9 e9 ⊢;have s89:=s8.trans s9;obtain⟨⟨dn,hn⟩,ts,hl,hRn⟩:=nt1;exact hX _ _ ⟨s57.trans s89,t5,rfl,n1,l1,l2,dn,ts,us,SqT.of e9,s89 _ _ hn,s89 _ _ hl,hRn.same s89,s9 _ _ e8,hR5.same (s57.trans s89),Ne.symm (aQ hw6 f1),Ne.symm (aQ (s6 _ _ er5) f2),Ne.symm (aQ (s57 _ _ er5) hl2)⟩
 rintro σ6 H6 ⟨s56,t5,rfl,FS6⟩;have s6:=s5.trans s56;have LS6:LwS Z.c_Net Z.c_Answer Z.c_Watch Z.K H6 m (19+31*0) ds ds r wt t5 us:=⟨C0,s56 _ _ er5,hR5.same s56,WA.same s56,WP.same s56,FS6⟩
 have hw6:=s56 _ _ hw5;clear WA WP WA0 FS6 er5 hR5 hw5 s56 s5
 try dsimp only
 refine lQ (λσ' H'=>aV H6 H'/\σ'=[some (.ref a),some (.int (m:Int)),some (.ref r),some (.ref n0),some (.ref wt),some (.ref t5),none,none]) (λX hX=>?_) ?_
 .refine⟨_,rfl,a,ns,0,0,rfl,rfl,s6.seq hS,h63,λc H7 s7=>?_⟩;refine⟨c,4,2,rfl,(),(),(),λz H8 z0 z2 s8=>⟨rfl,_,rfl,pC (λ_=>?_) (λ_=>?_)⟩⟩
  rotate_left
  .exact L2.ifF rfl (hX _ _ ⟨s7.trans s8,rfl⟩)
  have s78:=s7.trans s8;have LS8:=LS6.same s78;obtain⟨dxw,aw,nw,hwP⟩:=jM LS8.wa;refine⟨_,rfl,wt,dxw,_,rfl,hwP,fH _ _ ∅ ∅,wt,m,190,L0,ds,rfl,(LS8.wp.less (λy hy=>by cases hy)),D0.eqb,by have:=D0.w8;lia,λpl zs M HP1 sP1 npl epl Fm PV=>?_⟩;refine⟨_,rfl,_,rfl,(m:Int),r,us,ds,rfl,(),(),SqL.of (sP1 _ _ LS8.er),LS8.hR.same sP1,λd hd=>(D0.ok d hd).1,(),λnP lP HP2 sP2 nlP ntP=>?_⟩;refine λxa dxa hxa hda nxd=>?_;have smP:=jQ (C:=Z.c_Answer) hxa hda;have oP:=D0.o;refine⟨xa,dxa,nP,lP,m,190,_,L0,ds,rfl,aB,D0.net (ntP.same smP),Nat.le_trans D0.bwle ∅,D0.eR,iG oK oP.pt () oP.fr _ (Nat.le_refl _),oO oP,λps HP3 sxP an lps lo OV SV LE=>⟨rfl,?_⟩⟩;have sP3:=kH hxa hda sxP;obtain⟨dxa',li,le,fo,xs,ys,haP,_⟩:=an.e;refine⟨xa,dxa',_,rfl,haP,gS _ _ _ ∅ ∅ ∅,xa,m,190,L0,ds,rfl,LE [] (λy hy=>by cases hy),D0.eqb,by have:=D0.w8;lia,λpl2 zs2 M2 HP4 sP4 npl2 epl2 Fm2 PV2=>?_⟩;obtain rfl:=PV.uni oP PV2;have sP14:=sP2.trans (sP3.trans sP4);have sP04:=sP1.trans sP14;exact Uk (SqL.of (sP14 _ _ epl)) (SqL.of epl2) (Fm.same sP14) Fm2 ⟨_,rfl,L2.ifF rfl (hX _ _ ⟨s78.trans sP04,rfl⟩)⟩
 rintro σ7 H7 ⟨s7,rfl⟩;have LS7:=LS6.same s7;have hw7:=s7 _ _ hw6;have s07:=s6.trans s7;clear LS6 hw6 s6 s7;refine⟨_,rfl,20,rfl,24,rfl,a,_,rfl,s07.seq hS,λC hC=>?_⟩;have c4:=qa8 (ns.map V.int) 20 24;obtain⟨cs,em⟩:=Lp ns (some 20) (some 24);have c4:(jC (ns.map V.int) (some 20) (some 24)).length<=4:=c4;rw[em] at c4 ⊢;rw[length_map] at c4;have s8:=aF hC (.lst (cs.map V.int));have eC:upd H7 C (.lst (cs.map V.int)) C=some (.lst (cs.map V.int)):=aB;generalize upd H7 C (.lst (cs.map V.int))=H8 at s8 eC ⊢;have LS8:=LS7.same s8;have Cr:C≠r:=Ne.symm (aQ LS7.er hC);have Cw:C≠wt:=Ne.symm (aQ hw7 hC);clear LS7 hw7 s07 s8;refine⟨C,rfl,⟨_,SqL.of eC⟩,?_⟩;refine gU (xs:=cs.map V.int) (λi σ H'=>H' C=some (.lst (cs.map V.int))/\∃ds1 us1 z6,σ=[some (.ref a),some (.int (m:Int)),some (.ref r),some (.ref n0),some (.ref wt),some (.ref t5),z6,none]/\LwS Z.c_Net Z.c_Answer Z.c_Watch Z.K H' m (19+31*i) ds1 ds r wt t5 us1) ⟨eC,ds,us,none,rfl,LS8⟩ (λi σ H' _ h=>SqL.of h.1) ?_ ?_
 .rintro i x σ H9 hx ⟨eC9,ds1,us1,z6,rfl,LS⟩;have hi:i < 4:=by
   have:=(List.getElem?_eq_some_iff.mp hx).1;rw[length_map] at this;lia
  obtain⟨c,rfl⟩:∃c,x=.int c:=by
   rw[getElem?_map] at hx
   cases h:cs[i]? with
   |none=>rw[h] at hx;cases hx
   |some c=>rw[h] at hx;cases hx;exact⟨c,rfl⟩
  obtain⟨dxw,aw,nw,hw9⟩:=jM LS.wa;refine⟨_,rfl,_,rfl,_,rfl,_,rfl,wt,r,c,us1,m,19+31*i,ds1,rfl,LS.wa,LS.wp,LS.cl,(),LS.er,LS.hR,λus2 ds2 HA swr erA hRA CLA WAA WPA=>⟨_,rfl,L2.ifF rfl ?_⟩⟩;have eCA:=swr _ _ eC9 Cw Cr;have FSA:=LS.fs.wr hw9 LS.er swr;obtain⟨L2',D2,_,_⟩:=CLA.e;refine⟨_,rfl,_,rfl,_,rfl,_,rfl,c,9,2,rfl,(),(),(),λz HB z0 z2 sB=>⟨rfl,wt,r,us2,m,L2',ds2,_,rfl,(WAA.same sB).less (λy hy=>by cases hy),D2,SqL.of (sB _ _ erA),hRA.same sB,λHC sC=>⟨_,rfl,L2.ifF rfl ?_⟩⟩⟩;have sBC:=sB.trans sC;exact⟨sBC _ _ eCA,ds2,us2,_,rfl,⟨by rw[show 19+31*(i+1)=19+31*i+31 by lia];exact CLA,sBC _ _ erA,hRA.same sBC,WAA.same sBC,WPA.same sBC,FSA.same sBC⟩⟩
 rintro σ H9 ⟨_,ds1,us1,z6,rfl,LS⟩;generalize 19+31*(cs.map V.int).length=nn at LS;obtain⟨L1,D1,_,l1⟩:=LS.cl.e;obtain⟨dxw,aw,nw,hw9⟩:=jM LS.wa;have WA9:gR [] Z.c_Net Z.c_Answer Z.c_Watch Z.K H9 wt m ds1:=LS.wa.less (λy hy=>by cases hy);clear eC LS8
 try dsimp only
 refine⟨_,rfl,wt,dxw,_,rfl,hw9,fH _ _ ∅ ∅,wt,m,ds1,rfl,WA9,(),(),λn2 lz HA sA f1 f2 nt2=>?_⟩;obtain⟨⟨dn2,hn2⟩,ts2,hl2,hRn2⟩:=nt2;refine⟨_,rfl,n2,dn2,_,rfl,hn2,cI _ _ ∅ ∅,n2,lz,(m:Int),ds1,rfl,⟨⟨dn2,hn2⟩,ts2,hl2,hRn2⟩,_,rfl,rfl,_,rfl,L2.ifF ⋯ ?_⟩;refine⟨_,rfl,n2,dn2,_,rfl,hn2,cI _ _ ∅ ∅,n2,lz,(m:Int),ds1,rfl,⟨⟨dn2,hn2⟩,ts2,hl2,hRn2⟩,λta ts HB sB na ea Ra=>?_⟩;have sAB:=sA.trans sB;refine⟨_,rfl,Hq (SqL.of ea) (SqL.of (sAB _ _ LS.er)) Ra (LS.hR.same sAB) ⟨_,rfl,L2.ifF rfl ?_⟩⟩;refine⟨_,rfl,n2,dn2,_,rfl,sB _ _ hn2,cI _ _ ∅ ∅,zl9 2,λu hu1=>?_⟩;have sC:=aF hu1 (.tup [.int 1,.int 1]);have eC:upd HB u (.tup [.int 1,.int 1]) u=some (.tup [.int 1,.int 1]):=aB;generalize upd HB u (.tup [.int 1,.int 1])=HC at sC eC ⊢;refine⟨zl9 4,λt ht=>?_⟩;have sD:=aF ht (.tup [.str "push",.int 0,.int 0,.ref u]);have eD:upd HC t (.tup [.str "push",.int 0,.int 0,.ref u]) t=some (.tup [.str "push",.int 0,.int 0,.ref u]):=aB;generalize upd HC t (.tup [.str "push",.int 0,.int 0,.ref u])=HD at sD eD ⊢;refine⟨t,_,_,_,_,rfl,SqT.of eD,.pu,rfl,λy HE sE ny rw=>?_⟩;have sBE:=sC.trans (sD.trans sE);refine⟨n2,lz,y,u,(m:Int),ds1,.pu,0,0,(1,1),rfl,⟨⟨dn2,(sB.trans sBE) _ _ hn2⟩,ts2,(sB.trans sBE) _ _ hl2,hRn2.same (sB.trans sBE)⟩,rw,(sD.trans sE).fq (Fq.of eC),Zq hm1,(),λHF xF _=>?_⟩;have sF:aV H9 HF:=λb ob hb=>xF _ _ ((sAB.trans sBE) _ _ hb) (aQ hb f2);have LF:=LS.same sF;have hwF:=sF _ _ hw9;clear LS WA9 hn2 hl2 hRn2 Ra ea sA sB sAB sBE sC sD sE eC eD xF f1 f2 na
 try dsimp only
 refine⟨_,rfl,wt,dxw,_,rfl,hwF,fH _ _ ∅ ∅,wt,m,ds1,rfl,LF.wa.less (λy hy=>by cases hy),(),(),λn3 l3 HG sG _ _ nt3=>?_⟩;obtain⟨dn3,hn3⟩:=nt3.ob;refine⟨n3,dn3,_,rfl,hn3,cI _ _ ∅ ∅,n3,l3,(m:Int),ds1,rfl,nt3,λtb ts3 HH sH nb eb Rb=>?_⟩;have sGH:=sG.trans sH;refine⟨_,rfl,Hq (SqL.of eb) (SqL.of (sGH _ _ LF.er)) Rb (LF.hR.same sGH) ⟨_,rfl,L2.ifF rfl ?_⟩⟩;have LH:=LF.same sGH;clear LF Rb eb hn3 nt3;obtain⟨n4,l4,l5,dn4,ts4,us4,hT4,hn4,hl4,hR4,hl5,hR5,_⟩:=LH.fs.e;refine⟨_,rfl,t5,_,0,_,rfl,rfl,hT4,rfl,n4,dn4,_,rfl,hn4,cI _ _ ∅ ∅,n4,l4,(m:Int),ds,rfl,⟨⟨dn4,hn4⟩,ts4,hl4,hR4⟩,λtc tsc HI sI nc ec Rc=>?_⟩;refine⟨_,rfl,t5,_,1,_,rfl,rfl,sI.seqT hT4,rfl,Hq (SqL.of ec) (SqL.of (sI _ _ hl5)) Rc (hR5.same sI) ⟨_,rfl,L2.ifF rfl ?_⟩⟩;have LI:=LH.same sI;have hwP:=(sGH.trans sI) _ _ hwF;clear LH Rc ec hR4 hR5 hl4 hl5 hn4 hT4;refine⟨_,rfl,wt,dxw,_,rfl,hwP,fH _ _ ∅ ∅,wt,m,190,L1,ds1,rfl,(LI.wp.less (λy hy=>by cases hy)),D1.eqb,by have:=D1.w8;lia,λpl zs M HP1 sP1 npl epl Fm PV=>?_⟩;refine⟨_,rfl,_,rfl,(m:Int),r,us1,ds1,rfl,(),(),SqL.of (sP1 _ _ LI.er),LI.hR.same sP1,λd hd=>(D1.ok d hd).1,(),λnP lP HP2 sP2 nlP ntP=>?_⟩;refine λxa dxa hxa hda nxd=>?_;have smP:=jQ (C:=Z.c_Answer) hxa hda;have oP:=D1.o;refine⟨xa,dxa,nP,lP,m,190,_,L1,ds1,rfl,aB,D1.net (ntP.same smP),Nat.le_trans D1.bwle ∅,D1.eR,iG oK oP.pt () oP.fr _ (Nat.le_refl _),oO oP,λps HP3 sxP an lps lo OV SV LE=>⟨rfl,?_⟩⟩;have sP3:=kH hxa hda sxP;obtain⟨dxa',li,le,fo,xs,ys,haP,_⟩:=an.e;refine⟨xa,dxa',_,rfl,haP,gS _ _ _ ∅ ∅ ∅,xa,m,190,L1,ds1,rfl,LE [] (λy hy=>by cases hy),D1.eqb,by have:=D1.w8;lia,λpl2 zs2 M2 HP4 sP4 npl2 epl2 Fm2 PV2=>?_⟩;obtain rfl:=PV.uni oP PV2;have sP14:=sP2.trans (sP3.trans sP4);have sP04:=sP1.trans sP14;exact Uk (SqL.of (sP14 _ _ epl)) (SqL.of epl2) (Fm.same sP14) Fm2 (q _)
end
theorem qd8 (c:CZ){fa:Addr}(hfa:c.mg "law"=some (.ref fa))(h:GZ c):
  ∃fd:FuncData,(∀(s:Shared) (v:Value),BindsTo s fd ⟨[v],[]⟩ [("_law_script",v)])/\∀base:Heap,c.K.In base->base.Ns mainGlobals c.mg->aL c.P c.w c.K c.mg base CX0 15 fa fd ["_law_script"] (Ew c.K):=by
 have e:=hfa.symm.trans h.m91
 cases e
 refine⟨W.fnOf "law" "law" (eX Da) (cV Da) (aI Da) .none c.kV91 c.dc91 c.pm91 c.an91 c.cd91 c.ct91,λs v=>.of_eq rfl,λbase _ _=>?_⟩
 refine Classical.byContradiction λn=>?_
 have e:=Classical.epsilon_spec (p:=λx:CZ×Heap=>GZ x.1/\¬OZ x.1 x.2) ⟨(c,base),h,n⟩
 have i:GZ Z:=by unfold Z;exact e.1
 have j:=@Rlaw i
 unfold FZ Z ZB at j;exact e.2 j
theorem qr7 {l:W.OpenLaw}{XP:(Str->Option Value)->Heap->Prop}{K:Params->Frag}(hn:l.most=some 63)(hdf:d.params.defaults=[])(hY:∀(w:World) (h:Heap),YP w h->(K w.params).In h)(F:∀(w:World) (mg:Str->Option Value) (fa:Addr) (h:Heap),(K w.params).In h->h.Ns mainGlobals mg->mg d.name=some (.ref fa)->
   ∃fd:FuncData,(∀(s:Shared) (u:Value),BindsTo s fd ⟨[u],[]⟩ [("_law_script",u)])/\∀base:Heap,(K w.params).In base->base.Ns mainGlobals mg->aL l.prog w (K w.params) mg base CX0 15 fa fd ["_law_script"] (Ew (K w.params))):
  W.WalkO q loose XP YP l.row.toRowW d [] (λf vs=>PySem.call f vs):=
 L2.Ux (n:=63) (k:=15) (x:="_law_script") (CX:=λ_=>CX0) (sp:=λw=>Ew (K w.params)) hn ∅ hdf ⟨rfl,∅,∅⟩ hY F (λ_ _ a ns hl _ hS=>⟨a,ns,rfl,hS,hl,λ_=>rfl⟩) λ_ _ _ _ _ z=>z
end K73
local macro_rules | `(tactic| walk_at "F9")=>`(tactic| (refine' L2.uG ?l9 ?c9 ?kk9;(case l9=>k_is);(case c9=>k_is);(case kk9=>show _=_;k_is)))
namespace PySem.W.Fast
noncomputable section
def Q:=Nat
def tw7282077784037026046:=Q
def tw8795355637804796216:=Q
def tw4357839315222478999:=Q
def tw767412955107943264:=Q
def tw1529430950441452799:=Q
def tw11742524882056107557:=Q
def tw16331862393857741800:=Q
def tw12222045184534925423:=Q
def tw12776988813828681973:=Q
def tw8211499895383924795:=Q
def tw11270917111701722277:=Q
def tw4359428220907148946:=Q
def tw13915711318386965817:=Q
def tw12400780342765192784:=Q
def tw16966635826247088801:=Q
def tw17793019644890252504:=Q
def tw15728827559046345786:=Q
def tw4036447455787736553:=Q
def tw15298602792232540329:=Q
def tw5911486603387342782:=Q
def tw6704623554960987340:=Q
def tw1698102098700328037:=Q
def tw17696811137210297802:=Q
def tw10305813200932270992:=Q
def tw7127385407083064840:=Q
def tw17905177863221808602:=Q
def tw3788334562708901946:=Q
def tw9309771564112707080:=Q
def tw8836843644526771332:=Q
def tw6785111221898987460:=Q
def tw14840336231753575073:=Q
def tw15704687702511657588:=Q
def tw9167062972602170330:=Q
def tw8302560442557927596:=Q
def tw15115623083523989846:=Q
def tw2772613834847436913:=Q
def tw6463739730568869158:=Q
def tw3323548385368753305:=Q
def tw9697187345959449009:=Q
def tw6421360441624286002:=Q
def tw9919818098273559639:=Q
def tw12807359140759517621:=Q
def tw12481428951641820388:=Q
def tw1778124023612658728:=Q
def tw14275962182823172400:=Q
def tw10727774851135374499:=Q
def tw7924028729406758738:=Q
def tw7183812663774434647:=Q
def tw753532951505929269:=Q
def tw16696075771317211719:=Q
def tw4382939918946147327:=Q
def tw7584126718078909307:=Q
def tw225535269865098352:=Q
def tw5328321685826716374:=Q
def tw938584560733081908:=Q
def tw16296719601813890559:=Q
def tw14992481584571538436:=Q
def tw17915600106863930942:=Q
def tw18293503087471540028:=Q
def tw5608758754381261558:=Q
def tw5449817245346087809:=Q
def tw6416193939570062926:=Q
def tw1859858062029711827:=Q
def tw17321262111528414945:=Q
def tw12946314732403667700:=Q
def tw3096813751014477330:=Q
def tw8378028428358913667:=Q
def tw14834863011190793002:=Q
def tw13896659145772573770:=Q
def tw2637157616746547894:=Q
def tw2939065253318542164:=Q
def tw5059303304960539364:=Q
def tw16591957207261144916:=Q
def tw7554662092907339930:=Q
def tw5405656182075130405:=Q
def tw12846173684981705077:=Q
def tw3591007811089256657:=Q
def tw14279179881831293582:=Q
def tw2684221018626329653:=Q
def tw7014854275173835062:=Q
def tw2444410797014266678:=Q
def tw6576503665167552417:=Q
def tw11130319227724256482:=Q
def tw13728339570348324802:=Q
def tw6508942907969169056:=Q
def tw1037892904252655369:=Q
def tw7684932113449749630:=Q
def tw2730985643607494972:=Q
def tw18098121983099160535:=Q
def tw10383011948384774503:=Q
def tw10091230561653344639:=Q
def tw1881273704944878244:=Q
def tw15401887688599878958:=Q
def tw4277967311101434566:=Q
def tw7882550403082540632:=Q
def tw5859176768785636525:=Q
def tw5243785250527518594:=Q
def tw14348633789017468520:=Q
def tw5877361853570048277:=Q
def tw10024193081535444638:=Q
def tw13314895482113030469:=Q
def tw1137816127023480563:=Q
def tw55963375020215338:=Q
def tw12720435833386768519:=Q
def tw14234020928905586943:=Q
def tw8547670029239070441:=Q
def tw11445451323168749173:=Q
def tw2507339142543934847:=Q
def tw14795513836063667289:=Q
def tw4244224107479211949:=Q
def tw4565225234189666514:=Q
def tw13016513427281030807:=Q
def tw17380659981338329579:=Q
def tw17349152663443027356:=Q
def tw4188943864357852053:=Q
def tw15193813106916545158:=Q
def tw17415035292048028299:=Q
def tw10641905852288505609:=Q
def tw17920669798242795828:=Q
def tw5548594367238449968:=Q
def tw12018966361262017434:=Q
def tw4114832955179702208:=Q
def tw9579723792550879592:=Q
def tw9157912160227823027:=Q
def tw13657957918278031209:=Q
def tw14527445460345590098:=Q
def tw10703460650579506771:=Q
def tw9256588383981752807:=Q
def tw1623206100856384605:=Q
def tw7744318631238754115:=Q
def tw12188805695767867543:=Q
def tw4094553195465796243:=Q
def tw1252331717348642129:=Q
def tw12845517482183365075:=Q
def tw16510221446969812776:=Q
def tw13353087231463646630:=Q
def tw5476159544506162359:=Q
def tw17110854725499084555:=Q
def tw15394579834600328396:=Q
def tw14830874607812308737:=Q
def tw6012946548068289667:=Q
def tw6582110860057068498:=Q
def tw5660378202617923129:=Q
def tw6608107472326671958:=Q
def tw10370547142015372789:=Q
def tw11187085016785977055:=Q
def tw8987138274876853365:=Q
def tw7873695629641899590:=Q
def tw2401816007293210191:=Q
def tw15680252359660847350:=Q
def tw9831097971624647749:=Q
def tw9873063655036652335:=Q
def tw14276412850209160770:=Q
def tw14593391971796592635:=Q
def tw2408417395250412340:=Q
def tw14679705545784094115:=Q
def tw14499442562592155379:=Q
def tw6599671521439566496:=Q
def tw6907903013331764307:=Q
def tw2874483997165897716:=Q
def tw8730637840546843180:=Q
def tw11233991970650178936:=Q
def tw15969422205307061388:=Q
def tw7992071122054356438:=Q
def tw9458438417733417544:=Q
def tw4059506406240930497:=Q
def tw14785431579214920492:=Q
def tw9398755181647905940:=Q
def tw8528607478329277324:=Q
def tw10782578117180518706:=Q
def tw9022275256787443254:=Q
def tw45445824580559861:=Q
def tw1736984353645724647:=Q
def tw3548801324352766825:=Q
def tw130669555129263765:=Q
def tw11430105091317740831:=Q
def tw8591546310910293287:=Q
def tw16405829120222247425:=Q
def tw3744649244972304533:=Q
def tw16012853840161615669:=Q
def tw14044691726127062916:=Q
def tw5624576788316650439:=Q
def tw10214968258447770062:=Q
def tw5358042822712767063:=Q
def tw1858405897226171511:=Q
def tw4109513341240313670:=Q
def tw14432964332912965140:=Q
def tw10626539062129249341:=Q
def tw12387918214521564271:=Q
def tw331583504980625855:=Q
def tw15204467768845189847:=Q
def tw1682746344899615239:=Q
def tw3078410920600688835:=Q
def tw46248621153460090:=Q
def tw10730101152909557743:=Q
def tw7567098641226717290:=Q
def tw1557755183244965201:=Q
def tw443959682692570214:=Q
def tw3454924910769414415:=Q
def tw11300886177552322013:=Q
def tw18211466463363971019:=Q
def tw15624123193918481603:=Q
def tw13091444588447065815:=Q
def tw14641701164866267527:=Q
def tw4572552612507164030:=Q
def tw14291826270047357499:=Q
def tw11114897189859453646:=Q
def tw1204233558629094892:=Q
def tw2298757550036131994:=Q
def tw5032331088115382231:=Q
def tw11524507262296941301:=Q
def tw12129413334019958868:=Q
def tw2361241390727803474:=Q
def tw9364629136457372618:=Q
def tw9244539258791650074:=Q
def tw9079118308526870074:=Q
def tw3843679242670118725:=Q
def tw16425314553452371498:=Q
def tw2890967065778335426:=Q
def tw704400128114253159:=Q
def tw11028551508030395809:=Q
def tw7019806970291476443:=Q
def tw10429787425604641104:=Q
def tw1670966841996952130:=Q
def tw10870683356526391545:=Q
def tw3529284103597475189:=Q
def tw16310348325409362624:=Q
def tw17857373838967179632:=Q
def tw6443904484266597631:=Q
def tw1134007374481335732:=Q
def tw2507388526918183049:=Q
def tw8440952910465447701:=Q
def tw16369525185408908878:=Q
def tw7544012746437965499:=Q
def tw10466230480712540787:=Q
def tw3808763885222238027:=Q
def tw6092070394525390901:=Q
def tw5576884798606092566:=Q
def tw14872565214084431037:=Q
def tw17978091799540709959:=Q
def tw5645814834307868658:=Q
def tw15577523336181673536:=Q
def tw11173956937415622409:=Q
def tw16139368630802846193:=Q
def tw14127976398656316288:=Q
def tw11965423631625071392:=Q
def tw5057563694061013765:=Q
def tw17147588624778708953:=Q
def tw5863983713866995397:=Q
def tw7231767523707819545:=Q
def tw11768517524738052533:=Q
def tw10330340579749069946:=Q
def tw2241090028023068674:=Q
def tw16963585916306545663:=Q
def tw3222205710926506951:=Q
def tw14740498377631739615:=Q
def tw13658709808858460602:=Q
def tw15934421668718563825:=Q
def tw2504344517868770102:=Q
def tw15394292715811269768:=Q
def tw15583378393090589897:=Q
def tw1628846545274966092:=Q
def tw10825747662169344860:=Q
def tw10497553812722644449:=Q
def tw6058448914734303458:=Q
def tw10193305861152153824:=Q
def tw3235806120527232307:=Q
def tw2481751230972637600:=Q
def tw10546436157768427250:=Q
def tw12933321702828207:=Q
def tw3099562538823273664:=Q
def tw10616169622405777237:=Q
def tw11869394887827749891:=Q
def tw11526463229019956309:=Q
def tw4468459180069778690:=Q
def tw7353270008321726749:=Q
def tw15579005551818281211:=Q
def tw4082019040435402763:=Q
def tw17431904440792274559:=Q
def tw964391709703106114:=Q
def tw1047330113715839561:=Q
def tw239797790757922015:=Q
def tw14695987665722316357:=Q
def tw3594508065435602171:=Q
def tw14708166861028632880:=Q
def tw4120785372794430003:=Q
def tw16942497306576734854:=Q
def tw7130825556560538597:=Q
def tw1814015899218023164:=Q
def tw13646352000585865556:=Q
def tw4384825106180903379:=Q
def tw14146012575340442126:=Q
def tw12094407191929923740:=Q
def tw2365778296728727235:=Q
def tw12175978164084507733:=Q
def tw13264598575213590342:=Q
def tw10637481182974107033:=Q
def tw14240484847165166101:=Q
def tw18147629802934939482:=Q
def tw4933376500183630594:=Q
def tw8960213187377977509:=Q
def tw794366799752355519:=Q
def tw13852567010834960755:=Q
def tw15438550545954977787:=Q
def tw7077742542197572472:=Q
def tw12118797855966052240:=Q
def tw12778819460431219862:=Q
def tw523920525880848086:=Q
def tw5146055577152062390:=Q
def tw4113115694575444630:=Q
def tw15122359093405499223:=Q
def tw13797076683626261206:=Q
def tw7417123051851425680:=Q
def tw5834781849430428343:=Q
def tw7404412707764110779:=Q
def tw3171336348082082306:=Q
def tw17415569077745088233:=Q
def tw13433351696104076125:=Q
def tw15009848621579882707:=Q
def tw135530146749528841:=Q
def tw18037935819039622408:=Q
def tw7294883346666958939:=Q
def tw16717518898256463789:=Q
def tw8914630109229693062:=Q
def tw3670134048133214961:=Q
def tw1343691556669736604:=Q
def tw14269390470767698907:=Q
def tw5468136448095137523:=Q
end
end PySem.W.Fast
open PySem PySem.W PyProof.Rows
set_option maxRecDepth 100000 in
set_option maxHeartbeats 0 in
theorem PySem.Challenge.cw_ohmyard_k73_a_net_watched_holds : PySem.Challenge.rw_ohmyard_k73_a_net_watched.Holds := by
  w_on; o_law; k_head; (case hw => w_witness2)
  k_fill
  refine K73.qr7 (l:=PySem.Challenge.rw_ohmyard_k73_a_net_watched) rfl rfl (fun w h Y=>PySem.W.kIn_of Y) ?F
  case F =>
    intro w mg fa h KX G hmg
    refine' K73.qd8 {P:=PySem.Challenge.rw_ohmyard_k73_a_net_watched.prog,w:=w,mg:=mg,K:=PySem.Challenge.cw_ohmyard_k73_a_net_watched_holds.heap_39 w.params,..} hmg (.mk ?_ ?_ ?_ ?_ ?_ ?_ ?_ ?_ ?_ ?_ ?_ ?_ ?_ ?_ ?_ ?_ ?_ ?_ ?_ ?_ ?_ ?_ ?_ ?_ ?_ ?_ ?_ ?_ ?_ ?_ ?_ ?_ ?_ ?_ ?_ ?_ ?_ ?_ ?_ ?_ ?_ ?_ ?_ ?_ ?_ ?_ ?_ ?_ ?_ ?_ ?_ ?_ ?_ ?_ ?_ ?_ ?_ ?_ ?_ ?_ ?_ ?_ ?_ ?_ ?_ ?_ ?_ ?_ ?_ ?_ ?_ ?_ ?_ ?_ ?_ ?_ ?_ ?_ ?_ ?_ ?_ ?_ ?_ ?_ ?_ ?_ ?_ ?_ ?_ ?_ ?_ ?_ ?_ ?_ ?_ ?_ ?_ ?_ ?_ ?_ ?_ ?_ ?_ ?_ ?_ ?_ ?_ ?_ ?_ ?_ ?_ ?_ ?_ ?_ ?_ ?_ ?_ ?_ ?_ ?_ ?_ ?_ ?_ ?_ ?_ ?_ ?_ ?_ ?_ ?_ ?_ ?_ ?_ ?_ ?_ ?_ ?_ ?_ ?_ ?_ ?_ ?_ ?_ ?_ ?_ ?_ ?_ ?_ ?_ ?_ ?_ ?_ ?_ ?_ ?_ ?_ ?_ ?_ ?_ ?_ ?_ ?_ ?_ ?_ ?_ ?_ ?_ ?_ ?_ ?_ ?_ ?_ ?_ ?_ ?_ ?_ ?_ ?_ ?_ ?_ ?_ ?_ ?_ ?_ ?_ ?_ ?_ ?_ ?_ ?_ ?_ ?_ ?_ ?_ ?_ ?_ ?_ ?_ ?_ ?_ ?_ ?_ ?_ ?_ ?_ ?_ ?_ ?_ ?_ ?_ ?_ ?_ ?_ ?_ ?_ ?_ ?_ ?_ ?_ ?_ ?_ ?_ ?_ ?_ ?_ ?_ ?_ ?_ ?_ ?_ ?_ ?_ ?_ ?_ ?_ ?_ ?_ ?_ ?_ ?_ ?_ ?_ ?_ ?_ ?_ ?_ ?_ ?_ ?_ ?_ ⟨(mg_none_of KX G ?_),(mg_none_of KX G ?_),(mg_none_of KX G ?_),(mg_none_of KX G ?_)⟩ ⟨L2.jD ⟨?_,?_,?_,?_⟩ ⟨?_,?_,?_,?_⟩ ⟨?_,?_,?_,?_⟩,L2.jD ?_ ?_ ?_,L2.jD ?_ ?_ ?_,L2.jD ?_ ?_ ?_,L2.jD ?_ ?_ ?_,?_,?_,L2.jD ?_ ?_ ?_,L2.jD ?_ ?_ ?_,L2.jD (L2.jD (L2.qC _ _) ?_ ?_) (L2.jD ?_ (L2.qC _ _) ?_) (L2.jD ?_ ?_ (L2.qC _ _)),(mg_of KX G ?_),L2.jD (mg_of KX G ?_) (mg_of KX G ?_) (mg_of KX G ?_)⟩ (L2.Fq.mod ?_) (L2.Fq.mod ?_) ⟨⟨?_,?_,?_,?_⟩,?_,?_,?_,?_,?_,?_,(mg_of KX G ?_)⟩ ⟨⟨?_,?_,?_,?_⟩,?_,?_,?_,(mg_of KX G ?_)⟩ ⟨⟨?_,?_,?_,?_⟩,?_,?_,(mg_of KX G ?_)⟩ (K73.Yi (mg_of KX G ?_) (mg_of KX G ?_) (mg_of KX G ?_) (mg_of KX G ?_) (mg_of KX G ?_) (mg_of KX G ?_) (mg_of KX G ?_) (mg_of KX G ?_) (mg_of KX G ?_) (mg_of KX G ?_) (mg_of KX G ?_) (mg_of KX G ?_) (mg_of KX G ?_)) ⟨_,(mg_of KX G ?_),?_,?_⟩ (L2.jD (⟨?_,?_,?_,?_⟩) (⟨?_,?_,?_,?_⟩) (⟨?_,?_,?_,?_⟩)) ⟨?_,?_,?_,?_⟩ ⟨?_,?_,?_,?_⟩ ⟨?_,?_,?_,?_⟩)
    any_goals first|(refine mg_of KX G ?_;k_is)|(refine mg_none_of KX G ?_;k_is)
    all_goals try dsimp only
    any_goals first|k_is|walk_at "F9"|kit_is|kts_exm|k_exc|(unfold L2.qa6;k_exc)|(show _=_;k_is)|rfl|decide
    any_goals first|k_is|walk_at "F9"|kit_is|kts_exm|k_exc|(unfold L2.qa6;k_exc)|(show _=_;k_is)|rfl|decide
