import PyProof.Rows.All
import Wide.Line
import OpenK.KOwn
import KE.RegKIsAll
import KE.RegKTryMore
import Wide.FinOn
import Lean
import PyProof.EqAt
import PyProof.EqKinds
import PyProof.TupleCall
import PyProof.Cells
import PyProof.SumWalkG
import PyProof.EnumStmt
import PyProof.EnumMake
import PyProof.InstStoreFacts
import KE.KDictList
import KE.KItem
import KE.KIntText
import PySem.Challenge.RW_ohmyard_k49_refused_waste
set_option Elab.async false
set_option linter.all false
local macro_rules|`(tactic|exists $x,*)=>`(tactic|refine ⟨$x,*⟩)
local macro_rules|`(())=>`(by lia)
local macro_rules|`(∅)=>`(by decide +kernel)
local macro_rules|`(⋯)=>`(by simp)
open Lean.Parser.Tactic in
def zp:Nat->Lean.Term->Lean.MacroM (Lean.TSyntax `Lean.Parser.Tactic.rcasesPatLo)
 |0,_=>Lean.Macro.throwUnsupported
 |n+1,t=>match t with
  |`(⟨$y,*⟩)=>do let z<-y.getElems.mapM (zp n);`(rcasesPatLo|⟨$[$z],*⟩)
  |`($i:ident)=>`(rcasesPatLo|$i:ident)
  |_=>`(rcasesPatLo|_)
local macro_rules|`(tactic|let ⟨$x,*⟩ := $e)=>do let z<-x.getElems.mapM (zp 9);`(tactic|obtain ⟨$[$z],*⟩ := $e)|`(tactic|let $i:ident := $e)=>`(tactic|have $i:ident := $e)|`(tactic|let $i:ident : $t := $e)=>`(tactic|have $i:ident : $t := $e)
local macro_rules|`(⟨$x,*⟩)=>do
 let y:=x.getElems;unless y.any (λt=>t.raw.isNatLit?.any λn=>5<n&&n<10) do Lean.Macro.throwUnsupported
 let z<-y.foldlM (λr t=>do match t.raw.isNatLit? with|some 9=>return (r.push (<-`(_))).push (<-`(rfl))|some 8=>return r.push (<-`(rfl))|some 7=>return r.push (<-`(?_))|some 6=>return r.push (<-`(by lia))|_=>return r.push t) #[]
 `(⟨$z,*⟩)
set_option maxRecDepth 100000
open PySem.W (Frag)
set_option maxHeartbeats 4000000
open List
theorem wk{α}{l:List α}{i a}:l[i]?=some a<->∃h:i<l.length,l[i]=a:=List.getElem?_eq_some_iff
theorem wq{α}{l m:List α}:(l++m).length=l.length+m.length:=List.length_append
namespace L2
open PySem PySem.Spec PyProof.Rows
abbrev Key:=Sum Int Str
def Ac:Key->Value->Bool
 | .inl k,v=>Value.isInt k v
 | .inr x,v=>Value.isStrOf x v
def aAw(w:World):Key->Int
 | .inl k=>hashInt k
 | .inr x=>hashStr w x
theorem fA:∀{k:Key}{v:Value},Ac k v=true->(∃i t,k=Sum.inl i/\v=Value.int i t)\/(∃x t,k=Sum.inr x/\v=Value.str x t)
 | .inl i,v,h=>by
  let⟨t,e⟩:=Value.isInt_shape (k:=i) (v:=v) h;exact .inl ⟨i,t,8,e⟩
 | .inr x,v,h=>by
  let⟨t,e⟩:=Value.isStrOf_shape (x:=x) (v:=v) h;exact .inr ⟨x,t,8,e⟩
theorem Qe(i:Int)(t:Tok):Ac (.inl i) (.int i t)=true:=by simp[Ac,Value.isInt]
theorem Pa(x:Str)(t:Tok):Ac (.inr x) (.str x t)=true:=by simp[Ac,Value.isStrOf]
theorem qo0(a b:Int):decide ((Sum.inl a:Key)=Sum.inl b)=(a == b):=by
 by_cases e:a=b
 .subst e;simp
 .let h:¬(Sum.inl a:Key)=Sum.inl b:=λq=>e (Sum.inl.inj q);rw[decide_eq_false h];exact(beq_eq_false_iff_ne.mpr e).symm
theorem qm7(a b:Str):decide ((Sum.inr a:Key)=Sum.inr b)=decide (a=b):=by
 by_cases e:a=b
 .subst e;simp
 .let h:¬(Sum.inr a:Key)=Sum.inr b:=λq=>e (Sum.inr.inj q);rw[decide_eq_false h,decide_eq_false e]
theorem qn9(a:Int)(b:Str):decide ((Sum.inl a:Key)=Sum.inr b)=false:=decide_eq_false (λq=>nomatch q)
theorem qp4(a:Str)(b:Int):decide ((Sum.inr a:Key)=Sum.inl b)=false:=decide_eq_false (λq=>nomatch q)
def fD(prog:Program)(w:World):PySem.KeyKind prog w Key where
 is:=Ac
 hash:=aAw w
 inj:=λv a b ha hb=>by
  rcases fA ha with ⟨i,t,rfl,rfl⟩ | ⟨x,t,rfl,rfl⟩
  .rcases fA hb with ⟨j,u,rfl,e⟩ | ⟨y,u,rfl,e⟩
   .injection e with e1 _;rw[e1]
   .exact nomatch e
  .rcases fA hb with ⟨j,u,rfl,e⟩ | ⟨y,u,rfl,e⟩
   .exact nomatch e
   .injection e with e1 _;rw[e1]
 byValue:=λk v h=>by
  rcases fA h with ⟨i,t,rfl,rfl⟩ | ⟨x,t,rfl,rfl⟩<;>rfl
 pyHash:=λhv h=>by
  rcases fA hv with ⟨i,t,rfl,rfl⟩ | ⟨x,t,rfl,rfl⟩
  .exact wpAny_pyHash_int h
  .exact wpAny_pyHash_str h
 eqBool:=λhu hv h=>by
  rcases fA hu with ⟨i,t,rfl,rfl⟩ | ⟨x,t,rfl,rfl⟩
  .rcases fA hv with ⟨j,u,rfl,rfl⟩ | ⟨y,u,rfl,rfl⟩
   .rw[qo0] at h;exact wpAny_eqBool_int h
   .rw[qn9] at h;exact SeqAt.EqAt.int_str i t y u _ _ _ _ h
  .rcases fA hv with ⟨j,u,rfl,rfl⟩ | ⟨y,u,rfl,rfl⟩
   .rw[qp4] at h;exact SeqAt.EqAt.str_int x t j u _ _ _ _ h
   .rw[qm7] at h;exact wpAny_eqBool_str h
 «strs»:=λk x t v h=>by
  rcases fA h with ⟨i,u,rfl,e⟩ | ⟨y,u,rfl,e⟩
  .exact nomatch e
  .injection e with e1 _
   subst e1
   cases v<;>rfl
theorem Gh(prog:Program)(w:World)(i:Int)(t:Tok):(fD prog w).is (.inl i) (.int i t)=true:=Qe i t
theorem Fj(prog:Program)(w:World)(x:Str)(t:Tok):(fD prog w).is (.inr x) (.str x t)=true:=Pa x t
inductive V where
 |non | bl (b:Bool) | int (i:Int) | str (x:Str) | byt (b:Array UInt8) | flt (b:UInt64) | ref (a:Addr) | ty (n:String)
 deriving DecidableEq
abbrev vk:=List V
def cE:V->Value->Prop
 | .non,u=>u=Value.none
 | .bl b,u=>u=Value.bool b
 | .int i,u=>∃t,u=Value.int i t
 | .str x,u=>∃t,u=Value.str x t
 | .byt b,u=>∃t,u=Value.bytes b t
 | .flt b,u=>∃t,u=Value.float b t
 | .ref a,u=>u=Value.ref a
 | .ty n,u=>u=Value.type n
abbrev cB:vk->List Value->Prop:=Paired cE
theorem cB.length(r:cB xs us):xs.length=us.length:=Paired.length r
theorem cB.get:∀{xs:vk}{us:List Value}{i:Nat}{x:V},cB xs us->xs[i]?=some x->∃u,us[i]?=some u/\cE x u
 |_,_,_,_,.nil,e=>by simp at e
 |_,_,0,_,.cons r _,e=>by simp at e;subst e;exists 9,r
 |_,_,i+1,x,.cons _ t,e=>by
  let⟨u,h1,h2⟩:=cB.get (i:=i) (x:=x) t (by simpa using e);exists u,by simpa using h1,h2
theorem cB.set(r:cE x u):∀{xs:vk}{us:List Value}(i:Nat),cB xs us->cB (xs.set i x) (us.set i u)
 |_,_,_,.nil=>.nil
 |_,_,0,.cons _ t=>.cons r t
 |_,_,i+1,.cons q t=>.cons q (cB.set r i t)
theorem cB.append:∀{xs ys:vk}{us a:List Value},cB xs us->cB ys a->cB (xs++ys) (us++a)
 |_,_,_,_,.nil,s=>s
 |_,_,_,_,.cons r t,s=>.cons r (cB.append t s)
theorem cB.take:∀{xs:vk}{us:List Value}(n:Nat),cB xs us->cB (xs.take n) (us.take n)
 |_,_,0,_=>.nil
 |_,_,_+1,.nil=>.nil
 |_,_,n+1,.cons r t=>.cons r (cB.take n t)
theorem cB.drop:∀{xs:vk}{us:List Value}(n:Nat),cB xs us->cB (xs.drop n) (us.drop n)
 |_,_,0,r=>r
 |_,_,_+1,.nil=>.nil
 |_,_,n+1,.cons _ t=>cB.drop n t
def kK:Option V->Option Value->Prop
 |some v,some u=>cE v u
 |none,none=>True
 |_,_=>False
def KV{κ:Type}:List (κ × V)->List (κ × Value)->Prop:=Paired λ(p:κ × V)(q:κ × Value)=>p.1=q.1/\cE p.2 q.2
def kV:Key->V
 | .inl i=>.int i
 | .inr x=>.str x
inductive HO where
 |lst (xs:vk)
 |tup (xs:vk)
 |dK (kvs:List (Key × V)) | dT (kvs:List (List Key × V))
 |set (S:Int->Bool) (n:Nat)
 |ins (C dx:Addr) (fs:List (Str × V))
 |own (x:Addr)
 |xd (fs:List (Str × V))
 |met (f x:Addr)
 |rng (lo hi:Int)
 |frz (o:Obj) (u:HO)
 |tbl (ps:Array Value)
 |ext (φ:Heap->Prop)
abbrev Hp:=Addr->Option HO
def upd(H:Hp)(a:Addr)(o:HO):Hp:=λb=>if b=a then some o else H b
theorem aB:upd H a o a=some o:=by unfold upd;rw[if_pos rfl]
theorem aQ(h:b≠a):upd H a o b=H b:=by unfold upd;rw[if_neg h]
theorem sE:upd (upd H a o) a u=upd H a u:=by
 funext b;unfold upd;split<;>rfl
theorem gV{H:Hp}(h:H a=some o)(h':H b=some u)(d:o≠u):a≠b:=by
 intro e;subst e;rw[h] at h';exact d (Option.some.inj h')
theorem bA{H:Hp}(h:H a=some o)(h':H b=none):a≠b:=by
 intro e;subst e;rw[h] at h';cases h'
section
variable (P:Program) (w:World)
def cP(H:Hp)(h:Heap)(a:Addr):HO->Prop
 | .lst xs=>xs.length<=sizeLine/\∃(its:List Value)(n:Nat),cB xs its/\h.get? a=some { cls:=.type "list",data:=.seq its.toArray n }
 | .tup xs=>xs.length<=sizeLine/\∃its:List Value,cB xs its/\IsTup h a its.toArray
 | .dK kvs=>kvs.length<=sizeLine/\(a == sysModules)=false/\∃vs,KV kvs vs/\h.DictOf (fD P w) a vs
 | .dT kvs=>kvs.length<=sizeLine/\(a == sysModules)=false/\∃xs:List (List Key × Addr × Value),
   Paired (λ(p:List Key × V)(q:List Key × Addr × Value)=>p.1=q.1/\H q.2.1=some (.tup (p.1.map kV))/\cE p.2 q.2.2) kvs xs/\
   ∃o es ep,h.get? a=some o/\o.ExactDict/\o.data=.dict es ep/\es.toList=xs.map (entryOfKey (tupleKind (fD P w)))/\(xs.map (·.1)).Nodup
 | .set S n=>h.SetOf (intKind P w) a S n
 | .ins C dx fs=>H dx=some (.own a)/\fs.length<=1000/\dx≠a/\h.get? a=some (W.instObj C dx)/\
   ∃mA,h.Ns1 dx mA/\(∀f,kK (fs.lookup f) (mA f))/\PySem.Within mA (fs.map (·.1))
 | .own _=>∃o,h.get? a=some o
 | .xd fs=>∃mA,h.Ns1 a mA/\∀f,kK (fs.lookup f) (mA f)
 | .rng lo hi=>∃t u v,h.get? a=some { cls:=.type "range",data:=.fields #[.int lo t,.int hi u,.int 1 v] }
 | .frz o u=>h.get? a=some o/\cP H h a u
 | .tbl ps=>h.get? a=some { cls:=.none,data:=.fields ps }
 | .met f x=>h.get? a=some (W.methodObj (.ref f) (.ref x))
 | .ext φ=>φ h/\(∃o,h.get? a=some o)/\∀h1 h2:Heap,φ h1->(∀o,h1.get? a=some o->h2.get? a=some o)->φ h2
def HOk(H:Hp)(h:Heap):Prop:=∀a o,H a=some o->cP P w H h a o
end
section
variable {P:Program} {w:World} {H H':Hp} {h h':Heap} {a:Addr} {o:HO}
theorem cP.lt(x:cP P w H h a o):a < h.objs.size:=by
 cases o with
 |lst xs=>let⟨_,_,_,_,e⟩:=x;exact Heap.lt_size e
 |tup xs=>let⟨_,_,_,p⟩:=x;exact p.lt
 |dK kvs=>let⟨_,_,_,_,o,_,_,e,_⟩:=x;exact Heap.lt_size e
 |dT kvs=>let⟨_,_,_,_,o,_,_,e,_⟩:=x;exact Heap.lt_size e
 |set S n=>let⟨o,_,_,_,e,_⟩:=x;exact Heap.lt_size e
 |ins C dx fs=>let⟨_,_,_,e,_⟩:=x;exact Heap.lt_size e
 |own y=>let⟨_,e⟩:=x;exact Heap.lt_size e
 |xd fs=>let⟨_,⟨_,_,_,e,_⟩,_⟩:=x;exact Heap.lt_size e
 |rng lo hi=>let⟨_,_,_,e⟩:=x;exact Heap.lt_size e
 |frz ob u=>let⟨e,_⟩:=x;exact Heap.lt_size e
 |tbl ps=>exact Heap.lt_size (show h.get? a=some _ from x)
 |met f y=>exact Heap.lt_size (show h.get? a=some _ from x)
 |ext φ=>let⟨_,⟨_,e⟩,_⟩:=x;exact Heap.lt_size e
theorem Paired.mapP:∀{c:List α}{d:List β},Paired F c d->(∀a b,F a b->G a b)->Paired G c d
 |_,_,.nil,_=>.nil
 |_,_,.cons r t,f=>.cons (f _ _ r) (Paired.mapP t f)
theorem cP.stay(x:cP P w H h a o)(k:∀b u,(b=a\/H b=some (.own a))->h.get? b=some u->h'.get? b=some u)(ho:∀b,H b=some (.own a)->H' b=some (.own a))(A:∀b xs,H b=some (.tup xs)->H' b=some (.tup xs)):cP P w H' h' a o:=by
 induction o with
 |lst xs=>let⟨z,j,n,r,e⟩:=x;exists z,j,n,r,k _ _ (.inl rfl) e
 |tup xs=>let⟨z,j,r,g,e,c⟩:=x;exists z,j,r,g,k _ _ (.inl rfl) e,c
 |dK kvs=>let⟨z,y,vs,r,g,es,i,e,c⟩:=x;exists z,y,vs,r,g,es,i,k _ _ (.inl rfl) e,c
 |dT kvs=>
  let⟨z,y,xs,r,g,es,i,e,c⟩:=x;exists z,y,xs,Paired.mapP r λp q z=>⟨z.1,A _ _ z.2.1,z.2.2⟩,g,es,i,k _ _ (.inl rfl) e,c
 |set S n=>let⟨g,es,i,t,e,c⟩:=x;exists g,es,i,t,k _ _ (.inl rfl) e,c
 |ins C dx fs=>
  let⟨d,z,m,e,mA,⟨l,es,i,s,c⟩,r⟩:=x;exists ho _ d,z,m,k _ _ (.inl rfl) e,mA,⟨l,es,i,k _ _ (.inr d) s,c⟩,r
 |own y=>let⟨g,e⟩:=x;exists g,k _ _ (.inl rfl) e
 |xd fs=>let⟨mA,⟨l,es,i,e,c⟩,r⟩:=x;exists mA,⟨l,es,i,k _ _ (.inl rfl) e,c⟩,r
 |rng lo hi=>let⟨t,u,v,e⟩:=x;exists t,u,v,k _ _ (.inl rfl) e
 |frz g u ih=>let⟨e,q⟩:=x;exists k _ _ (.inl rfl) e,ih q
 |tbl ps=>
  let e:h.get? a=some { cls:=.none,data:=.fields ps }:=x;show h'.get? a=some { cls:=.none,data:=.fields ps };exact k a _ (.inl rfl) e
 |met f y=>
  let e:h.get? a=some (W.methodObj (.ref f) (.ref y)):=x;show h'.get? a=some (W.methodObj (.ref f) (.ref y));exact k a _ (.inl rfl) e
 |ext φ=>let⟨p,⟨o,e⟩,st⟩:=x;exists st _ _ p λo q=>k _ _ (.inl rfl) q,⟨o,k _ _ (.inl rfl) e⟩,st
theorem HOk.lt(x:HOk P w H h)(e:H a=some o):a < h.objs.size:=(x a o e).lt
theorem HOk.fresh(x:HOk P w H h)(e:h.objs.size<=a):H a=none:=by
 cases q:H a with
 |none=>rfl
 |some u=>exact absurd (Nat.lt_of_lt_of_le (x.lt q) e) (Nat.lt_irrefl _)
theorem HOk.kept(x:HOk P w H h)(k:∀b u,h.get? b=some u->h'.get? b=some u):HOk P w H h':=λa o e=>
 (x a o e).stay (λb u _ q=>k b u q) (λ_ q=>q) λ_ _ q=>q
theorem HOk.laid(x:HOk P w H h)(k:∀b u,h.get? b=some u->h'.get? b=some u)(hp:h.objs.size<=a)(new:cP P w (upd H a o) h' a o):HOk P w (upd H a o) h':=λb u e=>by
 let d:=x.fresh hp
 by_cases f:b=a
 .subst f;rw[aB] at e;cases e;exact new
 .rw[aQ f] at e;exact(x b u e).stay (λc v _ q=>k c v q) (λc q=>by rw[aQ (bA q d)];exact q) λc xs q=>by rw[aQ (bA q d)];exact q
end
def Rd(H:Hp)(a:Addr)(u:HO):Prop:=H a=some u\/∃o,H a=some (.frz o u)
theorem Rd.ok(r:Rd H a u)(x:HOk P w H h):cP P w H h a u:=by
 rcases r with r | ⟨o,r⟩
 .exact x a u r
 .let⟨_,q⟩:=x a _ r;exact q
def Mut:Option HO->Prop
 |some (.lst _)=>True
 |some (.dK _)=>True
 |some (.dT _)=>True
 |some (.set _ _)=>True
 |some (.ins _ _ _)=>True
 |some (.ext _)=>True
 |_=>False
section
variable {P:Program} {w:World} {H:Hp} {h h':Heap} {x e:Addr} {o':HO}
theorem HOk.write(ok:HOk P w H h)(m:Mut (H x))(n:e=x\/H e=some (.own x))(k:∀b u,b≠e->h.get? b=some u->h'.get? b=some u)(o:∃u,h'.get? e=some u)(new:cP P w (upd H x o') h' x o'):HOk P w (upd H x o') h':=λb u q=>by
 let d:∀c y,H c=some (.own y)->c≠x:=λc y r z=>by subst z;rw[r] at m;exact m
 let i:∀c xs,H c=some (.tup xs)->c≠x:=λc xs r z=>by subst z;rw[r] at m;exact m
 by_cases f:b=x
 .subst f;rw[aB] at q;cases q;exact new
 .rw[aQ f] at q
  by_cases a:b=e
  .let j:H b=some (.own x):=by
    rcases n with z | z
    .exact absurd (a.trans z) f
    .rw[a];exact z
   rw[q] at j;cases j;let⟨v,l⟩:=o;exists v,by rw[a];exact l
  .refine(ok b u q).stay (λc v g r=>k c v ?_ r) (λc r=>by rw[aQ (d c b r)];exact r) λc xs r=>by rw[aQ (i c xs r)];exact r
   rcases g with rfl | g
   .exact a
   .rintro rfl;rcases n with z | z
    .exact d c b g z
    .rw[g] at z;cases z;exact f rfl
end
structure Un(fs ex:List Addr)(H H':Hp)(h h':Heap):Prop where
 keep:∀b o,h.get? b=some o->H b=none->b∉fs->b∉ex->h'.get? b=some o
 slot:∀b o,h.get? b=some o->H b=none->b∈fs->b∉ex->∃sl,h'.get? b=some { o with slots:=sl }
 free:∀b o,h.get? b=some o->H b=none->b∉ex->H' b=none
 there:∀b o,h.get? b=some o->b∉ex->∃o',h'.get? b=some o'
 tups:∀b xs,H b=some (.tup xs)->H' b=some (.tup xs)
 frzs:∀b o u,H b=some (.frz o u)->H' b=some (.frz o u)
 tbls:∀b ps,H b=some (.tbl ps)->∃more,H' b=some (.tbl (ps++more))
section
variable {fs fs' ex ex':List Addr} {H H1 H2:Hp} {h h1 h2 h':Heap} {a x e:Addr} {o:HO}
theorem Un.any(u:Un fs ex H H1 h h1)(q:h.get? b=some ob)(n:H b=none)(hx:b∉ex):∃c,h1.get? b=some { ob with slots:=c }:=by
 by_cases a:b∈fs
 .exact u.slot b ob q n a hx
 .exists ob.slots,u.keep b ob q n a hx
theorem Un.kept(k:∀b u,h.get? b=some u->h'.get? b=some u):Un fs ex H H h h':=
 ⟨λb a q _ _ _=>k b a q,λb a q _ _ _=>⟨a.slots,k b a q⟩,λ_ _ _ n _=>n,λb a q _=>⟨a,k b a q⟩,λ_ _ q=>q,λ_ _ _ q=>q,λ_ ps q=>⟨#[],by rw[q];simp⟩⟩
theorem Un.refl:Un fs ex H H h h:=Un.kept λ_ _ q=>q
theorem Un.laid(k:∀b u,h.get? b=some u->h'.get? b=some u)(hp:h.objs.size<=a)(c:H a=none):Un fs ex H (upd H a o) h h' where
 keep:=λb u q _ _ _=>k b u q
 slot:=λb u q _ _ _=>⟨u.slots,k b u q⟩
 free:=λb u q n _=>by rw[aQ (Nat.ne_of_lt (Nat.lt_of_lt_of_le (Heap.lt_size q) hp))];exact n
 there:=λb u q _=>⟨u,k b u q⟩
 tups:=λb xs q=>by rw[aQ (bA q c)];exact q
 frzs:=λb u xs q=>by rw[aQ (bA q c)];exact q
 tbls:=λb ps q=>⟨#[],by rw[aQ (bA q c),q];simp⟩
theorem Un.write(f:Mut (H x))(i:e=x\/H e=some (.own x))(k:∀b u,b≠e->h.get? b=some u->h'.get? b=some u)(g:∃u,h'.get? e=some u):Un fs ex H (upd H x o) h h':=by
 let c:∀b,H b=none->b≠x:=λb n z=>by subst z;rw[n] at f;exact f
 let d:∀b,H b=none->b≠e:=λb n z=>by
  subst z;rcases i with r | r
  .exact c b n r
  .rw[n] at r;cases r
 let hm:∀b u,H b=some u->¬Mut (some u)->b≠x:=λb u q nm z=>by subst z;rw[q] at f;exact nm f
 refine⟨λb u q n _ _=>k b u (d b n) q,λb u q n _ _=>⟨u.slots,k b u (d b n) q⟩,λb u q n _=>by rw[aQ (c b n)];exact n,λb u q _=>?_,
  λb xs q=>by rw[aQ (hm b _ q λz=>z)];exact q,λb u xs q=>by rw[aQ (hm b _ q λz=>z)];exact q,λb ps q=>⟨#[],by rw[aQ (hm b _ q λz=>z),q];simp⟩⟩
 by_cases a:b=e
 .subst a;exact g
 .exists u,k b u a q
end
def trk(h:Heap)(H:Hp):List Addr:=(List.range h.objs.size).filter λa=>(H a).isSome
def Ex(h:Heap)(H:Hp):Heap:=W.hideAll h (trk h H)
theorem On(h:Heap)(H:Hp):(Ex h H).objs.size=h.objs.size:=W.hideAll_size _ _
theorem Vf(e:h.get? b=some o)(n:H b=none):(Ex h H).get? b=some o:=
 W.hideAll_get _ e λhm=>by
  let q:(H b).isSome=true:=(mem_filter.mp hm).2;rw[n] at q;simp at q
theorem qd6(e:(Ex h H).get? b=some o):h.get? b=some o/\H b=none:=by
 let a:h.get? b=some o:=W.of_hideAll (trk h H) e;exists a,7
 cases q:H b with
 |none=>rfl
 |some x=>
  let hm:b∈trk h H:=mem_filter.mpr ⟨mem_range.mpr (Heap.lt_size a),by simp[q]⟩;let z:(Ex h H).get? b=none:=W.hideAll_none (trk h H) hm;rw[z] at e;cases e
structure Mod(K:Frag)(mg:Str->Option Value)(base:Heap):Prop where
 kin:K.In base
 glob:base.Ns mainGlobals mg
 blt:∃mb,base.Ns builtinsNs mb/\∀x:Str,x≠"__name__"->mb x=bootBuiltins x
 nolimit:base.NoLimit
structure Cx where
 prog:Program
 w:World
 K:Frag
 mg:Str->Option Value
 base:Heap
 A:Around
 N:List Str
 s₀:Shared
 H₀:Hp
 env:Env
 outer:List Env
 stack:List Env
 ex:List Addr
 fn:Str->Bool
 calm:Bool
 pn:List (Addr × Obj)
 xe:Value->Shared->Prop
abbrev zzW{α:Type}(X:Cx):=wpAny (α:=α) (model X.prog X.w) X.A
def frs(l:List Env):List Addr:=l.filterMap (·.frame)
abbrev Cx.fs(X:Cx):List Addr:=frs X.outer
def Vis(sc:Scope)(x:Str):Prop:=sc.names.lookup x=some .local\/sc.names.lookup x=some .cell\/sc.names.lookup x=some .free
def Loc(sc:Scope)(x:Str):Prop:=sc.names.lookup x=some .local\/sc.names.lookup x=some .cell
def aAy(env:Env)(h:Heap)(m:Str->Option Value)(x:Str)(u:Value):Prop:=
 (env.kindOf x=some .local/\m x=some u)\/((env.kindOf x=some .cell\/env.kindOf x=some .free)/\∃c,env.cells.lookup x=some c/\h.IsCell c (some u))
structure Cx.Ok(X:Cx):Prop where
 mod:Mod X.K X.mg X.base
 kind:X.env.scope.kind=.function
 glob:X.env.globals=mainGlobals
 blt:X.env.builtins=builtinsNs
 above:X.s₀.heap.objs.size<=X.env.locals
 inj:∀x y c,X.env.cells.lookup x=some c->X.env.cells.lookup y=some c->x=y
 has:∀x,(X.env.kindOf x=some .cell\/X.env.kindOf x=some .free)->∃c,X.env.cells.lookup x=some c
 cab:∀x c,X.fn x=true->X.env.cells.lookup x=some c->X.s₀.heap.objs.size<=c
 hd:X.calm=true->X.A.handled=none
 frames:X.A.frames=some X.stack
 stk:X.stack=X.outer\/(X.stack=X.env :: X.outer/\X.env.frame=some X.env.locals)
 exf:∀b∈X.ex,b≠X.env.locals/\∀x c,X.env.cells.lookup x=some c->c≠b
 bs:∀b o,X.base.get? b=some o->X.s₀.heap.get? b=some o/\X.H₀ b=none
 bsz:X.base.objs.size<=X.s₀.heap.objs.size
 noex:∀b o,X.base.get? b=some o->b∉X.ex
 exfs:∀b∈X.ex,b∉X.fs
 funs:X.s₀.heap.FunFrames X.base X.outer
 frf:∀b∈X.fs,X.H₀ b=none
structure Inv(X:Cx)(pins:List (Addr × Obj))(σ:List (Option V))(H:Hp)(s:Shared):Prop where
 ok:X.Ok
 os:s.os=X.s₀.os
 bare:AllBare s.gens
 base:Un X.fs X.ex X.H₀ H X.s₀.heap s.heap
 loc:∃m,s.heap.Ns X.env.locals m/\∀(i:Nat)(x:Str)(v:V),X.N[i]?=some x->σ[i]?=some (some v)->Vis X.env.scope x->∃u,cE v u/\aAy X.env s.heap m x u
 cell:∀x c,X.env.cells.lookup x=some c->∃v,s.heap.IsCell c v
 free:H X.env.locals=none
 freeC:∀x c,X.env.cells.lookup x=some c->H c=none
 pin:∀p∈X.pn++pins,s.heap.get? p.1=some p.2/\H p.1=none/\p.1≠X.env.locals/\p.1∉X.fs/\∀v,p.2.data≠.cell v
 hok:HOk X.prog X.w H s.heap
 len:σ.length=X.N.length
section
variable {X:Cx} {pins:List (Addr × Obj)} {σ:List (Option V)} {H H':Hp} {s:Shared} {h':Heap}
theorem Cx.Ok.nofr(ok:X.Ok)(e:X.base.get? b=some o):b∉X.fs:=λa=>by
 have:=(ok.funs.mem a).1;rw[e] at this;cases this
theorem Inv.bs(I:Inv X pins σ H s):∀b o,X.base.get? b=some o->s.heap.get? b=some o/\H b=none:=λb o e=>
 ⟨I.base.keep b o (I.ok.bs b o e).1 (I.ok.bs b o e).2 (I.ok.nofr e) (I.ok.noex b o e),I.base.free b o (I.ok.bs b o e).1 (I.ok.bs b o e).2 (I.ok.noex b o e)⟩
theorem Inv.bk(I:Inv X pins σ H s):∀b o,X.base.get? b=some o->s.heap.get? b=some o:=λb o e=>(I.bs b o e).1
theorem Inv.mod(I:Inv X pins σ H s):Mod X.K X.mg X.base:=I.ok.mod
theorem Inv.kIn(I:Inv X pins σ H s):X.K.In s.heap:=I.ok.mod.kin.keeps I.bk
theorem Inv.lt(I:Inv X pins σ H s):X.env.locals < s.heap.objs.size:=let ⟨_,hn,_⟩:=I.loc;hn.lt
theorem Inv.sz(I:Inv X pins σ H s):X.s₀.heap.objs.size<=s.heap.objs.size:=Nat.le_trans I.ok.above (Nat.le_of_lt I.lt)
theorem Inv.nofs(I:Inv X pins σ H s)(h:s.heap.objs.size<=a):a∉X.fs:=λb=>by
 let⟨_,o,ho,_⟩:=I.ok.funs.mem b;exact absurd (Nat.lt_of_lt_of_le (Heap.lt_size ho) (Nat.le_trans I.sz h)) (Nat.lt_irrefl _)
theorem Inv.cne(I:Inv X pins σ H s):∀x c,X.env.cells.lookup x=some c->c≠X.env.locals:=λx c e z=>by
 let⟨v,o,ho,hd⟩:=I.cell x c e;let⟨m,⟨o',es,d,a,b,_⟩,_⟩:=I.loc;rw[z,a] at ho;cases ho;rw[b] at hd;cases hd
theorem Inv.funs(I:Inv X pins σ H s):s.heap.FunFrames X.base X.outer:=by
 let all:∀(l:List Env),(∀b∈frs l,b∈X.fs)->X.s₀.heap.FunFrames X.base l->s.heap.FunFrames X.base l:=by
  intro l
  induction l with
  |nil=>intro _ _;trivial
  |cons env r ih=>
   intro hs f;let⟨g,⟨L,o,a,h,ho,i⟩,j⟩:=f;let c:L∈X.fs:=hs L (by unfold frs;rw[filterMap_cons,a];exact mem_cons_self);let⟨k,e⟩:=I.base.slot L o ho (I.ok.frf L c) c λz=>I.ok.exfs L z c;exists g,⟨L,_,a,h,e,i⟩,ih (λb d=>hs b (by unfold frs;rw[filterMap_cons,a];exact mem_cons_of_mem _ d)) j
 exact all X.outer (λ_ d=>d) I.ok.funs
theorem Inv.stack(I:Inv X pins σ H s):s.heap.FunFrames X.base X.stack:=by
 rcases I.ok.stk with e | ⟨e,a⟩
 .rw[e];exact I.funs
 .rw[e];let⟨m,b,_⟩:=I.loc;refine .cons (by rw[I.ok.kind];decide) a b ?_ I.funs;exact Heap.get?_none_of_le (Nat.le_trans I.ok.bsz I.ok.above)
theorem Inv.stkSub(I:Inv X pins σ H s):∀b∈frs X.stack,b∈X.env.locals :: X.fs:=λb hb=>by
 rcases I.ok.stk with e | ⟨e,a⟩
 .rw[e] at hb;exact mem_cons_of_mem _ hb
 .rw[e] at hb;unfold frs at hb;rw[filterMap_cons,a] at hb;exact hb
theorem Inv.stkFree(I:Inv X pins σ H s):∀b∈frs X.stack,H b=none:=λb hb=>by
 rcases mem_cons.mp (I.stkSub b hb) with e | hb
 .rw[e];exact I.free
 .let⟨_,o,ho,_⟩:=I.ok.funs.mem hb;exact I.base.free b o ho (I.ok.frf b hb) λz=>I.ok.exfs b z hb
theorem Inv.step{ch:List Addr}(I:Inv X pins σ H s)(N:∀b∈ch,(b∈X.ex\/X.s₀.heap.objs.size<=b)/\b≠X.env.locals/\(∀x c,X.env.cells.lookup x=some c->c≠b)/\∀p∈X.pn++pins,p.1≠b)(keep:∀b o,b≠X.env.locals->b∉X.fs->b∉ch->s.heap.get? b=some o->H b=none->h'.get? b=some o)(slot:∀b o,b≠X.env.locals->b∈X.fs->b∉ch->s.heap.get? b=some o->H b=none->∃O,h'.get? b=some { o with slots:=O })(free:∀b o,b∉ch->s.heap.get? b=some o->H b=none->H' b=none)(there:∀b o,b∉ch->s.heap.get? b=some o->∃o',h'.get? b=some o')(tups:∀b xs,H b=some (.tup xs)->H' b=some (.tup xs))(frzs:∀b o u,H b=some (.frz o u)->H' b=some (.frz o u))(tbls:∀b ps,H b=some (.tbl ps)->∃P,H' b=some (.tbl (ps++P)))(ns:∀m,s.heap.Ns X.env.locals m->h'.Ns X.env.locals m)(Q:HOk X.prog X.w H' h')(R:AllBare g'):
  Inv X pins σ H' { s with heap:=h',gens:=g',drawn:=d',toks:=t' }:=by
 let A:∀b o,X.s₀.heap.get? b=some o->b≠X.env.locals:=λb o e=>Nat.ne_of_lt (Nat.lt_of_lt_of_le (Heap.lt_size e) I.ok.above);let j:∀b o,X.s₀.heap.get? b=some o->b∉X.ex->b∉ch:=λb o e a h=>by
  rcases (N b h).1 with z | z
  .exact a z
  .exact absurd (Nat.lt_of_lt_of_le (Heap.lt_size e) z) (Nat.lt_irrefl _)
 let t:∀x c,X.env.cells.lookup x=some c->∀v,s.heap.IsCell c v->h'.IsCell c v:=λx c e v ⟨o,ho,B⟩=>by
  let g:c∉ch:=λz=>(N c z).2.2.1 x c e rfl
  by_cases C:c∈X.fs
  .let⟨O,q⟩:=slot c o (I.cne x c e) C g ho (I.freeC x c e);exists _,q,B
  .exists o,keep c o (I.cne x c e) C g ho (I.freeC x c e),B
 exists I.ok,I.os,R,⟨λb o e n h a=>?_,λb o e n h a=>?_,λb o e n a=>?_,λb o e a=>?_,λb xs e=>tups b xs (I.base.tups b xs e),λb o xs e=>frzs b o xs (I.base.frzs b o xs e),λb ps e=>?_⟩,7,λx c e=>?_,7,λx c e=>?_,λp hp=>?_,Q,I.len
 .exact keep b o (A b o e) h (j b o e a) (I.base.keep b o e n h a) (I.base.free b o e n a)
 .let⟨O,f⟩:=I.base.slot b o e n h a;let⟨D,y⟩:=slot b _ (A b o e) h (j b o e a) f (I.base.free b o e n a);exists D,y
 .let⟨o',f⟩:=I.base.there b o e a;exact free b o' (j b o e a) f (I.base.free b o e n a)
 .let⟨o',f⟩:=I.base.there b o e a;exact there b o' (j b o e a) f
 .let⟨G,f⟩:=I.base.tbls b ps e;let⟨J,y⟩:=tbls b _ f;exists G++J,by rw[y,Array.append_assoc]
 .let⟨m,K,L⟩:=I.loc;exists m,ns m K,λi x v f y M=>?_;let⟨u,r,l⟩:=L i x v f y M;exists u,r,7;rcases l with l | ⟨k,c,e,z⟩
  .exact .inl l
  .exact .inr ⟨k,c,e,t x c e _ z⟩
 .let⟨v,z⟩:=I.cell x c e;exists v,t x c e v z
 .let⟨m,⟨o,_,_,ho,_⟩,_⟩:=I.loc;exact free _ o (λz=>(N _ z).2.1 rfl) ho I.free
 .let⟨v,o,ho,B⟩:=I.cell x c e;exact free c o (λz=>(N c z).2.2.1 x c e rfl) ho (I.freeC x c e)
 .let⟨e,n,E,F,d⟩:=I.pin p hp;let g:p.1∉ch:=λz=>(N p.1 z).2.2.2 p hp rfl;exists keep p.1 p.2 E F g e n,free p.1 p.2 g e n,E,F,d
theorem Inv.un(I:Inv X pins σ H s)(u:Un X.fs [] H H' s.heap h')(l:HOk X.prog X.w H' h'):Inv X pins σ H' { s with heap:=h',toks:=t' }:=by
 let⟨m,⟨o,es,i,ho,r⟩,_⟩:=id I.loc;let⟨j,g⟩:=u.any ho I.free ⋯;exact I.step (g':=s.gens) (d':=s.drawn) (ch:=[]) (λ_ z=>nomatch z) (λb o _ c _ e n=>u.keep b o e n c ⋯) (λb o _ c _ e n=>u.slot b o e n c ⋯) (λb o _ e n=>u.free b o e n ⋯) (λb o _ e=>u.there b o e ⋯) u.tups u.frzs u.tbls (λk hm=>by
  let⟨o',d,f,a,h⟩:=hm;rw[ho] at a;cases a;exact⟨_,d,f,g,h⟩) l I.bare
theorem Inv.call(I:Inv X pins σ H s)(u:Un (frs X.stack) ch H H' s.heap h')(v:HOk X.prog X.w H' h')(hg:AllBare g')(t:∀b∈ch,(b∈X.ex\/X.s₀.heap.objs.size<=b)/\b≠X.env.locals/\(∀x c,X.env.cells.lookup x=some c->c≠b)/\∀p∈X.pn++pins,p.1≠b):
  Inv X pins σ H' { s with heap:=h',gens:=g',drawn:=d',toks:=t' }:=by
 let⟨m,⟨o,es,k,ho,r⟩,_⟩:=id I.loc;let⟨l,f⟩:=u.any ho I.free λz=>(t _ z).2.1 rfl;exact I.step (ch:=ch) t (λb o f i a e n=>u.keep b o e n (λz=>(mem_cons.mp (I.stkSub b z)).elim f i) a) (λb o _ _ a e n=>u.any e n a) (λb o a e n=>u.free b o e n a) (λb o a e=>u.there b o e a) u.tups u.frzs u.tbls (λq hm=>by
  let⟨o',g,h,d,j⟩:=hm;rw[ho] at d;cases d;exact⟨_,g,h,f,j⟩) v hg
theorem Inv.turned(I:Inv X pins σ H s)(k:∀b o,b≠it->s.heap.get? b=some o->h'.get? b=some o)(i:H it=none)(h:it≠X.env.locals)(h1:it∈X.ex\/X.s₀.heap.objs.size<=it)(h2:∀x c,X.env.cells.lookup x=some c->c≠it)(j:∀p∈X.pn++pins,p.1≠it):Inv X pins σ H { s with heap:=h',toks:=t' }:=by
 let d:∀b u,H b=some u->b≠it:=λb u e z=>by rw[z,i] at e;cases e
 refine I.step (g':=s.gens) (d':=s.drawn) (ch:=[it]) (λb f=>?_) (λb o _ _ a e _=>k b o (λz=>a (by simp[z])) e) (λb o _ _ a e _=>⟨o.slots,k b o (λz=>a (by simp[z])) e⟩) (λ_ _ _ _ n=>n)
  (λb o a e=>⟨o,k b o (λz=>a (by simp[z])) e⟩) (λ_ _ e=>e) (λ_ _ _ e=>e) (λb ps e=>⟨#[],by rw[e];simp⟩) (λm hm=>?_) (λb u e=>?_) I.bare
 .let e:b=it:=by simpa using f
  subst e;exists h1,h,h2,j
 .let⟨o,es,g,ho,r⟩:=hm;exists o,es,g,k _ o (Ne.symm h) ho,r
 .refine(I.hok b u e).stay (λc v a q=>k c v ?_ q) (λ_ q=>q) λ_ _ q=>q;rcases a with z | z
  .rw[z];exact d b u e
  .exact d c _ z
theorem Inv.tok(I:Inv X pins σ H s)(t:Nat):Inv X pins σ H { s with toks:=t }:=I.un (h':=s.heap) (t':=t) Un.refl I.hok
theorem Inv.kept(I:Inv X pins σ H s)(k:∀b u,s.heap.get? b=some u->h'.get? b=some u):Inv X pins σ H { s with heap:=h',toks:=t' }:=I.un (Un.kept k) (I.hok.kept k)
theorem Inv.laid(I:Inv X pins σ H s)(k:∀b u,s.heap.get? b=some u->h'.get? b=some u)(hp:s.heap.objs.size<=a)(new:cP X.prog X.w (upd H a o) h' a o):
  Inv X pins σ (upd H a o) { s with heap:=h',toks:=t' }:=I.un (Un.laid k hp (I.hok.fresh hp)) (I.hok.laid k hp new)
theorem Inv.write(I:Inv X pins σ H s)(c:Mut (H x))(d:e=x\/H e=some (.own x))(k:∀b u,b≠e->s.heap.get? b=some u->h'.get? b=some u)(a:∃u,h'.get? e=some u)(new:cP X.prog X.w (upd H x o) h' x o):Inv X pins σ (upd H x o) { s with heap:=h',toks:=t' }:=I.un (Un.write c d k a) (I.hok.write c d k a new)
theorem Inv.weak(I:Inv X pins σ H s)(e:d.length=σ.length)(w:∀(i:Nat) v,d[i]?=some (some v)->σ[i]?=some (some v)):Inv X pins d H s:=
 ⟨I.ok,I.os,I.bare,I.base,let ⟨m,hn,hl'⟩:=I.loc;⟨m,hn,λi x v a b c=>hl' i x v a (w i v b) c⟩,I.cell,I.free,I.freeC,I.pin,I.hok,e.trans I.len⟩
theorem Inv.pins_of(I:Inv X pins σ H s)(h:∀p∈pins',s.heap.get? p.1=some p.2/\H p.1=none/\p.1≠X.env.locals/\p.1∉X.fs/\∀v,p.2.data≠.cell v):Inv X pins' σ H s:=
 ⟨I.ok,I.os,I.bare,I.base,I.loc,I.cell,I.free,I.freeC,λp hp=>(mem_append.mp hp).elim (λz=>I.pin p (mem_append_left _ z)) (h p),I.hok,I.len⟩
theorem xT{N:List Str}(c:N.Nodup){i j:Nat}(a:N[i]?=some x)(b:N[j]?=some x):i=j:=by
 let⟨h1,d⟩:=wk.mp a;let⟨h2,e⟩:=wk.mp b;exact(getElem_inj c).mp (d.trans e.symm)
theorem As(I:Inv X pins σ H s)(hN:X.N.Nodup)(hi:X.N[i]?=some x)(hx:Loc X.env.scope x)(r:cE v u)(h:∀s',Inv X pins (σ.set i (some v)) H s'->(∃a,Heap.SameBut a s.heap s'.heap/\(a=X.env.locals\/X.env.cells.lookup x=some a))->Q .unit s')(hf:X.fn x=true\/X.env.scope.names.lookup x=some .local:=by first | exact .inl rfl | exact .inr rfl | assumption):wpAny M A (storeName X.env x u) Q E s:=by
 let⟨m,S,hl⟩:=id I.loc;let T:(X.env.scope.kind == .class || (X.env.scope.kind == .module && X.env.locals != X.env.globals))=false:=by rw[I.ok.kind];rfl
 have hiσ:i < σ.length:=by rw[I.len];exact(wk.mp hi).1
 let cne:=I.cne;let l:∀{a:Addr}{h':Heap},(∃o,s.heap.get? a=some o/\H a=none)->Heap.SameBut a s.heap h'->HOk X.prog X.w H h':=λ{a h'} ha hs b ob e=>by
  let⟨_,_,F⟩:=ha;refine(I.hok b ob e).stay (λc J g q=>(hs.2 c ?_).trans q) (λ_ q=>q) λ_ _ q=>q;rintro rfl;rcases g with rfl | g
  .rw[F] at e;cases e
  .rw[F] at g;cases g
 rcases hx with B | B
 .refine wpAny_storeName_local B S (λh' a1 hs=>?_) T;let⟨oL,_,_,a2,_⟩:=id S;refine h _ ⟨I.ok,I.os,I.bare,⟨λb o e n C hx=>?_,λb o e n C hx=>?_,I.base.free,λb o e hx=>?_,I.base.tups,I.base.frzs,I.base.tbls⟩,⟨_,a1,λj y U f t V=>?_⟩,λy c e=>?_,I.free,I.freeC,λp hp=>?_,l ⟨oL,a2,I.free⟩ hs,by simpa using I.len⟩ ⟨_,hs,.inl rfl⟩
  .exact(hs.2 b (Nat.ne_of_lt (Nat.lt_of_lt_of_le (Heap.lt_size e) I.ok.above))).trans (I.base.keep b o e n C hx)
  .let⟨W,f⟩:=I.base.slot b o e n C hx;exists W,(hs.2 b (Nat.ne_of_lt (Nat.lt_of_lt_of_le (Heap.lt_size e) I.ok.above))).trans f
  .let⟨o',f⟩:=I.base.there b o e hx;exists o',(hs.2 b (Nat.ne_of_lt (Nat.lt_of_lt_of_le (Heap.lt_size e) I.ok.above))).trans f
  .by_cases D:j=i
   .subst D;rw[hi] at f;cases f;rw[getElem?_set_self hiσ] at t
    cases t
    exists u,r,.inl ⟨B,⋯⟩
   .rw[getElem?_set_ne (Ne.symm D)] at t;let⟨Y,Z,q⟩:=hl j y U f t V;exists Y,Z,7;rcases q with ⟨k,e⟩ | ⟨k,c,e,z⟩
    .refine .inl ⟨k,7⟩;have:y≠x:=λe=>D (xT hN f (e ▸ hi));simp[this,e]
    .exact .inr ⟨k,c,e,z.sameBut hs (cne y c e)⟩
  .let⟨J,z⟩:=I.cell y c e;exists J,z.sameBut hs (cne y c e)
  .let⟨e,n,K,nf,d⟩:=I.pin p hp;exists (hs.2 p.1 K).trans e,n,K,nf,d
 .let G:X.fn x=true:=by
   rcases hf with z | z
   .exact z
   .rw[z] at B;cases B
  let⟨c,g⟩:=I.ok.has x (.inl B);let⟨J,z⟩:=I.cell x c g;refine wpAny_storeName_cell I.ok.kind B g z (λh' O hs=>?_);let⟨oc,P,a0⟩:=id z;refine h { s with heap:=h' } ⟨I.ok,I.os,I.bare,⟨λb o e n C hx=>?_,λb o e n C hx=>?_,I.base.free,λb o e hx=>?_,I.base.tups,I.base.frzs,I.base.tbls⟩,⟨m,S.sameBut hs (Ne.symm (cne x c g)),λj y U f t V=>?_⟩,λy L e=>?_,I.free,I.freeC,λp hp=>?_,l ⟨oc,P,I.freeC x c g⟩ hs,by simpa using I.len⟩ ⟨c,hs,.inr g⟩
  .exact(hs.2 b (Nat.ne_of_lt (Nat.lt_of_lt_of_le (Heap.lt_size e) (I.ok.cab x c G g)))).trans (I.base.keep b o e n C hx)
  .let⟨W,f⟩:=I.base.slot b o e n C hx;exists W,(hs.2 b (Nat.ne_of_lt (Nat.lt_of_lt_of_le (Heap.lt_size e) (I.ok.cab x c G g)))).trans f
  .let⟨o',f⟩:=I.base.there b o e hx;exists o',(hs.2 b (Nat.ne_of_lt (Nat.lt_of_lt_of_le (Heap.lt_size e) (I.ok.cab x c G g)))).trans f
  .by_cases D:j=i
   .subst D;rw[hi] at f;cases f;rw[getElem?_set_self hiσ] at t
    cases t
    exists u,r,.inr ⟨.inl B,c,g,O⟩
   .rw[getElem?_set_ne (Ne.symm D)] at t;let⟨Y,Z,q⟩:=hl j y U f t V;exists Y,Z,7;rcases q with q | ⟨k,L,e,z'⟩
    .exact .inl q
    .refine .inr ⟨k,L,e,z'.sameBut hs ?_⟩;rintro rfl;exact D (xT hN f (I.ok.inj _ _ _ e g ▸ hi))
  .by_cases R:L=c
   .subst R;exists _,O
   .let⟨w2,z2⟩:=I.cell y L e;exists w2,z2.sameBut hs R
  .let⟨e,n,K,nf,d⟩:=I.pin p hp;exists (hs.2 p.1 ?_).trans e,n,K,nf,d;intro q;rw[q,P] at e;let q':oc=p.2:=Option.some.inj e;exact d J (by rw[<- q'];exact a0)
theorem lM(I:Inv X pins σ H s)(a:X.N.Nodup)(hi:X.N[i]?=some x)(b:Loc X.env.scope x)(r:cE v u)(h:∀s',Inv X pins (σ.set i (some v)) H s'->Q .unit s')(hf:X.fn x=true\/X.env.scope.names.lookup x=some .local:=by first | exact .inl rfl | exact .inr rfl | assumption):wpAny M A (storeName X.env x u) Q E s:=
 As I a hi b r (λs' c _=>h s' c) hf
theorem Inv.call'(I:Inv X pins σ H s)(ho:s'.os=s.os)(u:Un (frs X.stack) ch H H' s.heap s'.heap)(a:HOk X.prog X.w H' s'.heap)(d:AllBare s'.gens)(hch:∀b∈ch,(b∈X.ex\/X.s₀.heap.objs.size<=b)/\b≠X.env.locals/\(∀x c,X.env.cells.lookup x=some c->c≠b)/\∀p∈X.pn++pins,p.1≠b):Inv X pins σ H' s':=by
 let⟨h',g',d',t',o'⟩:=s';let e:o'=s.os:=ho;subst e;exact I.call (g':=g') (t':=t') (d':=d') u a d hch
end
abbrev XK:=Value->Option Addr->Hp->Prop
abbrev St:=List (Option V)
abbrev VK:=V->Hp->Prop
abbrev TE:=St->Hp->VK->Prop
abbrev TT:=St->Hp->(Bool->Hp->Prop)->Prop
abbrev TA:=St->Hp->(vk->Hp->Prop)->Prop
structure jY where
 nx:St->Hp->Prop
 rt:VK
 bk:St->Hp->Prop:=λ_ _=>False
 ct:St->Hp->Prop:=λ_ _=>False
abbrev TS:=jY->St->Hp->Prop
def EP(X:Cx)(pins:List (Addr × Obj))(σ:St)(Q:VK)(u:Value)(s':Shared):Prop:=∃v H',Inv X pins σ H' s'/\cE v u/\Q v H'
def TP(X:Cx)(pins:List (Addr × Obj))(σ:St)(Q:Bool->Hp->Prop)(b:Bool)(s':Shared):Prop:=∃H',Inv X pins σ H' s'/\Q b H'
def AP(X:Cx)(pins:List (Addr × Obj))(σ:St)(Q:vk->Hp->Prop)(us:List Value)(s':Shared):Prop:=∃vs H',Inv X pins σ H' s'/\cB vs us/\Q vs H'
def SP(X:Cx)(pins:List (Addr × Obj))(D:jY)(f:Flow)(s':Shared):Prop:=
 match f with
 | .next=>∃σ' H',Inv X pins σ' H' s'/\D.nx σ' H'
 | .brk=>∃σ' H',Inv X pins σ' H' s'/\D.bk σ' H'
 | .cont=>∃σ' H',Inv X pins σ' H' s'/\D.ct σ' H'
 | .ret u=>∃v σ' H',Inv X pins σ' H' s'/\cE v u/\D.rt v H'
def PE(X:Cx)(e:Expr)(t:TE):Prop:=
 ∀(pins:List (Addr × Obj))(s:Shared)(σ:St)(H:Hp)(Q:VK),Inv X pins σ H s->t σ H Q->zzW X (eval e X.env) (EP X pins σ Q) X.xe s
def PT(X:Cx)(e:Expr)(t:TT):Prop:=
 ∀(pins:List (Addr × Obj))(s:Shared)(σ:St)(H:Hp)(Q:Bool->Hp->Prop),Inv X pins σ H s->t σ H Q->zzW X (isTrue e X.env (eval e X.env)) (TP X pins σ Q) X.xe s
def PW(X:Cx)(e:Expr)(t:TT):Prop:=
 ∀(whole:Sem Value)(pins:List (Addr × Obj))(s:Shared)(σ:St)(H:Hp)(Q:Bool->Hp->Prop),Inv X pins σ H s->t σ H Q->zzW X (isTrue e X.env whole) (TP X pins σ Q) X.xe s
theorem PW.pt(h:PW X e t):PT X e t:=h _
def PA(X:Cx)(es:List Expr)(t:TA):Prop:=
 ∀(pos:Pos)(pins:List (Addr × Obj))(s:Shared)(σ:St)(H:Hp)(Q:vk->Hp->Prop),Inv X pins σ H s->t σ H Q->zzW X (spliced (backTo pos (starEach es X.env))) (AP X pins σ Q) X.xe s
def PS(X:Cx)(st:Stmt)(t:TS):Prop:=
 ∀(pins:List (Addr × Obj))(s:Shared)(σ:St)(H:Hp)(D:jY),Inv X pins σ H s->t D σ H->zzW X (exec st X.env) (SP X pins D) X.xe s
def PSs(X:Cx)(st:List Stmt)(t:TS):Prop:=
 ∀(pins:List (Addr × Obj))(s:Shared)(σ:St)(H:Hp)(D:jY),Inv X pins σ H s->t D σ H->zzW X (execs st X.env) (SP X pins D) X.xe s
theorem thn(h:wpAny M A t Q E s)(b:∀a s,Q a s->Q' a s):wpAny M A t Q' E s:=wpAny_mono h b λ_ _ x=>x
section
variable {X:Cx}
inductive Oh(i:Nat)(σ:St)(H:Hp)(Q:VK):Prop where
 |mk (v):σ[i]?=some (some v)->Q v H->Oh i σ H Q
def tC(v:V):TE:=λ_ H Q=>Q v H
theorem Uq(n:X.N[i]?=some x)(o:Vis X.env.scope x)(hd:(x == ("__debug__":Str))=false:=by decide)(k:(x == ("__classdict__":Str))=false:=by decide):PE X (.Name x pos) (Oh i):=by
 intro pins s σ H Q I h;let⟨v,e,h⟩:=h;let⟨m,g,j⟩:=I.loc;let⟨u,r,l⟩:=j i x v n e o;let d:EP X pins σ Q u s:=⟨v,H,I,r,h⟩
 rcases l with ⟨a,hm⟩ | ⟨a,c,f,b⟩
 .exact wpAny_Name (wpAny_loadName_local I.ok.kind a g hm d) hd
 .rcases a with a | a
  .exact wpAny_Name (wpAny_loadName_cell I.ok.kind a f b d) hd
  .exact wpAny_Name (wpAny_loadName_free I.ok.kind a f b d k) hd
theorem aE{i j pos}:PE X (.Constant (.int i) j pos) (tC (.int i)):=λ_ _ _ H _ I h=>wpAny_Constant_int ⟨.int i,H,I.tok _,⟨9⟩,h⟩
theorem jD{b j pos}:PE X (.Constant (.bool b) j pos) (tC (.bl b)):=λ_ _ _ H _ I h=>Constant_bool ⟨.bl b,H,I,8,h⟩
theorem Ee{j pos}:PE X (.Constant .none j pos) (tC .non):=λ_ _ _ H _ I h=>Constant_none ⟨.non,H,I,8,h⟩
theorem cC{x j pos}:PE X (.Constant (.str x) j pos) (tC (.str x)):=λ_ _ _ H _ I h=>Calls.Constant_str ⟨.str x,H,I.tok _,⟨9⟩,h⟩
def Gl(X:Cx)(x:Str):Prop:=X.env.kindOf x=some .globalImplicit
theorem jG(I:Inv X pins σ H s)(a:Gl X x)(hm:X.mg x=some u)(h:Q u s)(hd:(x == ("__debug__":Str))=false:=by decide):zzW X (eval (.Name x pos) X.env) Q E s:=
 Calls.Name_function_global I.ok.kind a (Calls.loadGlobal_global (by rw[I.ok.glob];exact I.mod.glob.keeps I.bk) hm h) hd
theorem kJ(I:Inv X pins σ H s)(b:Gl X x)(hm:X.mg x=none)(c:bootBuiltins x=some u)(h:Q u s)(d:x≠"__name__":=by decide)(hd:(x == ("__debug__":Str))=false:=by decide):zzW X (eval (.Name x pos) X.env) Q E s:=by
 let⟨a,h1,h2⟩:=I.mod.blt;exact Calls.Name_function_global I.ok.kind b (Calls.loadGlobal_builtin (by rw[I.ok.glob];exact I.mod.glob.keeps I.bk) hm (by rw[I.ok.blt];exact h1.keeps I.bk) ((h2 x d).trans c) h) hd
theorem dL(a:Gl X x)(hm:X.mg x=some u)(r:cE v u)(hd:(x == ("__debug__":Str))=false:=by decide):PE X (.Name x pos) (tC v):=
 λ_ _ _ H _ I h=>jG I a hm ⟨v,H,I,r,h⟩ hd
theorem Ez(a:Gl X x)(hm:X.mg x=none)(b:bootBuiltins x=some u)(r:cE v u)(c:x≠"__name__":=by decide)(hd:(x == ("__debug__":Str))=false:=by decide):PE X (.Name x pos) (tC v):=
 λ_ _ _ H _ I h=>kJ I a hm b ⟨v,H,I,r,h⟩ c hd
variable {a b:Expr} {ta tb:TE} {pos:Pos}
def PC(X:Cx)(op:CmpOp)(a b:Expr)(t:TE):Prop:=
 ∀(pins:List (Addr × Obj))(s:Shared)(σ:St)(H:Hp)(Q:VK),Inv X pins σ H s->t σ H Q->
  zzW X (eval a X.env) (λv s₁=>zzW X (eval b X.env) (λu s₂=>zzW X (compareOp op v u) (EP X pins σ Q) X.xe s₂) X.xe s₁) X.xe s
theorem Uo(b:Expr)(h:op≠.In)(h2:op≠.NotIn):behindInMarks op b=false:=by
 let a:(op == CmpOp.In)=false:=by cases op<;>first | rfl | exact absurd rfl h
 let c:(op == CmpOp.NotIn)=false:=by cases op<;>first | rfl | exact absurd rfl h2
 cases b<;>simp[behindInMarks,a,c]
def aAa(ta:TE):TE:=λσ H Q=>ta σ H λx H1=>Q (.bl (decide (x=.non))) H1
def qu2(ta:TE):TE:=λσ H Q=>ta σ H λx H1=>Q (.bl (!decide (x=.non))) H1
theorem cE.none_iff(r:cE x v):(v == Value.none)=decide (x=.non):=by
 cases x with
 |non=>cases r;rfl
 |bl _=>cases r;rfl
 |int _=>let⟨t,rfl⟩:=r;rfl
 |str _=>let⟨t,rfl⟩:=r;rfl
 |byt _=>let⟨t,rfl⟩:=r;rfl
 |flt _=>let⟨t,rfl⟩:=r;rfl
 |ref _=>cases r;rfl
 |ty _=>cases r;rfl
theorem uG{j pos'}(f:PE X a ta):PC X .Is a (.Constant .none j pos') (aAa ta):=by
 intro pins s σ H Q I h;refine thn (f pins s σ H _ I h) λv e ⟨x,H1,b,c,d⟩=>?_;exact Constant_none (is_none_gen ⟨.bl _,H1,b,by rw[c.none_iff];rfl,d⟩)
theorem Yg{j pos'}(f:PE X a ta):PC X .IsNot a (.Constant .none j pos') (qu2 ta):=by
 intro pins s σ H Q I h;refine thn (f pins s σ H _ I h) λv e ⟨x,H1,b,c,d⟩=>?_;exact Constant_none (isnot_none_gen ⟨.bl _,H1,b,by rw[c.none_iff];rfl,d⟩)
inductive BlT(x:V)(q:Bool->Prop):Prop where
 |mk (c:Bool) (_:x=.bl c) (_:q c):BlT x q
def tB(t:TE):TT:=λσ H Q=>t σ H λx H1=>BlT x λc=>Q c H1
theorem oH(h:PC X op a b t)(h1:behindInMarks op b=false:=by first | exact Uo _ ∅ ∅ | rfl):PT X (.Compare a [op] [b] pos) (tB t):=by
 intro pins s σ H Q I hw;refine wpAny_isTrue_Compare1 (thn (h pins s σ H _ I hw) λv i h1=>thn h1 λu j h2=>thn h2 λc s3 ⟨x,H1,e,f,g⟩=>?_) h1;let⟨d,rfl,q⟩:=g
 cases f
 exact wpAny_truthy_bool ⟨H1,e,q⟩
theorem dQ(h:PE X e t)(g:∀whole,isTrue e X.env whole=(do let v <- whole;standAt e.pos;holding [v] (truthy v)):=by intro _;rfl):PT X e (tB t):=by
 intro pins s σ H Q I hw;refine isTrue_plain (thn (h pins s σ H _ I hw) λv f ⟨x,H1,a,b,c⟩=>?_) (g _);let⟨d,rfl,q⟩:=c
 cases b
 exact wpAny_truthy_bool ⟨H1,a,q⟩
variable {tA tB':TT} {rest:List Expr}
def aAk(t u:TT):TT:=λσ H Q=>t σ H λc H1=>if c=true then u σ H1 Q else Q false H1
def tOr(t u:TT):TT:=λσ H Q=>t σ H λc H1=>if c=true then Q true H1 else u σ H1 Q
def aAo(t:TT):TT:=λσ H Q=>t σ H λc H1=>Q (!c) H1
theorem jL(f:PT X a tA):PW X (.BoolOp .And [a] pos) tA:=by
 intro b pins s σ H Q I h;refine isTrue_and (thn (f pins s σ H Q I h) λc d e=>?_)
 cases c with
 |true=>exact isTrue_and_nil e
 |false=>exact e
theorem kN(f:PT X a tA):PW X (.BoolOp .Or [a] pos) tA:=by
 intro b pins s σ H Q I h;refine isTrue_or (thn (f pins s σ H Q I h) λc d e=>?_)
 cases c with
 |false=>exact isTrue_or_nil e
 |true=>exact e
theorem kO(i:PT X a tA)(j:PW X (.BoolOp .And (b :: rest) pos) tB'):PW X (.BoolOp .And (a :: b :: rest) pos) (aAk tA tB'):=by
 intro f pins s σ H Q I h;refine isTrue_and (thn (i pins s σ H _ I h) λc g ⟨H1,d,e⟩=>?_)
 cases c with
 |true=>exact j f pins g σ H1 Q d e
 |false=>exact⟨H1,d,e⟩
theorem kU(g:PT X a tA)(i:PW X (.BoolOp .Or (b :: rest) pos) tB'):PW X (.BoolOp .Or (a :: b :: rest) pos) (tOr tA tB'):=by
 intro e pins s σ H Q I h;refine isTrue_or (thn (g pins s σ H _ I h) λc f ⟨H1,d,q1⟩=>?_)
 cases c with
 |true=>exact⟨H1,d,q1⟩
 |false=>exact i e pins f σ H1 Q d q1
theorem fX(b:PT X a tA):PT X (.UnaryOp .Not a pos) (aAo tA):=by
 intro pins s σ H Q I h;exact isTrue_not (b pins s σ H (λc H1=>Q (!c) H1) I h)
def qx4(ta tb:TE):TE:=λσ H Q=>ta σ H λx H1=>BlT x λc=>if c=true then tb σ H1 Q else Q (.bl false) H1
def qu8(ta:TE):TE:=λσ H Q=>ta σ H λx H1=>BlT x λc=>Q (.bl (!c)) H1
theorem oE{op}(h:PE X a t):PE X (.BoolOp op [a] pos) t:=λpins s σ H Q I hw=>BoolOp_one (h pins s σ H Q I hw)
theorem kR(i:PE X a ta)(j:PE X (.BoolOp .And (b :: rest) pos) tb):PE X (.BoolOp .And (a :: b :: rest) pos) (qx4 ta tb):=by
 intro pins s σ H Q I h;refine BoolOp_and (thn (i pins s σ H _ I h) λv f ⟨x,H1,e,g,d⟩=>?_);let⟨c,rfl,d⟩:=d
 cases g
 refine wpAny_truthy_bool ?_
 cases c with
 |true=>exact j pins f σ H1 Q e d
 |false=>exact⟨.bl false,H1,e,8,d⟩
theorem qp9(g:PE X a ta):PE X (.UnaryOp .Not a pos) (qu8 ta):=by
 intro pins s σ H Q I h;refine UnaryOp_ (thn (g pins s σ H _ I h) λv f ⟨x,H1,d,e,b⟩=>?_);let⟨c,rfl,b⟩:=b
 cases e
 exact not_of (wpAny_truthy_bool ⟨.bl (!c),H1,d,8,b⟩)
def tIf(t:TT)(ta tb:TE):TE:=λσ H Q=>t σ H λc H1=>if c=true then ta σ H1 Q else tb σ H1 Q
theorem nX(g:PT X c tA)(i:PE X a ta)(j:PE X b tb):PE X (.IfExp c a b pos) (tIf tA ta tb):=by
 intro pins s σ H Q I h;refine wpAny_IfExp (thn (g pins s σ H _ I h) λd e ⟨H1,f,q1⟩=>?_)
 cases d with
 |true=>exact i pins e σ H1 Q f q1
 |false=>exact j pins e σ H1 Q f q1
end
def SqL(K:Frag)(H:Hp)(a:Addr)(xs:vk):Prop:=
 Rd H a (.lst xs)\/
  ∃(o:Obj)(its:Array Value)(n:Nat),K.lookup a=some o/\o.cls=.type "list"/\o.dict=none/\o.data=.seq its n/\its.size<=sizeLine/\cB xs its.toList
def SqT(K:Frag)(H:Hp)(a:Addr)(xs:vk):Prop:=
 Rd H a (.tup xs)\/
  ∃(o:Obj)(its:Array Value)(n:Nat),K.lookup a=some o/\o.cls=.type "tuple"/\o.data=.seq its n/\its.size<=sizeLine/\cB xs its.toList
def qz5:Value->Option V
 | .none=>some .non
 | .bool b=>some (.bl b)
 | .int i _=>some (.int i)
 | .str x _=>some (.str x)
 | .bytes b _=>some (.byt b)
 | .float b _=>some (.flt b)
 | .ref a=>some (.ref a)
 | .type n=>some (.ty n)
 |_=>none
theorem cE.abs(r:cE x u):qz5 u=some x:=by
 cases x with
 |non=>cases r;rfl
 |bl _=>cases r;rfl
 |int _=>let⟨t,rfl⟩:=r;rfl
 |str _=>let⟨t,rfl⟩:=r;rfl
 |byt _=>let⟨t,rfl⟩:=r;rfl
 |flt _=>let⟨t,rfl⟩:=r;rfl
 |ref _=>cases r;rfl
 |ty _=>cases r;rfl
theorem cE.inj(r:cE x u)(q:cE y u):x=y:=Option.some.inj (r.abs.symm.trans q.abs)
theorem cB.inj:∀{xs ys:vk}{us:List Value},cB xs us->cB ys us->xs=ys
 |_,_,_,.nil,.nil=>rfl
 |_,_,_,.cons r t,.cons r' t'=>by rw[r.inj r',cB.inj t t']
section
variable {X:Cx} {pins:List (Addr × Obj)} {σ:St} {H:Hp} {s:Shared} {a:Addr} {xs ys:vk}
theorem SqL.of{K:Frag}(h:H a=some (.lst xs)):SqL K H a xs:=.inl (.inl h)
theorem SqT.of{K:Frag}(h:H a=some (.tup xs)):SqT K H a xs:=.inl (.inl h)
theorem Inv.list(I:Inv X pins σ H s)(h:SqL X.K H a xs):∃g:List Value,cB xs g/\PlainL s.heap a g.toArray/\xs.length<=sizeLine:=by
 rcases h with h | ⟨o,g,n,b,c,d,hs,f,r⟩
 .let⟨z,g,n,r,e⟩:=h.ok I.hok;exists g,r,⟨_,n,e,8,8,8⟩,z
 .exists g.toList,r,⟨o,n,I.kIn a o b,c,d,by simpa using hs⟩,7;let e:=r.length;simp only[Array.length_toList] at e;lia
theorem Inv.tuple(I:Inv X pins σ H s)(h:SqT X.K H a xs):∃f:List Value,cB xs f/\IsTup s.heap a f.toArray/\xs.length<=sizeLine:=by
 rcases h with h | ⟨o,f,n,b,c,hs,d,r⟩
 .let⟨z,f,r,p⟩:=h.ok I.hok;exists f,r,p,z
 .exists f.toList,r,⟨o,I.kIn a o b,c,n,by simpa using hs⟩,7;let e:=r.length;simp only[Array.length_toList] at e;lia
theorem Inv.list_inj(I:Inv X pins σ H s)(h:SqL X.K H a xs)(h':SqL X.K H a ys):xs=ys:=by
 let⟨c,r,⟨o,n,e,_,_,d⟩,_⟩:=I.list h;let⟨b,r',⟨o',i,f,_,_,g⟩,_⟩:=I.list h';rw[e] at f;cases f;rw[d] at g;injection g with d1 _
 have:c=b:=by simpa using congrArg Array.toList d1
 subst this;exact r.inj r'
theorem Inv.tuple_inj(I:Inv X pins σ H s)(h:SqT X.K H a xs)(h':SqT X.K H a ys):xs=ys:=by
 let⟨c,r,⟨o,e,_,n,d⟩,_⟩:=I.tuple h;let⟨b,r',⟨o',f,_,i,g⟩,_⟩:=I.tuple h';rw[e] at f;cases f;rw[d] at g;injection g with d1 _
 have:c=b:=by simpa using congrArg Array.toList d1
 subst this;exact r.inj r'
end
abbrev Cx.wish(X:Cx)(E:Value->Shared->Prop):Cx:={ X with xe:=E }
abbrev Cx.nox(X:Cx):Cx:=X.wish λ_ _=>False
theorem Cx.Ok.wish{X:Cx}(ok:X.Ok)(E:Value->Shared->Prop):(X.wish E).Ok:=
 ⟨ok.mod,ok.kind,ok.glob,ok.blt,ok.above,ok.inj,ok.has,ok.cab,ok.hd,ok.frames,ok.stk,ok.exf,ok.bs,ok.bsz,ok.noex,ok.exfs,ok.funs,ok.frf⟩
theorem Cx.Ok.unwish{X:Cx}(ok:(X.wish E).Ok):X.Ok:=
 ⟨ok.mod,ok.kind,ok.glob,ok.blt,ok.above,ok.inj,ok.has,ok.cab,ok.hd,ok.frames,ok.stk,ok.exf,ok.bs,ok.bsz,ok.noex,ok.exfs,ok.funs,ok.frf⟩
section
variable {X:Cx} {pins:List (Addr × Obj)} {σ:St} {H:Hp} {s:Shared} {E:Value->Shared->Prop}
theorem Inv.wish(I:Inv X pins σ H s)(E:Value->Shared->Prop):Inv (X.wish E) pins σ H s:=⟨I.ok.wish E,I.os,I.bare,I.base,I.loc,I.cell,I.free,I.freeC,I.pin,I.hok,I.len⟩
theorem Inv.unwish(I:Inv (X.wish E) pins σ H s):Inv X pins σ H s:=⟨I.ok.unwish,I.os,I.bare,I.base,I.loc,I.cell,I.free,I.freeC,I.pin,I.hok,I.len⟩
theorem SP.unwish(h:SP (X.wish E) pins D f s'):SP X pins D f s':=by
 cases f with
 |next=>let⟨a,H',I,q⟩:=h;exists a,H',I.unwish,q
 |brk=>let⟨a,H',I,q⟩:=h;exists a,H',I.unwish,q
 |cont=>let⟨a,H',I,q⟩:=h;exists a,H',I.unwish,q
 |ret u=>let⟨v,a,H',I,r,q⟩:=h;exists v,a,H',I.unwish,r,q
theorem PSs.nox{st:List Stmt}(h:PSs X.nox st t):PSs X st t:=λpins s σ H D I hw=>
 wpAny_mono (h pins s σ H D (I.wish _) hw) (λ_ _ q=>q.unwish) λ_ _ z=>False.elim z
end
section
variable {X:Cx} {st:Stmt} {rest:List Stmt} {t u:TS} {e:Expr} {te:TE} {pos:Pos}
def qx9:TS:=λD σ H=>D.nx σ H
def kH(t u:TS):TS:=λD σ H=>t { D with nx:=u D } σ H
theorem bN:PSs X [] qx9:=λ_ _ σ H _ I h=>wpAny_execs_nil ⟨σ,H,I,h⟩
theorem aD(h1:PS X st t)(h2:PSs X rest u):PSs X (st :: rest) (kH t u):=by
 intro pins s σ H D I h;refine wpAny_execs_cons (thn (h1 pins s σ H { D with nx:=u D } I h) λf a q=>?_)
 cases f with
 |next=>
  let⟨b,H',c,q⟩:=q;exact h2 pins a b H' D c q
 |ret v=>exact q
 |brk=>exact q
 |cont=>exact q
theorem aF(h1:PS X st t):PSs X [st] t:=by
 intro pins s σ H D I h;refine wpAny_execs_cons (thn (h1 pins s σ H D I h) λf a q=>?_)
 cases f with
 |next=>exact wpAny_execs_nil q
 |ret v=>exact q
 |brk=>exact q
 |cont=>exact q
def qv4:TS:=λD σ H=>D.ct σ H
theorem Hf:PS X (.Continue pos) qv4:=λ_ _ σ H _ I h=>wpAny_Continue ⟨σ,H,I,h⟩
theorem Inv.quiet(I:Inv X pins σ H s):interactive X.env=false:=by simp[interactive,I.ok.kind]
def qs7(te:TE):TS:=λD σ H=>te σ H λ_ H1=>D.nx σ H1
theorem bY(f:PE X e te)(hs:swapsWith e none pos.line X.env=pure false:=by rfl):PS X (.Expr e pos) (qs7 te):=by
 intro pins s σ H D I h;exact wpAny_Expr_any (thn (f pins s σ H _ I h) λv c ⟨x,H1,a,d,b⟩=>⟨σ,H1,a,b⟩) I.quiet hs
def aAz(te:TE):TS:=λD σ H=>te σ H D.rt
theorem aU(f:PE X e te):PS X (.Return (some e) pos) (aAz te):=by
 intro pins s σ H D I h;exact wpAny_Return_some (thn (f pins s σ H _ I h) λv d ⟨x,H1,a,b,c⟩=>⟨x,σ,H1,a,b,c⟩)
def qz4(c:TT)(t u:TS):TS:=λD σ H=>c σ H λb H1=>if b=true then t D σ H1 else u D σ H1
theorem cD(g:PT X c tc)(i:PSs X a t)(j:PSs X b u):PS X (.If c a b pos) (qz4 tc t u):=by
 intro pins s σ H D I h;refine wpAny_If (thn (g pins s σ H _ I h) λd e ⟨H1,f,q1⟩=>?_)
 cases d with
 |true=>exact i pins e σ H1 D f q1
 |false=>exact j pins e σ H1 D f q1
def Up:TS:=λ_ _ _=>False
theorem iV:PS X st Up:=λ_ _ _ _ _ _ h=>h.elim
theorem Pc:PSs X sts Up:=λ_ _ _ _ _ _ h=>h.elim
end
abbrev TG:=V->St->Hp->(St->Hp->Prop)->Prop
abbrev TGs:=vk->St->Hp->(St->Hp->Prop)->Prop
def PG(X:Cx)(target:Expr)(t:TG):Prop:=
 ∀(pins:List (Addr × Obj))(s:Shared)(σ:St)(H:Hp)(v:V)(u:Value)(Q:St->Hp->Prop),Inv X pins σ H s->cE v u->t v σ H Q->
  zzW X (assign target X.env u) (λ_ s'=>∃σ' H',Inv X pins σ' H' s'/\Q σ' H') X.xe s
def PGs(X:Cx)(ts:List Expr)(t:TGs):Prop:=
 ∀(pins:List (Addr × Obj))(s:Shared)(σ:St)(H:Hp)(vs:vk)(us:List Value)(Q:St->Hp->Prop),Inv X pins σ H s->cB vs us->t vs σ H Q->
  zzW X (assignInOrder ((assignEach ts X.env).map (·.2)) us) (λ_ s'=>∃σ' H',Inv X pins σ' H' s'/\Q σ' H') X.xe s
abbrev qn1:=V->V->V->Hp->(Hp->Prop)->Prop
def qv6(X:Cx)(t:qn1):Prop:=
 ∀(pins:List (Addr × Obj))(s:Shared)(σ:St)(H:Hp)(o i v:V)(ov iv u:Value)(Q:Hp->Prop),Inv X pins σ H s->cE o ov->cE i iv->cE v u->t o i v H Q->
  zzW X (setItem ov iv u) (λ_ s'=>∃H',Inv X pins σ H' s'/\Q H') X.xe s
abbrev TIp:=V->V->Hp->VK->Prop
def PIp(X:Cx)(op:Operator)(t:TIp):Prop:=
 ∀(pins:List (Addr × Obj))(s:Shared)(σ:St)(H:Hp)(x y:V)(v u:Value)(Q:VK),Inv X pins σ H s->cE x v->cE y u->t x y H Q->
  zzW X (inplaceOp op v u) (EP X pins σ Q) X.xe s
section
variable {X:Cx} {pos:Pos}
def gX(i:Nat):TG:=λv σ H Q=>Q (σ.set i (some v)) H
theorem aW(a:X.N.Nodup)(hi:X.N[i]?=some x)(b:Loc X.env.scope x)(c:X.fn x=true\/X.env.scope.names.lookup x=some .local:=by first | exact .inl rfl | exact .inr rfl | assumption):PG X (.Name x pos) (gX i):=by
 intro pins s σ H v u Q I r h;exact wpAny_assign_Name (lM I a hi b r (λs' d=>⟨_,H,d,h⟩) c)
theorem qQ1(a:X.N.Nodup)(hi:X.N[i]?=some x:=by rfl)(b:Loc X.env.scope x:=by exact .inl rfl)(hf:X.fn x=true\/X.env.scope.names.lookup x=some .local:=by first | exact .inl rfl | exact .inr rfl | assumption):PG X (.Name x pos) (gX i):=aW a hi b hf
def Dy:TGs:=λvs σ H Q=>vs=[]/\Q σ H
def iU(t:TG)(u:TGs):TGs:=λvs σ H Q=>∃v r,vs=v :: r/\t v σ H λσ' H'=>u r σ' H' Q
theorem fK:PGs X [] Dy:=by
 intro pins s σ H vs us Q I r h;let⟨e,h⟩:=h;subst e
 cases r
 exact assignInOrder_nil ⟨σ,H,I,h⟩
theorem bU(h1:PG X e t)(h2:PGs X es u)(hs:(assignEach (e :: es) X.env).map (·.2)=assign e X.env :: (assignEach es X.env).map (·.2):=by rfl):PGs X (e :: es) (iU t u):=by
 intro pins s σ H vs f Q I r h;let⟨v,g,a,h⟩:=h;subst a
 cases r with
 |cons r rr=>
  rw[hs];refine assignInOrder_cons (thn (h1 pins s σ H _ _ _ I r h) λ_ b ⟨c,H1,d,q1⟩=>?_);exact h2 pins b c H1 _ _ Q d rr q1
def Dc(K:Frag)(n:Nat)(t:TGs):TG:=λv σ H Q=>∃a xs,v=.ref a/\SqT K H a xs/\xs.length=n/\t xs σ H Q
theorem gW(w:X.calm=true)(h:PGs X es t)(x:(assignEach es X.env).length=n:=by rfl)(q:(assignEach es X.env).findIdx? (·.1)=none:=by rfl):PG X (.Tuple es k pos) (Dc X.K n t):=by
 intro pins s σ H v u Q I r hw;let⟨a,xs,d,f,g,hw⟩:=hw;subst d
 cases r
 let⟨m,c,i,p⟩:=I.tuple f;refine assign_Tuple_tuple (I.ok.hd w) i (by simp[x,<- g,c.length]) q λh' j=>?_;let l:Inv X pins σ H { s with heap:=h' }:=I.kept (t':=s.toks) λb o e=>j b o (Nat.ne_of_lt (Heap.lt_size e)) e;exact h pins _ σ H xs _ Q l (by simpa using c) hw
def aAl(to ti:TE)(t:qn1):TG:=λv σ H Q=>to σ H λo H1=>ti σ H1 λi H2=>t o i v H2 λH3=>Q σ H3
theorem kL(ho:PE X o to)(hi:PE X i ti)(hs:qv6 X t)(p:∀v,assign (.Subscript o i pos) X.env v=(do
   let m <- holding [v] (eval o X.env)
   let n <- holding [v,m] (eval i X.env)
   standAt pos
   holding [v,m,n] (setItem m n v)
   release [v,m,n] []):=by intro _;rfl):PG X (.Subscript o i pos) (aAl to ti t):=by
 intro pins s σ H v u Q I r h;rw[p];refine wpAny_bind (wpAny_holding (thn (ho pins s σ H _ I h) λm a ⟨x,H1,b,c,d⟩=>?_));refine wpAny_bind (wpAny_holding (thn (hi pins a σ H1 _ b d) λn e ⟨y,H2,f,g,j⟩=>?_));refine wpAny_bind (wpAny_standAt (wpAny_bind (wpAny_holding (thn (hs pins e σ H2 x y v m n u _ f c g r j) λ_ s3 ⟨H3,k,l⟩=>?_))));exact wpAny_release ⟨σ,H3,k,l⟩
def qr8(te:TE)(g:TG):TS:=λD σ H=>te σ H λx H1=>g x σ H1 D.nx
theorem jB(i:PE X e te)(j:PG X tg g)(hs:swapsWithSole [tg] e pos.line X.env=pure false:=by rfl)(hw:swappedStores [tg] e X.env=pure none:=by rfl)(h1:(assignEach [tg] X.env).map (·.2)=[assign tg X.env]:=by rfl):PS X (.Assign [tg] e pos) (qr8 te g):=by
 intro pins s σ H D I h;refine wpAny_Assign_stores (thn (i pins s σ H _ I h) λv a ⟨x,H1,b,c,d⟩=>?_) hs hw;rw[h1];exact thn (j pins a σ H1 x v _ b c d) λ_ f q=>q
theorem aT(j:X.N.Nodup)(hi:X.N[i]?=some x)(k:Loc X.env.scope x)(l:PE X e te)(hs:swapsWith e (some (.Name x pos')) pos.line X.env=pure false:=by rfl)(hf:X.fn x=true\/X.env.scope.names.lookup x=some .local:=by first | exact .inl rfl | exact .inr rfl | assumption):
  PS X (.Assign [.Name x pos'] e pos) (qr8 te (gX i)):=by
 intro pins s σ H D I h;refine wpAny_Assign_Name (thn (l pins s σ H _ I h) λv f ⟨y,H1,a,b,c⟩=>?_) hs;exact lM a j hi k b (λg d=>⟨_,H1,d,c⟩) hf
theorem qQ0(a:X.N.Nodup)(b:PE X e te)(hi:X.N[i]?=some x:=by rfl)(c:Loc X.env.scope x:=by exact .inl rfl)(hs:swapsWith e (some (.Name x pos')) pos.line X.env=pure false:=by rfl)(hf:X.fn x=true\/X.env.scope.names.lookup x=some .local:=by first | exact .inl rfl | exact .inr rfl | assumption):
  PS X (.Assign [.Name x pos'] e pos) (qr8 te (gX i)):=aT a hi c b hs hf
inductive qg3(i j:Nat)(D:jY)(σ:St)(vs:vk)(H1:Hp):Prop where
 |mk (v w):vs=[v,w]->D.nx ((σ.set i (some v)).set j (some w)) H1->qg3 i j D σ vs H1
def aAs(i j:Nat)(ta:TA):TS:=λD σ H=>ta σ H λvs H1=>qg3 i j D σ vs H1
theorem Vq{kt k2 pt2}(K:X.calm=true)(E:X.N.Nodup)(hi:X.N[i]?=some x)(L:X.N[j]?=some y)(F:i≠j)(G:X.env.scope.names.lookup x=some .local)(J:X.env.scope.names.lookup y=some .local)(M:PA X [a,b] ta)(hw:swappedStores [.Tuple [.Name x px,.Name y py] kt pt] (.Tuple [a,b] k2 pt2) X.env=pure (some [x,y]))(hs:swapsWithSole [.Tuple [.Name x px,.Name y py] kt pt] (.Tuple [a,b] k2 pt2) pos.line X.env=pure false:=by rfl):
  PS X (.Assign [.Tuple [.Name x px,.Name y py] kt pt] (.Tuple [a,b] k2 pt2) pos) (aAs i j ta):=by
 intro pins s σ H D I h;rw[exec_Assign_arm];refine wpAny_bind (wpAny_standAt ?_);rw[hs];refine wpAny_bind (wpAny_pure ?_);rw[if_neg ∅];refine wpAny_bind (Tuple_ (thn (M _ pins s σ H _ I h) λm c ⟨vs,H1,n,r,q1⟩=>?_));let⟨v,w,t,q1⟩:=q1;subst t;obtain⟨d,f,rfl,u,g⟩:∃d f,m=[d,f]/\cE v d/\cE w f:=by
  cases r with
  |cons p q=>
   cases q with
   |cons p' q'=>
    cases q'
    exists _,9,p,p'
 refine wpAny_newObj_type ?_ (by show 2<=sizeLine;decide);let z:Inv X pins σ H1 { c with heap:=c.heap.push { cls:=.type "tuple",data:=.seq [d,f].toArray } }:=n.kept (t':=c.toks) λb o e=>Heap.get?_push_of_some _ e;rw[hw];refine wpAny_bind (wpAny_pure ?_);show zzW X (do rule "assign.swapped-stores";let items <- unpackItems (.ref c.heap.objs.size) 2 none;assignInOrder [λv=>bindName X.env y v,λv=>bindName X.env x v] items.reverse;pure Flow.next) _ _ _;refine wpAny_bind (wpAny_rule (wpAny_bind (unpackItems_tuple (items:=#[d,f]) (I.ok.hd K) (IsTup.new c.heap _) λh' k=>?_)));let A:=z.kept (h':=h') (t':=c.toks) λb o e=>k b o (Nat.ne_of_lt (Heap.lt_size e)) e;show wpAny _ _ (assignInOrder [λv=>bindName X.env y v,λv=>bindName X.env x v] [f,d] >>= λ_=>pure Flow.next) _ _ _;refine wpAny_bind (assignInOrder_cons (wpAny_bindName (lM A E L (.inl J) g (λC B=>?_) (.inr J))));refine assignInOrder_cons (wpAny_bindName (lM B E hi (.inl G) u (λs3 l=>assignInOrder_nil (wpAny_pure ?_)) (.inr G)));rw[set_comm _ _ (Ne.symm F)] at l;exists _,H1,l,q1
def aAg(i:Nat)(te:TE)(ti:TIp):TS:=λD σ H=>∃x,σ[i]?=some (some x)/\te σ H λy H1=>ti x y H1 λz H2=>D.nx (σ.set i (some z)) H2
theorem Jg(O:X.N.Nodup)(hi:X.N[i]?=some x)(M:Loc X.env.scope x)(P:PE X e te)(ho:PIp X op ti)(Q:X.fn x=true\/X.env.scope.names.lookup x=some .local:=by first | exact .inl rfl | exact .inr rfl | assumption):
  PS X (.AugAssign (.Name x pos') op e pos) (aAg i te ti):=by
 intro pins s σ H D I h;let⟨v,g,h⟩:=h;let⟨m,j,n⟩:=I.loc;let d:Vis X.env.scope x:=by rcases M with k | k;exact .inl k;exact .inr (.inl k)
 let⟨u,r,l⟩:=n i x v hi g d;refine wpAny_AugAssign_Name ?_;let f:zzW X (eval e X.env) (λw o=>zzW X (inplaceOp op u w) (λr p=>zzW X (storeName X.env x r) (λ_=>SP X pins D .next) X.xe p) X.xe o) X.xe s:=by
  refine thn (P pins s σ H _ I h) λw q ⟨y,H1,t,A,B⟩=>?_;refine thn (ho pins q σ H1 v y u w _ t r A B) λz K ⟨L,H2,C,E,F⟩=>?_;exact lM C O hi M E (λs3 G=>⟨_,H2,G,F⟩) Q
 rcases l with ⟨a,hm⟩ | ⟨a,c,J,b⟩
 .exact wpAny_loadName_local I.ok.kind a j hm f
 .rcases a with a | a
  .exact wpAny_loadName_cell I.ok.kind a J b f
  .rcases M with k | k
   .have:X.env.scope.names.lookup x=some .free:=a;rw[k] at this;cases this
   .have:X.env.scope.names.lookup x=some .free:=a;rw[k] at this;cases this
def ipI(f:Int->Int->Int):TIp:=λx y H Q=>∃i j,x=.int i/\y=.int j/\Q (.int (f i j)) H
theorem Id:PIp X .Add (ipI λi j=>i+j):=by
 intro pins s σ H x y v u Q I a b h;let⟨i,j,c,d,q⟩:=h;subst c;subst d;let⟨t,rfl⟩:=a;let⟨e,rfl⟩:=b;exact iadd_int ⟨.int _,H,I.tok _,⟨9⟩,q⟩
def Uj(c:TT)(tb:TS):TS:=λD σ H=>∃W:Nat->St->Hp->Prop,(∃m,W m σ H)/\∀m σ H,W m σ H->
 c σ H λb H1=>if b=true then ∃N:St->Hp->Prop,(∀σ' H',N σ' H'->∃m',m' < m/\W m' σ' H')/\tb { D with nx:=N,ct:=N,bk:=D.nx } σ H1 else D.nx σ H1
theorem xG(hp:PassesOwn (model X.prog X.w) X.A X.env X.xe)(z:PT X c tc)(B:PSs X body tb):PS X (.While c body [] pos) (Uj tc tb):=by
 intro pins s σ H D I h;let⟨W,⟨q,r⟩,i⟩:=h;refine wpAny_While (codeAny_whileLoop (λn s'=>∃σ' H',Inv X pins σ' H' s'/\W n σ' H') ?_ q ⟨σ,H,I,r⟩);rintro n t ⟨d,H1,u,x⟩;refine wpAny_passesOwn hp (thn (z pins t d H1 _ u (i n d H1 x)) λb y ⟨H2,o,e⟩=>?_)
 cases b with
 |true=>
  let⟨N,p,e⟩:=e;rw[if_pos rfl];refine wpAny_passesOwn hp (thn (B pins y d H2 _ o e) λf s3 g=>?_)
  cases f with
  |next=>
   let⟨a,H3,j,k⟩:=g;let⟨l,hm,m⟩:=p a H3 k;exists l,hm,a,H3,j,m
  |cont=>
   let⟨a,H3,j,k⟩:=g;let⟨l,hm,m⟩:=p a H3 k;exists l,hm,a,H3,j,m
  |brk=>exact g
  |ret v=>exact g
 |false=>
  rw[if_neg Bool.false_ne_true];exact wpAny_execs_nil ⟨d,H2,o,e⟩
end
structure It where
 go:Nat->Hp->Prop
 yld:Nat->Hp->V->Hp->Prop
 stop:Nat->Hp->Prop
def pI(X:Cx)(pins:List (Addr × Obj))(H:Hp)(b:Addr):Prop:=
 H b=none/\b≠X.env.locals/\b∉X.fs/\(b∈X.ex\/X.s₀.heap.objs.size<=b)/\(∀x c,X.env.cells.lookup x=some c->c≠b)/\∀p∈X.pn++pins,p.1≠b
theorem Inv.fpOk(I:Inv X pins σ H s)(a:s.heap.objs.size<=b)(d:H' b=none):pI X pins H' b:=by
 exists d,Nat.ne_of_gt (Nat.lt_of_lt_of_le I.lt a),I.nofs a,.inr (Nat.le_trans I.sz a),λx c e z=>?_,λp hp z=>?_
 .let⟨v,q⟩:=I.cell x c e;exact absurd (Nat.lt_of_lt_of_le q.lt (by rw[z];exact a)) (Nat.lt_irrefl _)
 .exact absurd (Nat.lt_of_lt_of_le (Heap.lt_size (I.pin p hp).1) (by rw[z];exact a)) (Nat.lt_irrefl _)
structure Oi(P:Program)(w:World)(K:Frag)(tg:Expr)(J:It)(fp:List Addr)(it:Addr)(tn:Nat->Heap->Prop):Prop where
 mem:it∈fp
 obj:∀i h,tn i h->∀b∈fp,∃o,h.get? b=some o/\∀v,o.data≠.cell v
 keep:∀i h h',tn i h->(∀b∈fp,∀o,h.get? b=some o->h'.get? b=some o)->tn i h'
 item:∀(X:Cx),X.prog=P->X.w=w->X.K=K->X.calm=true->∀(i:Nat)(pins:List (Addr × Obj))(s:Shared)(σ:St)(H:Hp)(E:Value->Shared->Prop),Inv X pins σ H s->(∀b∈fp,pI X pins H b)->tn i s.heap->J.go i H->
  wpAny (model P w) X.A (pyNext (.ref it)) (λr s1=>∃u,r=some u/\
   wpAny (model P w) X.A (letOwnedTupleGo tg (.ref it) u) (λ_ s2=>∃x H',Inv X pins σ H' s2/\cE x u/\J.yld i H x H'/\tn (i+1) s2.heap/\∀b∈fp,H' b=none) E s1) E s
 done:∀(X:Cx),X.prog=P->X.w=w->X.K=K->X.calm=true->∀(i:Nat)(pins:List (Addr × Obj))(s:Shared)(σ:St)(H:Hp)(E:Value->Shared->Prop),Inv X pins σ H s->(∀b∈fp,pI X pins H b)->tn i s.heap->J.stop i H->
  wpAny (model P w) X.A (pyNext (.ref it)) (λr s1=>r=none/\Inv X pins σ H s1) E s
 self:∀(A:Around)(i:Nat)(s:Shared)(Q:Value->Shared->Prop)(E:Value->Shared->Prop),tn i s.heap->Q (.ref it) s->wpAny (model P w) A (pyIter (.ref it)) Q E s
abbrev TI:=St->Hp->(It->Hp->Prop)->Prop
def PIE(X:Cx)(pins:List (Addr × Obj))(σ:St)(tg:Expr)(R:It->Hp->Prop)(itv:Value)(s2:Shared):Prop:=
 ∃(it:Addr)(fp:List Addr)(tn:Nat->Heap->Prop)(J:It)(H':Hp),itv=.ref it/\Inv X pins σ H' s2/\Oi X.prog X.w X.K tg J fp it tn/\tn 0 s2.heap/\(∀b∈fp,pI X pins H' b)/\R J H'
def PI(X:Cx)(tg iter:Expr)(wi:TI):Prop:=
 ∀(pins:List (Addr × Obj))(s:Shared)(σ:St)(H:Hp)(R:It->Hp->Prop),Inv X pins σ H s->wi σ H R->
  zzW X (eval iter X.env) (λv s1=>zzW X (pyIter v) (PIE X pins σ tg R) X.xe s1) X.xe s
theorem Ww(ho : s.heap.get? it = some o)(b : o.cls = .type n)(c : o.data = .fields vs)(d : ["enumerate", "zip", "dict_itemiterator", "dict_reverseitemiterator", "odict_iterator", "itertools.zip_longest", "itertools.pairwise"].contains n = false)(a : Q .unit s): wpAny M A (letOwnedTupleGo tg (.ref it) u) Q E s := by
  unfold letOwnedTupleGo
  cases tg <;> first
    | exact wpAny_pure a
    | (cases u <;> first
        | exact wpAny_pure a
        | (refine wpAny_bind (wpAny_load ho ?_)
           rw [b, c];show wpAny M A (if (["enumerate", "zip", "dict_itemiterator", "dict_reverseitemiterator", "odict_iterator", "itertools.zip_longest", "itertools.pairwise"].contains n && vs[0]? == some (rawInt _)) = true then _ else _) Q E s;rw [if_neg (by intro h; rw [d, Bool.false_and] at h; cases h)];exact wpAny_pure a))
def Itl(K:Frag)(a:Addr):It:=
 ⟨λi H=>∃xs x,SqL K H a xs/\xs[i]?=some x,λi H x H'=>H'=H/\∀xs,SqL K H a xs->xs[i]?=some x,λi H=>∃xs,SqL K H a xs/\xs.length<=i⟩
def Itt(K:Frag)(a:Addr):It:=
 ⟨λi H=>∃xs x,SqT K H a xs/\xs[i]?=some x,λi H x H'=>H'=H/\∀xs,SqT K H a xs->xs[i]?=some x,λi H=>∃xs,SqT K H a xs/\xs.length<=i⟩
def Itr(lo:Int)(n:Nat):It:=⟨λi _=>i < n,λi H x H'=>H'=H/\x=.int (lo+i),λi _=>n<=i⟩
theorem Qb{K:Frag}(a it:Addr):Oi P w K tg (Itl K a) [it] it (λi h=>h.IsListIter it a i) where
 mem:=by simp
 obj:=λi h st b f=>by
  let e:b=it:=by simpa using f
  subst e;let⟨o,e,c,d⟩:=st;exists o,e,λv z=>by rw[d] at z;cases z
 keep:=λi h h' st k=>st.at λo e=>k it ⋯ o e
 item:=by
  intro X m hw n F i pins s σ H E I g st q;subst m hw n;let⟨xs,x,j,r⟩:=q;let⟨G,t,p,J⟩:=I.list j;let⟨u,L,M⟩:=t.get r;let⟨y,A,N,B,C,D⟩:=g it ⋯;refine wpAny_pyNext_list_item st p.isList (x:=u) (by simpa using L) λh' l O=>?_;let Q:Inv X pins σ H { s with heap:=h' }:=I.turned (t':=s.toks) (λb o f e=>(O.2 b f).trans e) y A B C D;let⟨o,e,c,d⟩:=id l;exists u,8,Ww (s:={ s with heap:=h' }) e c d ∅ ⟨x,H,Q,M,⟨8,λys R=>by rw[I.list_inj R j];exact r⟩,l,λb f=>(g b f).1⟩
 done:=by
  intro X m hw n F i pins s σ H E I g st q;subst m hw n;let⟨xs,j,r⟩:=q;let⟨G,t,p,J⟩:=I.list j;let⟨y,A,N,B,C,D⟩:=g it ⋯;let T:=t.length;exact wpAny_pyNext_list_end (I.ok.hd F) st p.isList (by simp;lia) λh' S=>⟨8,I.turned (t':=s.toks) (λb o f e=>S b o f e) y A B C D⟩
 self:=λ_ _ _ _ _ st h=>wpAny_pyIter_listiter st h
theorem Kp{K:Frag}(a it:Addr):Oi P w K tg (Itt K a) [it] it (λi h=>h.IsTupleIter it a i) where
 mem:=by simp
 obj:=λi h st b f=>by
  let e:b=it:=by simpa using f
  subst e;let⟨o,e,c,d⟩:=st;exists o,e,λv z=>by rw[d] at z;cases z
 keep:=λi h h' st k=>st.at λo e=>k it ⋯ o e
 item:=by
  intro X n hw q G i pins s σ H E I j st r;subst n hw q;let⟨xs,x,l,t⟩:=r;let⟨g,y,p,J⟩:=I.tuple l;let⟨u,L,M⟩:=y.get t;let⟨A,B,N,C,D,F⟩:=j it ⋯;refine wpAny_pyNext_tuple_item st (show s.heap.IsTuple a g.toArray from p) (x:=u) (by simpa using L) λh' m O=>?_;let Q:Inv X pins σ H { s with heap:=h' }:=I.turned (t':=s.toks) (λb o f e=>(O.2 b f).trans e) A B C D F;let⟨o,e,c,d⟩:=id m;exists u,8,Ww (s:={ s with heap:=h' }) e c d ∅ ⟨x,H,Q,M,⟨8,λys R=>by rw[I.tuple_inj R l];exact t⟩,m,λb f=>(j b f).1⟩
 done:=by
  intro X n hw q G i pins s σ H E I j st r;subst n hw q;let⟨xs,l,t⟩:=r;let⟨g,y,p,J⟩:=I.tuple l;let⟨A,B,N,C,D,F⟩:=j it ⋯;let T:=y.length;exact wpAny_pyNext_tuple_end (I.ok.hd G) st (show s.heap.IsTuple a g.toArray from p) (by simp;lia) λh' S=>⟨8,I.turned (t':=s.toks) (λb o f e=>S b o f e) A B C D F⟩
 self:=λ_ _ _ _ _ st h=>wpAny_pyIter_tupleiter st h
theorem Kn{K:Frag}(it:Addr)(lo:Int)(n:Nat):Oi P w K tg (Itr lo n) [it] it (λi h=>IsRangeIter h it (lo+(i:Nat)*1) ((n:Int) - (i:Nat)) 1) where
 mem:=by simp
 obj:=λi h st b a=>by
  let e:b=it:=by simpa using a
  subst e;exact⟨_,st,λv z=>by
   let x:Data.fields _=Data.cell v:=z
   cases x⟩
 keep:=λi h h' st k=>k it ⋯ _ st
 item:=by
  intro X f hw g j i pins s σ H E I c st l;subst f hw g;let⟨m,p,y,q,r,u⟩:=c it ⋯;let W:=Walks.range (prog:=X.prog) (w:=X.w) (I.ok.hd j) it lo 1 n;refine W.item i s _ _ l st λv h' tk A d B=>?_;let⟨t,rfl⟩:=A;let C:Inv X pins σ H { s with heap:=h',toks:=tk }:=I.turned (λb o a e=>B b o (by simpa using a) e) m p q r u;exists 9,Ww (s:={ s with heap:=h',toks:=tk }) (n:="range_iterator") d rfl rfl ∅ ⟨.int (lo+i),H,C,⟨t,7⟩,⟨8,8⟩,d,λb a=>(c b a).1⟩;rw[Int.mul_one]
 done:=by
  intro X f hw g j i pins s σ H E I c st l;subst f hw g;let⟨m,p,y,q,r,u⟩:=c it ⋯;exact wpAny_pyNext_range_end (I.ok.hd j) st (by have:n<=i:=l;lia) λh' D=>⟨8,I.turned (t':=s.toks) (λb o a e=>D b o a e) m p q r u⟩
 self:=λ_ _ _ _ _ st h=>wpAny_pyIter_rangeiter st h
section
variable {X:Cx} {tg:Expr}
def qw1(K:Frag)(tl:TE):TI:=λσ H R=>tl σ H λx H1=>∃a,x=.ref a/\(∃xs,SqL K H1 a xs)/\R (Itl K a) H1
def aAc(K:Frag)(tl:TE):TI:=λσ H R=>tl σ H λx H1=>∃a,x=.ref a/\(∃xs,SqT K H1 a xs)/\R (Itt K a) H1
theorem cF(r:PE X l tl):PI X tg l (qw1 X.K tl):=by
 intro pins s σ H R I h;refine thn (r pins s σ H _ I h) λv c ⟨x,H1,d,f,g⟩=>?_;let⟨a,e,⟨xs,i⟩,q⟩:=g;subst e
 cases f
 let⟨k,m,p,n⟩:=d.list i;refine wpAny_pyIter_list p.isList ?_;exists c.heap.objs.size,[c.heap.objs.size],_,_,H1,8,d.kept (t':=c.toks) λb o e=>Heap.get?_push_of_some _ e,Qb a _,⟨_,Heap.get?_push_size _ rfl,8,8⟩,λb j=>?_,q;let e:b=c.heap.objs.size:=by simpa using j
 subst e;exact d.fpOk (Nat.le_refl _) (d.hok.fresh (Nat.le_refl _))
theorem qk8(r:PE X l tl):PI X tg l (aAc X.K tl):=by
 intro pins s σ H R I h;refine thn (r pins s σ H _ I h) λv c ⟨x,H1,d,g,i⟩=>?_;let⟨a,e,⟨xs,j⟩,q⟩:=i;subst e
 cases g
 let⟨f,m,p,n⟩:=d.tuple j;refine wpAny_pyIter_tuple (show c.heap.IsTuple a f.toArray from p) ?_;exists c.heap.objs.size,[c.heap.objs.size],_,_,H1,8,d.kept (t':=c.toks) λb o e=>Heap.get?_push_of_some _ e,Kp a _,⟨_,Heap.get?_push_size _ rfl,8,8⟩,λb k=>?_,q;let e:b=c.heap.objs.size:=by simpa using k
 subst e;exact d.fpOk (Nat.le_refl _) (d.hok.fresh (Nat.le_refl _))
theorem Hb{lo hi:Int}(I:Inv X pins σ H s)(h1:-(2 ^ 62)<=lo)(h2:lo < 2 ^ 62)(g:-(2 ^ 62)<=hi)(h4:hi < 2 ^ 62)(q:R (Itr lo (hi - lo).toNat) H):zzW X (pyIter (.ref s.heap.objs.size)) (PIE X pins σ tg R) E { s with heap:=s.heap.push { cls:=.type "range",data:=.fields #[.int lo t,.int hi u,.int 1 v] },toks:=tk }:=by
 refine wpAny_pyIter_range (IsRange.new ..) (small_one h1 h2 g h4) ?_;let a:Inv X pins σ H { s with heap:=s.heap.push { cls:=.type "range",data:=.fields #[.int lo t,.int hi u,.int 1 v] },toks:=tk }:=I.kept λb o e=>Heap.get?_push_of_some _ e;refine⟨(s.heap.push { cls:=.type "range",data:=.fields #[.int lo t,.int hi u,.int 1 v] }).objs.size,[(s.heap.push { cls:=.type "range",data:=.fields #[.int lo t,.int hi u,.int 1 v] }).objs.size],_,_,H,8,
  a.kept (t':=tk) λb o e=>Heap.get?_push_of_some _ e,Kn _ lo (hi - lo).toNat,7,λb c=>?_,q⟩
 .let d:lo+((0:Nat):Int)*1=lo:=by simp
  let f:(((hi - lo).toNat:Nat):Int) - ((0:Nat):Int)=Builtin.Range.rangeSize lo hi 1:=by rw[rangeSize_one];split<;>lia
  show IsRangeIter _ _ (lo+((0:Nat):Int)*1) ((((hi - lo).toNat:Nat):Int) - ((0:Nat):Int)) 1;rw[d,f];exact Heap.get?_push_size _ rfl
 .let e:b=(s.heap.push { cls:=.type "range",data:=.fields #[.int lo t,.int hi u,.int 1 v] }).objs.size:=by simpa using c
  subst e;exact a.fpOk (Nat.le_refl _) (a.hok.fresh (Nat.le_refl _))
def qt9(ta:TA):TI:=λσ H R=>ta σ H λvs H1=>∃j:Int,vs=[.int j]/\-(2 ^ 62)<=j/\j < 2 ^ 62/\R (Itr 0 j.toNat) H1
def qs4(ta:TA):TI:=λσ H R=>ta σ H λvs H1=>∃i j:Int,vs=[.int i,.int j]/\(-(2 ^ 62)<=i/\i < 2 ^ 62/\-(2 ^ 62)<=j/\j < 2 ^ 62)/\R (Itr i (j - i).toNat) H1
theorem gE(k:Gl X "range")(hm:X.mg "range"=none)(l:PA X [a] ta)(hs:starEach [a] X.env=[(false,eval a X.env)]:=by rfl):PI X tg (.Call (.Name "range" p) [a] [] pos) (qt9 ta):=by
 intro pins s σ H R I h;refine Call_ (kJ I k hm boot_range (PyProof.Rows.callWith_type1 (thn (l pos pins s σ H _ I h) λg i ⟨vs,H1,c,d,b⟩=>?_) hs rfl));let⟨j,e,b,f,q⟩:=b;subst e
 cases d with
 |cons r rr=>
  cases rr
  let⟨t,rfl⟩:=r;exact call_range_1 (Hb c () () b f (by simpa using q))
theorem Ai(v:Gl X "range")(hm:X.mg "range"=none)(w:PA X [a,b] ta)(hs:starEach [a,b] X.env=[(false,eval a X.env),(false,eval b X.env)]:=by rfl)(u:starEach [b] X.env=[(false,eval b X.env)]:=by rfl):
  PI X tg (.Call (.Name "range" p) [a,b] [] pos) (qs4 ta):=by
 intro pins s σ H R I h;refine Call_ (kJ I v hm boot_range (PyProof.Rows.callWith_type1 (thn (w pos pins s σ H _ I h) λm n ⟨vs,H1,d,f,c⟩=>?_) (by rw[hs,u]) (by rw[u];rfl)));let⟨i,j,e,⟨c,g,k,l⟩,q⟩:=c;subst e
 cases f with
 |cons r rr=>
  cases rr with
  |cons r' rr=>
   cases rr
   let⟨t,rfl⟩:=r;let⟨o,rfl⟩:=r';exact call_range_2 (Hb d c g k l q)
def qz3(wi:TI)(g:TG)(tb:TS):TS:=λD σ H=>wi σ H λJ H1=>∃W:Nat->Nat->St->Hp->Prop,(∃m,W 0 m σ H1)/\∀i m σ H,W i m σ H->
 (J.stop i H/\D.nx σ H)\/(J.go i H/\∃N:St->Hp->Prop,(∀σ' H',N σ' H'->∃m',m' < m/\W (i+1) m' σ' H')/\∀x H',J.yld i H x H'->g x σ H' λσ2 H2=>tb { D with nx:=N,ct:=N,bk:=D.nx } σ2 H2)
def xW(fp:List Addr)(h:Heap):List (Addr × Obj):=fp.filterMap λb=>(h.get? b).map λo=>(b,o)
theorem mD(a:b∈fp)(e:h.get? b=some o):(b,o)∈xW fp h:=mem_filterMap.mpr ⟨b,a,by rw[e];rfl⟩
theorem Ph(hp:p∈xW fp h):p.1∈fp/\h.get? p.1=some p.2:=by
 let⟨b,a,e⟩:=mem_filterMap.mp hp
 cases q:h.get? b with
 |none=>rw[q] at e;cases e
 |some o=>
  rw[q] at e;let c:(b,o)=p:=Option.some.inj e;subst c;exists a,q
theorem Inv.pinned(I:Inv X pins σ H s)(i:∀b∈fp,pI X pins H b)(ho:∀b∈fp,∃o,s.heap.get? b=some o/\∀v,o.data≠.cell v):Inv X (pins++xW fp s.heap) σ H s:=
 I.pins_of λp hp=>(mem_append.mp hp).elim (λz=>I.pin p (mem_append_right _ z)) λz=>by
  let⟨a,e⟩:=Ph z;let⟨f,g,h,_⟩:=i p.1 a;let⟨o,c,d⟩:=ho p.1 a;rw[e] at c;cases c;exists e,f,g,h,d
theorem Inv.unpinned(I:Inv X (pins++pl) σ H s):Inv X pins σ H s:=I.pins_of λp hp=>I.pin p (mem_append_right _ (mem_append_left _ hp))
theorem dE{iter:Expr}(hp:PassesOwn (model X.prog X.w) X.A X.env X.xe)(hc:X.calm=true)(hi:PI X tg iter wi)(hg:PG X tg g)(hb:PSs X body tb)(hs:∀x,foldedSetIterable iter X.env x=pure x:=by intro _;rfl):PS X (.For tg iter body [] pos) (qz3 wi g tb):=by
 intro pins s σ H D I h;refine wpAny_For (thn (hi pins s σ H _ I h) λv s1 h1=>thn h1 λa0 s2 h2=>?_) hs;let⟨it,fp,F,J,H2,e,R,T,G,K,W,⟨S,U⟩,B⟩:=h2;subst e;let k:∀{H':Hp},(∀b∈fp,H' b=none)->∀b∈fp,pI X pins H' b:=λV b hb=>⟨V b hb,(K b hb).2⟩
 refine codeAny_forLoop_any (λn s'=>∃i σ' H',Inv X pins σ' H' s'/\F i s'.heap/\(∀b∈fp,H' b=none)/\W i n σ' H') ?_ S ⟨0,σ,H2,R,G,λb hb=>(K b hb).1,U⟩;rintro n s3 ⟨i,p,H3,L,y,z,Y⟩;rcases B i n p H3 Y with ⟨stop,Z⟩ | ⟨go,N,hN,step⟩
 .refine wpAny_passesOwn hp (thn (T.done X rfl rfl rfl hc i pins s3 p H3 X.xe L (k z) y stop) λr s4 ⟨C,I4⟩=>?_);subst C;exact wpAny_execs_nil ⟨p,H3,I4,Z⟩
 .refine wpAny_passesOwn hp (thn (T.item X rfl rfl rfl hc i pins s3 p H3 X.xe L (k z) y go) λr s4 ⟨u,C,h4⟩=>?_);subst C;refine wpAny_passesOwn hp (thn h4 λ_ M ⟨x,O,I5,r5,y5,q,P⟩=>?_);let Q:=I5.pinned (k P) (T.obj _ _ q);refine wpAny_passesOwn hp (thn (hg _ M p O x u _ Q r5 (step x O y5)) λ_ s6 ⟨a1,H6,I6,q6⟩=>?_);refine wpAny_passesOwn hp (thn (hb _ s6 a1 H6 _ I6 q6) λf E q7=>?_);let l:∀{a:St}{c:Hp},Inv X (pins++xW fp M.heap) a c E->N a c->∃m,m < n/\∃i σ' H',Inv X pins σ' H' E/\F i E.heap/\(∀b∈fp,H' b=none)/\W i m σ' H':=λ{a c} j t=>by
   let⟨m',hm,w7⟩:=hN a c t;exists m',hm,i+1,a,c,j.unpinned,T.keep _ _ _ q λb hb o e=>(j.pin (b,o) (mem_append_right _ (mem_append_right _ (mD hb e)))).1,λb hb=>?_,w7;let⟨o,e,d⟩:=T.obj _ _ q b hb;exact(j.pin (b,o) (mem_append_right _ (mem_append_right _ (mD hb e)))).2.1
  cases f with
  |next=>let⟨a,c,j,t⟩:=q7;exact l j t
  |cont=>let⟨a,c,j,t⟩:=q7;exact l j t
  |brk=>let⟨a,c,j,q7⟩:=q7;exists a,c,j.unpinned,q7
  |ret v=>let⟨x7,a,c,j,r7,q7⟩:=q7;exists x7,a,c,j.unpinned,r7,q7
end
theorem eX{K:Frag}{g:TG}{tb:TS}{D:jY}(d:Nat->St->Hp->Prop)(k:d 0 σ H)(l:∀i σ H,i<=xs.length->d i σ H->SqL K H a xs)(hs:∀i x σ H,xs[i]?=some x->d i σ H->g x σ H λf H2=>tb { D with nx:=d (i+1),ct:=d (i+1),bk:=D.nx } f H2)(n:∀σ H,d xs.length σ H->D.nx σ H):
  ∃W:Nat->Nat->St->Hp->Prop,(∃m,W 0 m σ H)/\∀i m σ H,W i m σ H->
   ((Itl K a).stop i H/\D.nx σ H)\/((Itl K a).go i H/\∃N:St->Hp->Prop,(∀h H',N h H'->∃j,j < m/\W (i+1) j h H')/\∀x H',(Itl K a).yld i H x H'->g x σ H' λf H2=>tb { D with nx:=N,ct:=N,bk:=D.nx } f H2):=by
 exists λi m σ H=>m=xs.length - i/\i<=xs.length/\d i σ H,⟨xs.length,⋯,Nat.zero_le _,k⟩,7;rintro i m σ H ⟨rfl,hi,p⟩;let q:=l i σ H hi p
 by_cases b:i < xs.length
 .refine .inr ⟨⟨xs,xs[i],q,by simp[b]⟩,d (i+1),λh H' c=>⟨xs.length - (i+1),6,8,b,c⟩,λx H' y=>?_⟩;let⟨e,y⟩:=y;subst e;exact hs i x σ _ (y xs q) p
 .let e:i=xs.length:=by lia
  subst e;exact .inl ⟨⟨xs,q,Nat.le_refl _⟩,n σ H p⟩
theorem qc0{K:Frag}{g:TG}{tb:TS}{D:jY}(d:Nat->St->Hp->Prop)(k:d 0 σ H)(l:∀i σ H,i<=xs.length->d i σ H->SqT K H a xs)(hs:∀i x σ H,xs[i]?=some x->d i σ H->g x σ H λf H2=>tb { D with nx:=d (i+1),ct:=d (i+1),bk:=D.nx } f H2)(n:∀σ H,d xs.length σ H->D.nx σ H):
  ∃W:Nat->Nat->St->Hp->Prop,(∃m,W 0 m σ H)/\∀i m σ H,W i m σ H->
   ((Itt K a).stop i H/\D.nx σ H)\/((Itt K a).go i H/\∃N:St->Hp->Prop,(∀h H',N h H'->∃j,j < m/\W (i+1) j h H')/\∀x H',(Itt K a).yld i H x H'->g x σ H' λf H2=>tb { D with nx:=N,ct:=N,bk:=D.nx } f H2):=by
 exists λi m σ H=>m=xs.length - i/\i<=xs.length/\d i σ H,⟨xs.length,⋯,Nat.zero_le _,k⟩,7;rintro i m σ H ⟨rfl,hi,p⟩;let q:=l i σ H hi p
 by_cases b:i < xs.length
 .refine .inr ⟨⟨xs,xs[i],q,by simp[b]⟩,d (i+1),λh H' c=>⟨xs.length - (i+1),6,8,b,c⟩,λx H' y=>?_⟩;let⟨e,y⟩:=y;subst e;exact hs i x σ _ (y xs q) p
 .let e:i=xs.length:=by lia
  subst e;exact .inl ⟨⟨xs,q,Nat.le_refl _⟩,n σ H p⟩
theorem gD{lo:Int}{g:TG}{tb:TS}{D:jY}(c:Nat->St->Hp->Prop)(j:c 0 σ H)(hs:∀i σ H,i < n->c i σ H->g (.int (lo+i)) σ H λd H2=>tb { D with nx:=c (i+1),ct:=c (i+1),bk:=D.nx } d H2)(k:∀σ H,c n σ H->D.nx σ H):
  ∃W:Nat->Nat->St->Hp->Prop,(∃m,W 0 m σ H)/\∀i m σ H,W i m σ H->
   ((Itr lo n).stop i H/\D.nx σ H)\/((Itr lo n).go i H/\∃N:St->Hp->Prop,(∀f H',N f H'->∃h,h < m/\W (i+1) h f H')/\∀x H',(Itr lo n).yld i H x H'->g x σ H' λd H2=>tb { D with nx:=N,ct:=N,bk:=D.nx } d H2):=by
 exists λi m σ H=>m=n - i/\i<=n/\c i σ H,⟨n,⋯,Nat.zero_le _,j⟩,7;rintro i m σ H ⟨rfl,hi,p⟩
 by_cases a:i < n
 .refine .inr ⟨a,c (i+1),λf H' b=>⟨n - (i+1),6,8,a,b⟩,λx H' y=>?_⟩;let⟨e,y⟩:=y;subst e y;exact hs i σ _ a p
 .let e:i=n:=by lia
  subst e;exact .inl ⟨Nat.le_refl _,k σ H p⟩
theorem yN(e:St->Hp->Prop)(μ:St->Hp->Nat)(g:e σ H)(hs:∀σ H,e σ H->c σ H λb H1=>if b=true then tb { D with nx:=λd H'=>e d H'/\μ d H' < μ σ H,ct:=λd H'=>e d H'/\μ d H' < μ σ H,bk:=D.nx } σ H1 else D.nx σ H1)(mono:∀σ H Q f,(∀b H1,Q b H1->f b H1)->c σ H Q->c σ H f):Uj c tb D σ H:=by
 exists λm σ H=>m=μ σ H/\e σ H,⟨9,g⟩,7;rintro m σ H ⟨rfl,p⟩;refine mono σ H _ _ (λb H1 q=>?_) (hs σ H p)
 cases b with
 |true=>exact⟨_,λd H' ⟨a,l⟩=>⟨_,l,8,a⟩,q⟩
 |false=>exact q
abbrev R2:=V->V->Hp->VK->Prop
def OpR(X:Cx)(f:Value->Value->Sem Value)(r:R2):Prop:=
 ∀(pins:List (Addr × Obj))(s:Shared)(σ:St)(H:Hp)(x y:V)(v u:Value)(Q:VK),Inv X pins σ H s->cE x v->cE y u->r x y H Q->
  zzW X (f v u) (EP X pins σ Q) X.xe s
def UnR(X:Cx)(f:Value->Sem Value)(r:V->Hp->VK->Prop):Prop:=
 ∀(pins:List (Addr × Obj))(s:Shared)(σ:St)(H:Hp)(x:V)(v:Value)(Q:VK),Inv X pins σ H s->cE x v->r x H Q->
  zzW X (f v) (EP X pins σ Q) X.xe s
def jF(X:Cx)(f:Value)(r:vk->Hp->VK->Prop):Prop:=
 ∀(pins:List (Addr × Obj))(s:Shared)(σ:St)(H:Hp)(xs:vk)(us:List Value)(Q:VK),Inv X pins σ H s->cB xs us->r xs H Q->
  zzW X (call f us) (EP X pins σ Q) X.xe s
def tOp(r:R2)(ta tb:TE):TE:=λσ H Q=>ta σ H λx H1=>tb σ H1 λy H2=>r x y H2 Q
def tUn(r:V->Hp->VK->Prop)(ta:TE):TE:=λσ H Q=>ta σ H λx H1=>r x H1 Q
inductive rI(C:Int->Int->Prop)(g:Int->Int->V)(x:V)(y:V)(H:Hp)(Q:VK):Prop where
 |mk (i j):x=.int i->y=.int j->C i j->Q (g i j) H->rI C g x y H Q
inductive rI0(g:Int->Int->V)(x:V)(y:V)(H:Hp)(Q:VK):Prop where
 |mk (i j):x=.int i->y=.int j->Q (g i j) H->rI0 g x y H Q
inductive rU(g:Int->V)(x:V)(H:Hp)(Q:VK):Prop where
 |mk (i):x=.int i->Q (g i) H->rU g x H Q
section
variable {X:Cx} {a b c:Expr} {ta tb tc:TE} {pos:Pos}
theorem qh9(l:PE X a ta)(m:PE X b tb){R:V->V->Hp->Prop}(I:Inv X pins σ H s)(h:ta σ H λx H1=>tb σ H1 λy H2=>R x y H2){f:Value->Value->Sem Value}(n:∀v u k x y H2,Inv X pins σ H2 k->cE x v->cE y u->R x y H2->zzW X (f v u) Q X.xe k):
  zzW X (eval a X.env) (λv o=>zzW X (eval b X.env) (λu p=>zzW X (f v u) Q X.xe p) X.xe o) X.xe s:=by
 refine thn (l pins s σ H _ I h) λv c ⟨x,H1,d,e,g⟩=>?_;refine thn (m pins c σ H1 _ d g) λu k ⟨y,H2,i,j,q2⟩=>?_;exact n v u k x y H2 i e j q2
theorem aY(ho:OpR X (binaryOp op) r)(g:PE X a ta)(i:PE X b tb):PE X (.BinOp a op b pos) (tOp r ta tb):=by
 intro pins s σ H Q I h;exact wpAny_BinOp (qh9 g i I h λv u c x y H2 d e f q=>ho pins c σ H2 x y v u Q d e f q)
theorem Fo(ho:UnR X (unaryOp op) r)(f:PE X a ta):PE X (.UnaryOp op a pos) (tUn r ta):=by
 intro pins s σ H Q I h;exact UnaryOp_ (thn (f pins s σ H _ I h) λv b ⟨x,H1,c,d,e⟩=>ho pins b σ H1 x v Q c d e)
theorem opI{g:Int->Int->Int}(e:∀(i j:Int)(t u:Tok)(s:Shared)(Q:Value->Shared->Prop)(E:Value->Shared->Prop),C i j->Q (.int (g i j) s.toks) { s with toks:=s.toks+1 }->zzW X (f (.int i t) (.int j u)) Q E s):
  OpR X f (rI C λi j=>.int (g i j)):=by
 intro pins s σ H x y v u Q I a b h;let⟨i,j,rfl,rfl,c,q⟩:=h;let⟨t,rfl⟩:=a;let⟨d,rfl⟩:=b;exact e i j t d s _ _ c ⟨.int (g i j),H,I.tok _,⟨9⟩,q⟩
theorem qy7{g:Int->Int->Int}(d:∀(i j:Int)(t u:Tok)(s:Shared)(Q:Value->Shared->Prop)(E:Value->Shared->Prop),Q (.int (g i j) s.toks) { s with toks:=s.toks+1 }->zzW X (f (.int i t) (.int j u)) Q E s):
  OpR X f (rI0 λi j=>.int (g i j)):=by
 intro pins s σ H x y v u Q I a b h;let⟨i,j,rfl,rfl,q⟩:=h;let⟨t,rfl⟩:=a;let⟨c,rfl⟩:=b;exact d i j t c s _ _ ⟨.int (g i j),H,I.tok _,⟨9⟩,q⟩
theorem qi9{g:Int->Int->Bool}(d:∀(i j:Int)(t u:Tok)(s:Shared)(Q:Value->Shared->Prop)(E:Value->Shared->Prop),Q (.bool (g i j)) s->zzW X (f (.int i t) (.int j u)) Q E s):
  OpR X f (rI0 λi j=>.bl (g i j)):=by
 intro pins s σ H x y v u Q I a b h;let⟨i,j,rfl,rfl,q⟩:=h;let⟨t,rfl⟩:=a;let⟨c,rfl⟩:=b;exact d i j t c s _ _ ⟨.bl (g i j),H,I,8,q⟩
def qz7(i j:Int):Prop:=0 < j/\j < 1073741824
def aAq(i j:Int):Prop:=0<=j/\j<=1000000/\i.natAbs < 2 ^ 64
def qm5(i j:Int):Prop:=(-(2 ^ 64) < i/\i < 2 ^ 64)\/(-(2 ^ 64) < j/\j < 2 ^ 64)
theorem qm5.ok(h:qm5 i j):IntMulOk i j:=by
 rcases h with ⟨h1,h2⟩ | ⟨h1,h2⟩
 .exact .of_left (intBits_le_64 h1 h2)
 .exact .of_right (intBits_le_64 h1 h2)
theorem eK:OpR X (binaryOp .Add) (rI0 λi j=>.int (i+j)):=qy7 λ_ _ _ _ _ _ _ q=>add_int q
theorem kD:OpR X (binaryOp .Sub) (rI0 λi j=>.int (i - j)):=qy7 λ_ _ _ _ _ _ _ q=>sub_int q
theorem oM:OpR X (binaryOp .Mult) (rI qm5 λi j=>.int (i*j)):=opI λ_ _ _ _ _ _ _ a q=>mul_int q a.ok
theorem lZ:OpR X (binaryOp .FloorDiv) (rI qz7 λi j=>.int (i / j)):=opI λi j _ _ _ _ _ a q=>by
 let h1:(0:Int) < j:=a.1;let h2:j < 1073741824:=a.2;exact floordiv_int () (by rw[Int.fdiv_eq_ediv_of_nonneg i ()];exact q) (.inl (PyProof.noPylong_small ()))
theorem kS:OpR X (binaryOp .Mod) (rI (λ_ j=>0 < j) λi j=>.int (i % j)):=opI λi j _ _ _ _ _ a q=>by
 let h1:(0:Int) < j:=a;exact mod_int' () (by rw[Int.fmod_eq_emod_of_nonneg i ()];exact q)
theorem rS:OpR X (binaryOp .Mod) (rI (λ_ j=>j≠0) λi j=>.int (i.fmod j)):=opI λ_ _ _ _ _ _ _ a q=>mod_int' a q
theorem kM:OpR X (binaryOp .Pow) (rI aAq λi j=>.int (i ^ j.toNat)):=opI λ_ _ _ _ _ _ _ a q=>pow_int_small a.1 a.2.1 a.2.2 q
theorem unI{g:Int->Int}(b:∀(i:Int)(t:Tok)(s:Shared)(Q:Value->Shared->Prop)(E:Value->Shared->Prop),Q (.int (g i) s.toks) { s with toks:=s.toks+1 }->zzW X (f (.int i t)) Q E s):
  UnR X f (rU λi=>.int (g i)):=by
 intro pins s σ H x v Q I a h;let⟨i,rfl,q⟩:=h;let⟨t,rfl⟩:=a;exact b i t s _ _ ⟨.int (g i),H,I.tok _,⟨9⟩,q⟩
theorem wD:UnR X (unaryOp .USub) (rU λi=>.int (-i)):=unI λ_ _ _ _ _ q=>neg_int q
end
def qy1:V->V->Bool
 | .non,.non=>true | .non,.int _=>true | .int _,.non=>true | .non,.bl _=>true | .bl _,.non=>true | .non,.str _=>true | .str _,.non=>true
 | .int _,.int _=>true | .bl _,.bl _=>true | .str _,.str _=>true | .byt _,.byt _=>true
 | .int _,.str _=>true | .str _,.int _=>true | .bl _,.str _=>true | .str _,.bl _=>true
 |_,_=>false
def rEq:R2:=λx y H Q=>qy1 x y=true/\Q (.bl (decide (x=y))) H
def rNe:R2:=λx y H Q=>qy1 x y=true/\Q (.bl (!decide (x=y))) H
theorem Lj:decide (V.int i=V.int j)=(i == j):=by
 rw[Bool.eq_iff_iff];simp
theorem Qv:decide (V.bl i=V.bl j)=(i == j):=by
 rw[Bool.eq_iff_iff];simp
theorem Mm:decide (V.str i=V.str j)=(i == j):=by
 rw[Bool.eq_iff_iff];simp
theorem Og:decide (V.byt i=V.byt j)=(i.toList == j.toList):=by
 rw[Bool.eq_iff_iff]
 cases i
 cases j
 simp
section
variable {X:Cx} {a b c:Expr} {ta tb tc:TE} {pos:Pos}
theorem dC(I:Inv X pins σ H s)(q:Q (.bl k) H)(e:k=k'):EP X pins σ Q (.bool k') s:=by
 subst e;exists .bl k,H,I,8,q
theorem eO:OpR X (compareOp .Eq) rEq:=by
 intro pins s σ H x y v u Q I c a h;let⟨hs,q⟩:=h
 cases x with
 |non=>
  cases c
  cases y with
  |non=>cases a;exact PySem.EqNone.eq_none_none (dC I q ⋯)
  |bl j=>cases a;exact PySem.EqNone.eq_none_bool (dC I q ⋯)
  |int j=>let⟨b,rfl⟩:=a;exact PySem.EqNone.eq_none_int (dC I q ⋯)
  |str j=>let⟨b,rfl⟩:=a;exact PySem.EqNone.eq_none_str (dC I q ⋯)
  |_=>exact absurd (show false=true from hs) Bool.false_ne_true
 |bl i=>
  cases c
  cases y with
  |non=>cases a;exact PySem.EqNone.eq_bool_none (dC I q ⋯)
  |bl j=>cases a;exact eq_bool (dC I q Qv)
  |str j=>let⟨b,rfl⟩:=a;exact PySem.EqMixed.eq_bool_str (dC I q ⋯)
  |_=>exact absurd (show false=true from hs) Bool.false_ne_true
 |int i=>
  let⟨t,rfl⟩:=c
  cases y with
  |non=>cases a;exact PySem.EqNone.eq_int_none (dC I q ⋯)
  |int j=>let⟨b,rfl⟩:=a;exact eq_int (dC I q Lj)
  |str j=>let⟨b,rfl⟩:=a;exact PySem.EqMixed.eq_int_str (dC I q ⋯)
  |_=>exact absurd (show false=true from hs) Bool.false_ne_true
 |str i=>
  let⟨t,rfl⟩:=c
  cases y with
  |non=>cases a;exact PySem.EqNone.eq_str_none (dC I q ⋯)
  |bl j=>cases a;exact PySem.EqMixed.eq_str_bool (dC I q ⋯)
  |int j=>let⟨b,rfl⟩:=a;exact PySem.EqMixed.eq_str_int (dC I q ⋯)
  |str j=>let⟨b,rfl⟩:=a;exact eq_str (dC I q Mm)
  |_=>exact absurd (show false=true from hs) Bool.false_ne_true
 |byt i=>
  let⟨t,rfl⟩:=c
  cases y with
  |byt j=>let⟨b,rfl⟩:=a;exact W.eq_bytes (dC I q Og)
  |_=>exact absurd (show false=true from hs) Bool.false_ne_true
 |_=>cases y<;>exact absurd (show false=true from hs) Bool.false_ne_true
theorem jQ:OpR X (compareOp .NotEq) rNe:=by
 intro pins s σ H x y v u Q I c a h;let⟨hs,q⟩:=h
 cases x with
 |non=>
  cases c
  cases y with
  |non=>cases a;exact PySem.EqNone.ne_none_none (dC I q ⋯)
  |bl j=>cases a;exact PySem.EqNone.ne_none_bool (dC I q ⋯)
  |int j=>let⟨b,rfl⟩:=a;exact PySem.EqNone.ne_none_int (dC I q ⋯)
  |str j=>let⟨b,rfl⟩:=a;exact PySem.EqNone.ne_none_str (dC I q ⋯)
  |_=>exact absurd (show false=true from hs) Bool.false_ne_true
 |bl i=>
  cases c
  cases y with
  |non=>cases a;exact PySem.EqNone.ne_bool_none (dC I q ⋯)
  |bl j=>cases a;exact ne_bool (dC I q (congrArg not Qv))
  |str j=>let⟨b,rfl⟩:=a;exact PySem.EqMixed.ne_bool_str (dC I q ⋯)
  |_=>exact absurd (show false=true from hs) Bool.false_ne_true
 |int i=>
  let⟨t,rfl⟩:=c
  cases y with
  |non=>cases a;exact PySem.EqNone.ne_int_none (dC I q ⋯)
  |int j=>let⟨b,rfl⟩:=a;exact ne_int (dC I q (congrArg not Lj))
  |str j=>let⟨b,rfl⟩:=a;exact PySem.EqMixed.ne_int_str (dC I q ⋯)
  |_=>exact absurd (show false=true from hs) Bool.false_ne_true
 |str i=>
  let⟨t,rfl⟩:=c
  cases y with
  |non=>cases a;exact PySem.EqNone.ne_str_none (dC I q ⋯)
  |bl j=>cases a;exact PySem.EqMixed.ne_str_bool (dC I q ⋯)
  |int j=>let⟨b,rfl⟩:=a;exact PySem.EqMixed.ne_str_int (dC I q ⋯)
  |str j=>let⟨b,rfl⟩:=a;exact ne_str (dC I q (congrArg not Mm))
  |_=>exact absurd (show false=true from hs) Bool.false_ne_true
 |byt i=>
  let⟨t,rfl⟩:=c
  cases y with
  |byt j=>let⟨b,rfl⟩:=a;exact W.ne_bytes (dC I q (congrArg not Og))
  |_=>exact absurd (show false=true from hs) Bool.false_ne_true
 |_=>cases y<;>exact absurd (show false=true from hs) Bool.false_ne_true
theorem yG:OpR X (compareOp .Lt) (rI0 λi j=>.bl (decide (i < j))):=qi9 λ_ _ _ _ _ _ _ q=>lt_int q
theorem Gz:OpR X (compareOp .Gt) (rI0 λi j=>.bl (decide (j < i))):=qi9 λ_ _ _ _ _ _ _ q=>gt_int q
theorem Vy:OpR X (compareOp .GtE) (rI0 λi j=>.bl (decide (j<=i))):=qi9 λ_ _ _ _ _ _ _ q=>ge_int q
theorem bL(b:Expr)(h:op≠.In:=by decide)(h2:op≠.NotIn:=by decide):behindInMarks op b=false:=by
 let a:(op == CmpOp.In)=false:=by cases op<;>first | rfl | exact absurd rfl h
 let c:(op == CmpOp.NotIn)=false:=by cases op<;>first | rfl | exact absurd rfl h2
 cases b<;>simp[behindInMarks,a,c]
theorem iA(ho:OpR X (compareOp op) r)(g:PE X a ta)(i:PE X b tb)(hm:behindInMarks op b=false):PE X (.Compare a [op] [b] pos) (tOp r ta tb):=by
 intro pins s σ H Q I h;exact wpAny_Compare1 (qh9 g i I h λv u c x y H2 d e f q=>ho pins c σ H2 x y v u Q d e f q) hm
def qw3(t:TE):TT:=λσ H Q=>t σ H λx H'=>BlT x λk=>Q k H'
theorem bH(ho:OpR X (compareOp op) r)(t:PE X a ta)(w:PE X b tb)(hm:behindInMarks op b=false):PT X (.Compare a [op] [b] pos) (qw3 (tOp r ta tb)):=by
 intro pins s σ H Q I h;refine wpAny_isTrue_Compare1 (thn (t pins s σ H _ I h) λv d ⟨x,H1,f,g,i⟩=>thn (w pins d σ H1 _ f i) λu j ⟨y,H2,l,m,n⟩=>
  thn (ho pins j σ H2 x y v u _ l g m n) λc s3 ⟨z,H3,o,p,k,e,q⟩=>?_) hm
 subst e
 cases p
 exact wpAny_truthy_bool ⟨H3,o,q⟩
theorem Ev:(sizeLine:Nat) < 2 ^ 63:=by rw[sizeLine_eq];decide
theorem Be(r:cB [x] us):∃u,us=[u]/\cE x u:=by
 cases r with
 |cons r1 r2=>cases r2;exists 9,r1
theorem xE(r:cB [x,y] us):∃u a,us=[u,a]/\cE x u/\cE y a:=by
 cases r with
 |cons r1 r2=>
  cases r2 with
  |cons r3 r4=>cases r4;exists _,9,r1,r3
theorem wR:jF X (.builtin "abs") (λxs H Q=>∃i,xs=[.int i]/\Q (.int (if i < 0 then -i else i)) H):=by
 intro pins s σ H xs a Q I r h;let⟨i,rfl,q⟩:=h;let⟨u,rfl,t,rfl⟩:=Be r;exact call_abs_int λu tk=>⟨.int (if i < 0 then -i else i),H,I.tok _,⟨9⟩,q⟩
end
structure Lc(h:Heap)(x dx C:Addr)(mA:Str->Option Value):Prop where
 obj:h.get? x=some (W.instObj C dx)
 ns:h.Ns1 dx mA
 ne:dx≠x
theorem uO{h:Heap}(n:h.Ns1 dx mA):∃od,h.get? dx=some od/\∀name,W.lookIn name od=some (mA name):=by
 let⟨o,es,i,ho,c,d,_,hm⟩:=n;exists o,ho,λname=>?_;let e:=hm name;unfold nsFind findBy at e;rw[<- Array.find?_toList] at e;unfold W.lookIn;rw[c];dsimp only;split
 .rename_i y q
  rw[q] at e;exact congrArg some e
 .rename_i q
  rw[q] at e;let a:es.toList.any (·.refKey)=false:=by
   rw[any_eq_false];intro y f;let⟨z,t,b⟩:=d y (Array.mem_toList_iff.mp f);simp[DictEntry.refKey,b]
  let g:¬es.toList.any (·.refKey)=true:=by rw[a];exact Bool.false_ne_true
  rw[if_neg g];exact congrArg some e
theorem Lc.look(I:Lc h x dx C mA):∃od,W.InstAt h x (W.instObj C dx) C (some od)/\∀name,W.lookIn name od=some (mA name):=
 let ⟨od,ho,hl⟩:=uO I.ns
 ⟨od,⟨I.obj,8,8,ho⟩,hl⟩
section
variable {prog:Program} {w:World} {A:Around} {E:Value->Shared->Prop} {s:Shared} {K:Frag} {x dx C f:Addr} {mA:Str->Option Value} {name:Str} {v:Value}
theorem qa3(X:K.In s.heap)(I:Lc s.heap x dx C mA)(b:W.plainGet K C name=true)(c:W.hasDictIn K C=true)(d:W.findIn K (.ref C) name=some none)(e:mA name=some v)(a:W.handedIn v=true)(h:Q v { s with toks:=s.toks+1 }):
  wpAny (model prog w) A (getAttr (.ref x) name expr) Q E s:=by
 let⟨od,J,f⟩:=I.look;exact W.get_value X J (W.plainGet_of b).1 (W.findObj_own c d rfl (by rw[f,e])) a h
theorem Rp(X:K.In s.heap)(I:Lc s.heap x dx C mA)(c:W.plainGet K C name=true)(d:W.findIn K (.ref C) name=some (some (.ref f)))(e:W.isFn K (.ref f)=true)(g:mA name=none)(h:Q (.ref f,[.ref x]) s):
  wpAny (model prog w) A (getMethod (.ref x) name pl) Q E s:=by
 let⟨a,J,b⟩:=I.look;exact W.method_fn X J (W.plainGet_of c).1 (W.plainGet_of c).2 d (beq_iff_eq.mp e) (by show (W.lookIn name a).map (·.isSome)=some false;rw[b,g];rfl) h
theorem Zz(X:K.In s.heap)(I:Lc s.heap x dx C mA)(hs:W.findIn K (.ref C) "__setattr__"=some (some (.builtin "object.__setattr__")))(hp:W.plainOver K C=true)(t:W.takerIn K C name=some none)(u:W.hasDictIn K C=true)(hw:PySem.Within mA ns)(hsz:ns.length<=sizeLine)(h:∀h',Lc h' x dx C (λy=>if y=name then some v else mA y)->Heap.SameBut dx s.heap h'->Q .unit { s with heap:=h',toks:=s.toks+2 }):
  wpAny (model prog w) A (setAttr (.ref x) name v) Q E s:=by
 let⟨n,J,o⟩:=I.look;refine W.set_plain X J hs (W.osa_open (s:={ s with toks:=s.toks+1 }) (r:=none) X J hp t λb=>?_);let⟨p,j,e⟩:=W.any_some u;let k:s.heap.get? x=some ⟨.ref C,some dx,.plain,#[]⟩:=I.obj;refine wpAny_bind (wpAny_pure (wpAny_bind (wpAny_bind (wpAny_loadPart k (wpAny_bind (W.Looks.here (s:={ s with toks:=s.toks+1 }) (W.looks_clsIn X j) ?_))))));rw[e];refine wpAny_pure (a:=some dx) (wpAny_bind (wpAny_pure (wpAny_bind ?_)));refine wpAny_nsSet1 (s:={ s with toks:=s.toks+1 }) I.ns λh' c d=>?_;let⟨q,l,m,f,g,i⟩:=c.count (PySem.Within.cons name v hw);refine wpAny_bind (wpAny_lookBehind f (by rw[g];exact pastItsLine_dict (Nat.le_trans i (by rw[length_cons];lia))) ?_);exact wpAny_pure (h _ ⟨(d.2 _ (Ne.symm I.ne)).trans I.obj,c,I.ne⟩ d)
theorem Uv(X:K.In s.heap)(hm:W.makesIn K C=true)(hi:W.findIn K (.ref C) "__init__"=some (some (.ref f)))(c:W.typeIn K (.ref f)=some (.type "function"))(h:codeAny (model prog w) (A.under (.builtin "type.__call__" ⟨.ref C :: vs,kw⟩)) (.call (.ref f) ⟨.ref (s.heap.objs.size+1) :: vs,kw⟩) (W.InitBack (s.heap.objs.size+1) R)
   { s with heap:=(s.heap.push W.emptyDict).push (W.instObj C s.heap.objs.size) }):
  codeAny (model prog w) A (.call (.ref C) ⟨vs,kw⟩) R s:=by
 let⟨b,g,d,t,os⟩:=s;exact W.make_core (W.makes_of X hm) (W.looks_findIn X hi) (λa=>W.bind_fn X a c) (.inl rfl) h
end
def fM(f:Str)(v:V):List (Str × V)->List (Str × V)
 | []=>[(f,v)]
 | (g,x) :: r=>if g=f then (g,v) :: r else (g,x) :: fM f v r
theorem bQ(f g:Str)(v:V):∀fs:List (Str × V),(fM f v fs).lookup g=if g=f then some v else fs.lookup g
 | []=>by
  show List.lookup g [(f,v)]=_
  by_cases h:g=f
  .let a:(g == f)=true:=beq_iff_eq.mpr h;simp only[List.lookup,a,if_pos h]
  .let a:(g == f)=false:=beq_eq_false_iff_ne.mpr h;simp only[List.lookup,a,if_neg h]
 | (k,x) :: r=>by
  let ih:=bQ f g v r;rw[show fM f v ((k,x) :: r)=(if k=f then (k,v) :: r else (k,x) :: fM f v r) from rfl]
  by_cases b:k=f
  .rw[if_pos b]
   by_cases h:g=k
   .let a:(g == k)=true:=beq_iff_eq.mpr h;simp only[List.lookup,a,if_pos (h.trans b)]
   .let a:(g == k)=false:=beq_eq_false_iff_ne.mpr h;simp only[List.lookup,a,if_neg (λe:g=f=>h (e.trans b.symm))]
  .rw[if_neg b]
   by_cases h:g=k
   .let a:(g == k)=true:=beq_iff_eq.mpr h;simp only[List.lookup,a,if_neg (λe:g=f=>b (h.symm.trans e))]
   .let a:(g == k)=false:=beq_eq_false_iff_ne.mpr h;simp only[List.lookup,a];exact ih
theorem tO(f:Str)(v:V):∀fs:List (Str × V),f∈(fM f v fs).map (·.1)/\∀g,g∈fs.map (·.1)->g∈(fM f v fs).map (·.1)
 | []=>⟨by simp[fM],λg h=>by simp at h⟩
 | (k,x) :: r=>by
  let⟨i1,b⟩:=tO f v r;rw[show fM f v ((k,x) :: r)=(if k=f then (k,v) :: r else (k,x) :: fM f v r) from rfl]
  by_cases a:k=f
  .rw[if_pos a];subst a;exists ⋯,λg h=>by simpa using h
  .rw[if_neg a];exists 7,λg h=>?_
   .rw[map_cons];exact mem_cons_of_mem _ i1
   .rw[map_cons] at h ⊢;rcases mem_cons.mp h with e | e
    .exact mem_cons.mpr (.inl e)
    .exact mem_cons_of_mem _ (b g e)
theorem fV(f:Str)(v:V):∀fs:List (Str × V),(fM f v fs).length<=fs.length+1
 | []=>by simp[fM]
 | (k,x) :: r=>by
  let b:=fV f v r;rw[show fM f v ((k,x) :: r)=(if k=f then (k,v) :: r else (k,x) :: fM f v r) from rfl]
  by_cases a:k=f
  .rw[if_pos a,length_cons,length_cons];lia
  .rw[if_neg a,length_cons,length_cons];lia
theorem kK.some_of(r:kK (some v) o):∃u,o=some u/\cE v u:=by
 cases o with
 |none=>exact(show False from r).elim
 |some u=>exact⟨u,8,r⟩
theorem kK.none_of(r:kK none o):o=none:=by
 cases o with
 |none=>rfl
 |some u=>exact(show False from r).elim
theorem zX(r:cE v u):W.handedIn u=true:=by
 cases v with
 |non=>cases (show u=Value.none from r);rfl
 |bl b=>cases (show u=Value.bool b from r);rfl
 |int i=>let⟨t,e⟩:=(show ∃t,u=Value.int i t from r);cases e;rfl
 |str x=>let⟨t,e⟩:=(show ∃t,u=Value.str x t from r);cases e;rfl
 |byt b=>let⟨t,e⟩:=(show ∃t,u=Value.bytes b t from r);cases e;rfl
 |flt b=>let⟨t,e⟩:=(show ∃t,u=Value.float b t from r);cases e;rfl
 |ref a=>cases (show u=Value.ref a from r);rfl
 |ty n=>cases (show u=Value.type n from r);rfl
section
variable {P:Program} {w:World} {H H':Hp} {h h':Heap} {a C dx:Addr} {fs fs':List (Str × V)}
theorem vV(b:HOk P w H h)(e:H a=some (.ins C dx fs)):∃mA,Lc h a dx C mA/\(∀f,kK (fs.lookup f) (mA f))/\PySem.Within mA (fs.map (·.1))/\fs.length<=1000/\H dx=some (.own a):=by
 let⟨d,z,ne,c,mA,n,r,q⟩:=(show cP P w H h a (.ins C dx fs) from b a _ e)
 exists mA,⟨c,n,ne⟩,r,q,z,d
end
structure Cls(K:Frag)(C:Addr):Prop where
 pg:W.plainGet K C Str.empty=true
 hd:W.hasDictIn K C=true
 po:W.plainOver K C=true
 sa:W.findIn K (.ref C) "__setattr__"=some (some (.builtin "object.__setattr__"))
theorem Cls.get{K:Frag}(c:Cls K C)(f:Str):W.plainGet K C f=true:=c.pg
def iB(K:Frag)(C:Addr)(f:Str):Prop:=W.findIn K (.ref C) f=some none
theorem iB.taker{K:Frag}(n:iB K C f):W.takerIn K C f=some none:=by
 unfold W.takerIn;rw[show W.findIn K (.ref C) f=some none from n];rfl
structure gG(K:Frag)(C:Addr)(m:Str)(f:Addr):Prop where
 at_:W.findIn K (.ref C) m=some (some (.ref f))
 fn:W.isFn K (.ref f)=true
 kp:W.keepIn K (.ref f)=true
section
variable {X:Cx} {pins:List (Addr × Obj)} {σ:St} {H:Hp} {s:Shared} {a C dx:Addr} {fs:List (Str × V)} {f:Str} {v:V} {A:Around} {E:Value->Shared->Prop}
theorem Kq(I:Inv X pins σ H s)(e:H a=some (.ins C dx fs))(c:Cls X.K C)(n:iB X.K C f)(l:fs.lookup f=some v)(h:∀u s',Inv X pins σ H s'->cE v u->Q u s'):wpAny (model X.prog X.w) A (getAttr (.ref a) f b) Q E s:=by
 let⟨mA,O,r,_,_,_⟩:=vV I.hok e;let⟨u,g,d⟩:=kK.some_of (v:=v) (o:=mA f) (by rw[<- l];exact r f);exact qa3 I.kIn O (c.get f) c.hd n g (zX d) (h u _ (I.tok _) d)
theorem lU(I:Inv X pins σ H s)(e:H a=some (.ins C dx fs))(c:Cls X.K C)(k:gG X.K C m g)(l:fs.lookup m=none)(h:Q (.ref g,[.ref a]) s):wpAny (model X.prog X.w) A (getMethod (.ref a) m pl) Q E s:=by
 let⟨mA,O,r,_,_,_⟩:=vV I.hok e;let b:mA m=none:=kK.none_of (by rw[<- l];exact r m);exact Rp I.kIn O (c.get m) k.at_ k.fn b h
theorem Lb(I:Inv X pins σ H s)(e:H a=some (.ins C dx fs))(c:Cls X.K C)(n:iB X.K C f)(t:fs.length < 1000)(p:cE y u)(h:∀s',Inv X pins σ (upd H a (.ins C dx (fM f y fs))) s'->Q .unit s'):wpAny (model X.prog X.w) A (setAttr (.ref a) f u) Q E s:=by
 let⟨mA,O,r,wi,_,ho⟩:=vV I.hok e;let i:(fs.map (·.1)).length<=sizeLine:=by rw[length_map,sizeLine_eq];lia
 refine Zz I.kIn O c.sa c.po n.taker c.hd wi i λh' d j=>h _ ?_;let k:∃o,h'.get? dx=some o:=let ⟨o,_,_,e',_⟩:=d.ns;⟨o,e'⟩
 refine I.write (x:=a) (e:=dx) (by rw[e];exact True.intro) (.inr ho) (λb q l z=>(j.2 b l).trans z) k ?_;exists by rw[aQ O.ne];exact ho,?_,O.ne,d.obj,_,d.ns,λg=>?_,λg m=>?_
 .have:=fV f y fs;lia
 .show kK ((fM f y fs).lookup g) (if g=f then some u else mA g);rw[bQ]
  by_cases q:g=f
  .rw[if_pos q,if_pos q];exact p
  .rw[if_neg q,if_neg q];exact r g
 .by_cases q:g=f
  .rw[q];exact(tO f y fs).1
  .refine(tO f y fs).2 g (wi g λz=>m ?_);show (if g=f then some u else mA g)=none;rw[if_neg q];exact z
theorem Inv.made(I:Inv X pins σ H s):Inv X pins σ (upd (upd H s.heap.objs.size (.own (s.heap.objs.size+1))) (s.heap.objs.size+1) (.ins C s.heap.objs.size []))
  { s with heap:=(s.heap.push W.emptyDict).push (W.instObj C s.heap.objs.size) }:=by
 let c:(s.heap.push W.emptyDict).get? s.heap.objs.size=some W.emptyDict:=Heap.get?_push_size s.heap rfl;let f:((s.heap.push W.emptyDict).push (W.instObj C s.heap.objs.size)).get? (s.heap.objs.size+1)=some (W.instObj C s.heap.objs.size):=by
  have:=Heap.get?_push_size (s.heap.push W.emptyDict) (o:=W.instObj C s.heap.objs.size) rfl
  rwa [Heap.size_push] at this
 let g:(s.heap.push W.emptyDict).Ns s.heap.objs.size (λ_=>none):=⟨W.emptyDict,#[],_,c,8,(λe h=>absurd h ⋯),λ_=>rfl⟩
 let i:=I.laid (a:=s.heap.objs.size) (o:=.own (s.heap.objs.size+1)) (h':=s.heap.push W.emptyDict) (t':=s.toks) (λb u q=>Heap.get?_push_of_some _ q) (Nat.le_refl _) ⟨_,c⟩;refine i.laid (a:=s.heap.objs.size+1) (o:=.ins C s.heap.objs.size []) (t':=s.toks) (λb u q=>Heap.get?_push_of_some _ q) (Nat.le_of_eq (Heap.size_push _ _)) ?_;let d:s.heap.objs.size≠s.heap.objs.size+1:=Nat.ne_of_lt (Nat.lt_succ_self _);exists by rw[aQ d,aB],Nat.zero_le _,d,f,λ_=>none,(Heap.Ns1.of_empty g).at λo q=>Heap.get?_push_of_some _ q,λ_=>True.intro,λy hy=>absurd rfl hy
theorem Nh(a:attributeBase e f env (eval e env)=eval e env)(h:wpAny (model prog w) A (eval e env) (λo b=>wpAny (model prog w) A (getAttr o f true) Q E b) E s):wpAny (model prog w) A (eval (.Attribute e f pos) env) Q E s:=
 Attribute_any_ h (by rw[arm_eval_Attribute,a])
end
inductive qe9(K:Frag)(f:Str)(Q:VK)(x:V)(H1:Hp):Prop where
 |mk (a C dx fs v):x=.ref a->H1 a=some (.ins C dx fs)->Cls K C->iB K C f->fs.lookup f=some v->Q v H1->qe9 K f Q x H1
def qx8(K:Frag)(ta:TE)(f:Str):TE:=λσ H Q=>ta σ H λx H1=>qe9 K f Q x H1
inductive qf7(K:Frag)(f:Str)(D:jY)(σ:St)(x:V)(H2:Hp)(y:V):Prop where
 |mk (a C dx fs):x=.ref a->H2 a=some (.ins C dx fs)->Cls K C->iB K C f->fs.length < 1000->D.nx σ (upd H2 a (.ins C dx (fM f y fs)))->qf7 K f D σ x H2 y
def aAm(K:Frag)(ta tv:TE)(f:Str):TS:=λD σ H=>tv σ H λy H1=>ta σ H1 λx H2=>qf7 K f D σ x H2 y
section
variable {X:Cx} {o e value:Expr} {f:Str} {pos pos' tpos:Pos} {ta tv:TE}
theorem cA(p:PE X e ta)(r:attributeBase e f X.env (eval e X.env)=eval e X.env):PE X (.Attribute e f pos) (qx8 X.K ta f):=by
 intro pins s σ H Q I h;refine Nh r (thn (p pins s σ H _ I h) λu k ⟨x,H1,b,d,a,C,dx,fs,v,ex,g,c,n,l,q⟩=>?_);subst ex;obtain rfl:u=Value.ref a:=d;exact Kq b g c n l λm o i j=>⟨v,H1,i,j,q⟩
theorem oS(t:PE X o ta)(v:PE X value tv)(hs:swapsWith value (some (.Attribute o f pos')) pos.line X.env=pure false):PS X (.Assign [.Attribute o f pos'] value pos) (aAm X.K ta tv f):=by
 intro pins s σ H D I h;refine plainObj_wpAny_Assign_Attribute (thn (v pins s σ H _ I h) λu b ⟨y,H1,d,e,q⟩=>thn (t pins b σ H1 _ d q) λg r ⟨x,H2,i,j,a,C,dx,fs,ex,k,c,n,l,m⟩=>?_) hs;subst ex;obtain rfl:g=Value.ref a:=j;exact Lb i k c n l e λs3 p=>⟨σ,_,p,m⟩
end
section
variable {X:Cx} {pins:List (Addr × Obj)} {σ:St} {H:Hp} {s:Shared} {A:Around} {E:Value->Shared->Prop} {Q:Value->Shared->Prop} {c:Value} {b:Bool}
inductive lW(K:Frag)(H:Hp):V->Value->Prop where
 |non:lW K H .non (.type "NoneType")
 |bl (x:Bool):lW K H (.bl x) (.type "bool")
 |int (i:Int):lW K H (.int i) (.type "int")
 |str (x:Str):lW K H (.str x) (.type "str")
 |flt (x:UInt64):lW K H (.flt x) (.type "float")
 |lst {a:Addr} {xs:vk} (e:H a=some (.lst xs)):lW K H (.ref a) (.type "list")
 |frz {a:Addr} {o:Obj} {xs:vk} (e:H a=some (.frz o (.lst xs))):lW K H (.ref a) (.type "list")
 |tup {a:Addr} {xs:vk} (e:H a=some (.tup xs)):lW K H (.ref a) (.type "tuple")
 |dK {a:Addr} {kvs:List (Key × V)} (e:H a=some (.dK kvs)):lW K H (.ref a) (.type "dict")
 |dT {a:Addr} {kvs:List (List Key × V)} (e:H a=some (.dT kvs)):lW K H (.ref a) (.type "dict")
 |ins {a C dx:Addr} {fs:List (Str × V)} (e:H a=some (.ins C dx fs)) (cl:Cls K C) (ha:W.findIn K (.ref C) "__class__"=some (some (.builtin "object.__class__")))
   (hn:W.specialIn K (.builtin "object.__class__") "__get__"=some (some (.builtin "getset_descriptor.__get__"))) (htk:W.takesIn K (.builtin "object.__class__")=some true)
   (hm:W.mroIn K C (.type "object")=some true):lW K H (.ref a) (.ref C)
theorem Pu(I:Inv X pins σ H s)(g:cE x u)(ty:lW X.K H x t)(e:W.kitOne X.K t c=some b)(h:∀tk,Q (.bool b) { s with toks:=tk }):
  wpAny (model X.prog X.w) A (call (.builtin "isinstance") [u,c]) Q E s:=by
 cases ty with
 |non=>cases (show u=Value.none from g);exact W.kia_one W.kitx_none I.kIn True.intro e (λz=>nomatch z) h
 |bl y=>cases (show u=Value.bool y from g);exact W.kia_one W.kitx_bool I.kIn True.intro e (λz=>nomatch z) h
 |int i=>let⟨t,q⟩:=(show ∃t,u=Value.int i t from g);cases q;exact W.kia_one W.kitx_int I.kIn True.intro e (λz=>nomatch z) h
 |str y=>let⟨t,q⟩:=(show ∃t,u=Value.str y t from g);cases q;exact W.kia_one W.kitx_str I.kIn True.intro e (λz=>nomatch z) h
 |flt y=>let⟨t,q⟩:=(show ∃t,u=Value.float y t from g);cases q;exact W.kia_one W.kitx_float I.kIn True.intro e (λz=>nomatch z) h
 | @lst a xs ea=>
  cases (show u=Value.ref a from g)
  let⟨_,_,n,_,h1⟩:=(show cP X.prog X.w H s.heap a (.lst xs) from I.hok a _ ea)
  exact W.kia_one W.kitx_list I.kIn ⟨_,h1,8⟩ e (λz=>nomatch z) h
 | @frz a ob xs ea=>
  cases (show u=Value.ref a from g)
  let⟨_,_,_,n,_,h1⟩:=(show cP X.prog X.w H s.heap a (.frz ob (.lst xs)) from I.hok a _ ea)
  exact W.kia_one W.kitx_list I.kIn ⟨_,h1,8⟩ e (λz=>nomatch z) h
 | @tup a xs ea=>
  cases (show u=Value.ref a from g)
  let⟨_,_,_,p⟩:=(show cP X.prog X.w H s.heap a (.tup xs) from I.hok a _ ea)
  let⟨o,h1,h2,_⟩:=p;exact W.kia_one W.kitx_tuple I.kIn ⟨o,h1,h2⟩ e (λz=>nomatch z) h
 | @dK a kvs ea=>
  cases (show u=Value.ref a from g)
  let⟨_,_,vs,_,p⟩:=(show cP X.prog X.w H s.heap a (.dK kvs) from I.hok a _ ea)
  let⟨o,es,d,h1,h2,_⟩:=p;exact W.kia_one W.kitx_dict I.kIn ⟨o,h1,h2.1⟩ e (λz=>nomatch z) h
 | @dT a kvs ea=>
  cases (show u=Value.ref a from g)
  let⟨_,_,xs,_,o,es,d,h1,h2,_⟩:=(show cP X.prog X.w H s.heap a (.dT kvs) from I.hok a _ ea)
  exact W.kia_one W.kitx_dict I.kIn ⟨o,h1,h2.1⟩ e (λz=>nomatch z) h
 | @ins a C dx fs ea cl ha hn htk hm=>
  cases (show u=Value.ref a from g)
  let⟨mA,O,_⟩:=vV I.hok ea;let⟨f,J,_⟩:=O.look;exact W.kia_one (W.kitx_own (cl.get _) cl.hd ha hn htk hm) I.kIn J e (λz=>nomatch z) h
end
structure hV(k:Nat)(A:Around):Prop where
 hd:A.handled=none
 dp:A.depth+3*k+5 < recursionLimit
 un:A.units+16*k+200 < cLine
theorem hV.mono(r:hV k A)(h:j<=k):hV j A:=⟨r.hd,by have:=r.dp;lia,by have:=r.un;lia⟩
theorem hV.deeper(r:hV (k+1) A)(env:Env):hV k (A.deeper env):=
 ⟨r.hd,by have:=r.dp;show A.depth+1+3*k+5 < _;lia,by have:=r.un;show A.units+3+16*k+200 < _;lia⟩
theorem Jb{A:Around}:(A.under (.builtin "type.__call__" ⟨.ref C :: us,kw⟩)).depth=A.depth+1:=by
 first | rfl | simp[Around.under,Code.weight,Code.isCreation,Code.isGuard,Code.isCaller,Code.frames,Code.isFrame,guardIds]
theorem Jm{A:Around}:(A.under (.builtin "type.__call__" ⟨.ref C :: us,kw⟩)).units=A.units+1:=by
 first | rfl | simp[Around.under,Code.cUnits,Code.frames,Code.isFrame]
theorem hV.make(r:hV (k+1) A)(C:Addr)(us:List Value)(a:List (Str × Value)):hV k (A.under (.builtin "type.__call__" ⟨.ref C :: us,a⟩)):=
 ⟨r.hd,by have:=r.dp;rw[Jb];lia,by have:=r.un;rw[Jm];lia⟩
theorem hV.depth(r:hV k A):A.depth < recursionLimit:=by have:=r.dp;lia
theorem hV.units(r:hV k A):A.units+64 < cLine:=by have:=r.un;lia
def qr1:TA:=λ_ H Q=>Q [] H
def qu7(ta:TE)(tr:TA):TA:=λσ H Q=>ta σ H λx H1=>tr σ H1 λxs H2=>Q (x :: xs) H2
section
variable {X:Cx} {e:Expr} {es:List Expr} {te:TE} {t:TA} {pos:Pos}
theorem aC:PA X [] qr1:=λ_ _ _ _ H Q I h=>Calls.spliced_nil ⟨[],H,I,.nil,h⟩
theorem aA(l:PE X e te)(m:PA X es t)(hs:starEach (e :: es) X.env=(false,eval e X.env) :: starEach es X.env:=by rfl):PA X (e :: es) (qu7 te t):=by
 intro pos pins s σ H Q I h;rw[hs];show wpAny _ _ (spliced ((false,eval e X.env) :: backTo pos (starEach es X.env))) _ _ s;refine Calls.spliced_cons (thn (l pins s σ H _ I h) λu a ⟨x,H1,b,c,d⟩=>?_);exact thn (m pos pins a σ H1 _ b d) λj k ⟨xs,H2,f,g,i⟩=>⟨x :: xs,H2,f,.cons c g,i⟩
def qz9(t:TA):TE:=λσ H Q=>t σ H λxs H1=>xs.length<=sizeLine/\∀p,H1 p=none->Q (.ref p) (upd H1 p (.tup xs))
def qz6(t:TA):TE:=λσ H Q=>t σ H λxs H1=>xs.length<=sizeLine/\∀p,H1 p=none->Q (.ref p) (upd H1 p (.lst xs))
theorem dD{x1}(h:PA X es t):PE X (.Tuple es x1 pos) (qz9 t):=by
 intro pins s σ H Q I d;refine wpAny_Tuple_spliced (thn (h pos pins s σ H _ I d) λf a ⟨xs,H1,c,r,z,q⟩=>⟨by rw[<- r.length];exact z,7⟩);let g:H1 a.heap.objs.size=none:=c.hok.fresh (Nat.le_refl _);exists .ref a.heap.objs.size,upd H1 a.heap.objs.size (.tup xs),c.laid (t':=a.toks) (λb u e=>Heap.get?_push_of_some _ e) (Nat.le_refl _) ?_,8,q _ g;exists z,f,r,⟨_,Heap.get?_push_size _ rfl,8,9⟩
theorem cS(h:PA X es t):PE X (.List es pos) (qz6 t):=by
 intro pins s σ H Q I d;refine wpAny_List_spliced (thn (h pos pins s σ H _ I d) λf a ⟨xs,H1,c,r,z,q⟩=>⟨by rw[<- r.length];exact z,7⟩);let g:H1 a.heap.objs.size=none:=c.hok.fresh (Nat.le_refl _);exists .ref a.heap.objs.size,upd H1 a.heap.objs.size (.lst xs),c.laid (t':=a.toks) (λb u e=>Heap.get?_push_of_some _ e) (Nat.le_refl _) ?_,8,q _ g;exists z,f,0,r,Heap.get?_push_size _ rfl
end
abbrev Sp:=vk->Hp->VK->XK->Prop
abbrev CXT:=List Env->Hp->Shared->XK->Value->Shared->Prop
structure Ig(P:Program)(w:World)(K:Frag)(mg:Str->Option Value)(base:Heap)(A:Around)(outer:List Env)(s:Shared)(H:Hp):Prop where
 frames:A.frames=some outer
 mod:Mod K mg base
 bs:∀b o,base.get? b=some o->s.heap.get? b=some o/\H b=none
 bsz:base.objs.size<=s.heap.objs.size
 funs:s.heap.FunFrames base outer
 frf:∀b∈frs outer,H b=none
 hok:HOk P w H s.heap
 bare:AllBare s.gens
def CE(outer:List Env)(P:Program)(w:World)(H:Hp)(s:Shared)(Q:VK)(u:Value)(s':Shared):Prop:=
 ∃v H',s'.os=s.os/\AllBare s'.gens/\Un (frs outer) [] H H' s.heap s'.heap/\HOk P w H' s'.heap/\cE v u/\Q v H'
def CR(CX:CXT)(outer:List Env)(P:Program)(w:World)(H:Hp)(s:Shared)(Q:VK)(E:XK)(r:Result)(s':Shared):Prop:=
 match r with
 | .ok (.ret u)=>CE outer P w H s Q u s'
 | .ok _=>False
 | .error e=>CX outer H s E e s'
structure aK(P:Program)(w:World)(K:Frag)(mg:Str->Option Value)(base:Heap)(CX:CXT)(k:Nat)(f:Addr)(fd:FuncData)(ps:List Str)(sp:Sp):Prop where
 len:∀vs H Q E,sp vs H Q E->vs.length=ps.length
 run:∀(A:Around)(outer:List Env)(s:Shared)(H:Hp)(args:Args)(us:List Value)(vs:vk)(Q:VK)(E:XK),hV k A->Ig P w K mg base A outer s H->BindsTo s fd args (ps.zip us)->cB vs us->sp vs H Q E->
  codeAny (model P w) A (.call (.ref f) args) (CR CX outer P w H s Q E) s
theorem Ig.make{K:Frag}(e:Ig P w K mg base A outer s H)(C:Addr)(us:List Value)(a:List (Str × Value)):
  Ig P w K mg base (A.under (.builtin "type.__call__" ⟨.ref C :: us,a⟩)) outer s H:=⟨by first | exact e.frames | (simpa[Around.under,Code.envs,Code.isFrame,pushEnvs] using e.frames),e.mod,e.bs,e.bsz,e.funs,e.frf,e.hok,e.bare⟩
section
variable {X:Cx} {pins:List (Addr × Obj)} {σ:St} {H:Hp} {s s':Shared}
theorem Inv.env0(I:Inv X pins σ H s):Ig X.prog X.w X.K X.mg X.base X.A X.stack s H:=
 ⟨I.ok.frames,I.ok.mod,I.bs,Nat.le_trans I.ok.bsz I.sz,I.stack,I.stkFree,I.hok,I.bare⟩
theorem Inv.after(I:Inv X pins σ H s)(h:CE X.stack X.prog X.w H s Q u s'):EP X pins σ Q u s':=by
 let⟨v,H',os,a,un,c,r,q⟩:=h;let⟨f,g,d,t,e⟩:=s';obtain rfl:e=s.os:=os;exists v,H',I.call (h':=f) (g':=g) (d':=d) (t':=t) (ch:=[]) un c a (λb z=>absurd z ⋯),r,q
end
def qt0(sp:Sp)(dvs:vk)(E:XK)(t:TA):TE:=λσ H Q=>t σ H λvs H1=>sp (vs++dvs) H1 Q E
inductive Ui(C:Addr)(m:Str)(sp:Sp)(dvs:vk)(E:XK)(t:TA)(σ:St)(Q:VK)(x:V)(H1:Hp):Prop where
 |mk (a dx fs):x=.ref a->H1 a=some (.ins C dx fs)->fs.lookup m=none->(t σ H1 λvs H2=>sp (x :: (vs++dvs)) H2 Q E)->Ui C m sp dvs E t σ Q x H1
def qe6(C:Addr)(m:Str)(sp:Sp)(dvs:vk)(E:XK)(ta:TE)(t:TA):TE:=λσ H Q=>ta σ H λx H1=>Ui C m sp dvs E t σ Q x H1
def qs2(C:Addr)(sp:Sp)(dvs:vk)(E:XK)(t:TA):TE:=λσ H Q=>t σ H λvs H1=>∀x dx,H1 x=none->H1 dx=none->dx≠x->
 sp (.ref x :: (vs++dvs)) (upd (upd H1 dx (.own x)) x (.ins C dx [])) (λv H2=>v=.non/\Q (.ref x) H2) E
def aL(K:Frag)(fd:FuncData)(ps:List Str)(ds:List Value):Prop:=
 ∀(s:Shared)(us:List Value),K.In s.heap->(us++ds).length=ps.length->BindsTo s fd ⟨us,[]⟩ (ps.zip (us++ds))
theorem aL.all{K:Frag}(h:∀us:List Value,us.length=ps.length->bindArgs fd ⟨us,[]⟩=pure (ps.zip us)):aL K fd ps []:=λs us _ a=>by
 rw[append_nil] at a ⊢;exact .of_eq (h us a)
def kB(CX:CXT)(X:Cx)(E:XK):Prop:=∀(pins:List (Addr × Obj))(σ:St)(H:Hp)(s:Shared)(e:Value)(s':Shared),Inv X pins σ H s->CX X.stack H s E e s'->X.xe e s'
section
variable {X:Cx} {CX:CXT} {k:Nat} {f C:Addr} {fd:FuncData} {ps:List Str} {sp:Sp} {dvs:vk} {ds:List Value} {E:XK} {x m:Str} {p pos apos:Pos} {e o:Expr} {es:List Expr} {ta:TE} {t:TA}
theorem xS(F:aK X.prog X.w X.K X.mg X.base CX k f fd ps sp)(c:hV k X.A)(d:aL X.K fd ps ds)(g:cB dvs ds)(i:kB CX X E)(I:Inv X pins σ H s)(r:cB vs us)(h:sp (vs++dvs) H Q E):zzW X (call (.ref f) us) (EP X pins σ Q) X.xe s:=by
 let a:cB (vs++dvs) (us++ds):=r.append g;let b:(us++ds).length=ps.length:=by rw[<- a.length];exact F.len _ _ _ _ h
 refine wpAny_call (codeAny_mono (F.run X.A X.stack s H ⟨us,[]⟩ (us++ds) (vs++dvs) Q E c I.env0 (d s us I.kIn b) a h) λr s' hq=>?_)
 cases r with
 |error e=>exact i pins σ H s e s' I hq
 |ok fl=>
  cases fl with
  |ret u=>exact I.after hq
  |next=>exact False.elim hq
  |brk=>exact False.elim hq
  |cont=>exact False.elim hq
theorem aH(F:aK X.prog X.w X.K X.mg X.base CX k f fd ps sp)(i:hV k X.A)(j:Gl X x)(hm:X.mg x=some (.ref f))(l:W.keepIn X.K (.ref f)=true)(m:aL X.K fd ps ds)(n:cB dvs ds)(o:kB CX X E)(u:PA X (e :: es) t)(d:(x == ("__debug__":Str))=false:=by decide)(v:starEach (e :: es) X.env=(false,eval e X.env) :: starEach es X.env:=by rfl)(g:(backTo pos (starEach es X.env)).any (·.1)=false:=by rfl) :
  PE X (.Call (.Name x p) (e :: es) [] pos) (qt0 sp dvs E t):=by
 intro pins s σ H Q I h;refine wpAny_Call_Name_kw (jG I j hm ?_ d);refine W.callWith_K (h₀:=X.base) I.ok.mod.kin l (thn (u pos pins s σ H _ I h) λb c ⟨vs,H1,a,r,q⟩=>⟨a.kIn,7⟩) v g;exact xS F i m n o a r q
theorem Ll(z:PE X o ta)(c:Cls X.K C)(hm:gG X.K C m f)(F:aK X.prog X.w X.K X.mg X.base CX k f fd ps sp)(B:hV k X.A)(D:aL X.K fd ps ds)(G:cB dvs ds)(J:kB CX X E)(L:PA X (e :: es) t)(v:starEach (e :: es) X.env=(false,eval e X.env) :: starEach es X.env:=by rfl)(y:(backTo pos (starEach es X.env)).any (·.1)=false:=by rfl)(M:eval (.Call (.Attribute o m apos) (e :: es) [] pos) X.env=(do
   let ov <- eval o X.env
   standAt apos.atName
   let (f,first) <- holding [ov] (getMethod ov m pl)
   callWith pos f first (backTo pos (starEach (e :: es) X.env)) (backToKw pos (keywordEach [] X.env))):=by rfl):
  PE X (.Call (.Attribute o m apos) (e :: es) [] pos) (qe6 C m sp dvs E ta t):=by
 intro pins s σ H Q I h;refine W.methodCall_KW (pl:=pl) (thn (z pins s σ H _ I h) λu g ⟨x,H1,b,i,a,dx,fs,ex,j,l,q⟩=>?_) M;subst ex;obtain rfl:u=Value.ref a:=i;refine lU b j c hm l ?_;refine W.callWith_K (first:=[.ref a]) (h₀:=X.base) I.ok.mod.kin hm.kp (thn (L pos pins g σ H1 _ b q) λn p ⟨vs,H2,d,r,q2⟩=>⟨d.kIn,7⟩) v y;exact xS (us:=.ref a :: n) (vs:=.ref a :: vs) F B D G J d (.cons rfl r) q2
theorem eI(i:PE X o ta)(c:Cls X.K C)(hm:gG X.K C m f)(F:aK X.prog X.w X.K X.mg X.base CX k f fd ps sp)(j:hV k X.A)(n:aL X.K fd ps ds)(p:cB dvs ds)(r:kB CX X E)(t:eval (.Call (.Attribute o m apos) [] [] pos) X.env=(do
   let ov <- eval o X.env
   standAt apos.atName
   let (f,first) <- holding [ov] (getMethod ov m pl)
   callWith pos f first (backTo pos (starEach [] X.env)) (backToKw pos (keywordEach [] X.env))):=by rfl):
  PE X (.Call (.Attribute o m apos) [] [] pos) (qe6 C m sp dvs E ta qr1):=by
 intro pins s σ H Q I h;refine W.methodCall_KW (pl:=pl) (thn (i pins s σ H _ I h) λu g ⟨x,H1,b,d,a,dx,fs,ex,e,l,q⟩=>?_) t;subst ex;obtain rfl:u=Value.ref a:=d;refine lU b e c hm l ?_;exact W.callWith_K0 (first:=[.ref a]) b.kIn hm.kp (xS (us:=[.ref a]) (vs:=[.ref a]) F j n p r b (.cons rfl .nil) q)
structure Mk(K:Frag)(C f:Addr):Prop where
 makes:W.makesIn K C=true
 init:W.findIn K (.ref C) "__init__"=some (some (.ref f))
 fn:W.isFn K (.ref f)=true
 kp:W.keepIn K (.ref C)=true
theorem Uk(M:Mk X.K C f)(F:aK X.prog X.w X.K X.mg X.base CX k f fd ps sp)(m:hV (k+1) X.A)(n:aL X.K fd ps ds)(o:cB dvs ds)(p:kB CX X E)(I:Inv X pins σ H s)(r:cB vs us)(h:∀x dx,H x=none->H dx=none->dx≠x->sp (.ref x :: (vs++dvs)) (upd (upd H dx (.own x)) x (.ins C dx [])) (λv H2=>v=.non/\Q (.ref x) H2) E):
  zzW X (call (.ref C) us) (EP X pins σ Q) X.xe s:=by
 let b:=h (s.heap.objs.size+1) s.heap.objs.size (I.hok.fresh (Nat.le_succ _)) (I.hok.fresh (Nat.le_refl _)) (Nat.ne_of_lt (Nat.lt_succ_self _));let a:=Inv.made (C:=C) I;let c:cB (V.ref (s.heap.objs.size+1) :: (vs++dvs)) (Value.ref (s.heap.objs.size+1) :: (us++ds)):=.cons rfl (r.append o);let d:(Value.ref (s.heap.objs.size+1) :: us++ds).length=ps.length:=by
  let e:=c.length;rw[F.len _ _ _ _ b] at e;exact e.symm
 refine wpAny_call (Uv (f:=f) I.kIn M.makes M.init (beq_iff_eq.mp M.fn) (codeAny_mono (F.run _ X.stack _ _ ⟨Value.ref (s.heap.objs.size+1) :: us,[]⟩ (Value.ref (s.heap.objs.size+1) :: (us++ds)) _ _ E (m.make C us [])
  (a.env0.make C us []) (n _ (Value.ref (s.heap.objs.size+1) :: us) a.kIn d) c b) λr s' hq'=>?_))
 cases r with
 |error e=>exact p pins σ _ _ e s' a hq'
 |ok fl=>
  cases fl with
  |ret u=>
   let⟨v,H',g,i,j,l⟩:=a.after hq';subst j;exists i,⟨V.ref (s.heap.objs.size+1),H',g,8,l⟩
  |next=>exact False.elim hq'
  |brk=>exact False.elim hq'
  |cont=>exact False.elim hq'
theorem pF(M:Mk X.K C f)(F:aK X.prog X.w X.K X.mg X.base CX k f fd ps sp)(i:hV (k+1) X.A)(j:Gl X x)(hm:X.mg x=some (.ref C))(l:aL X.K fd ps ds)(m:cB dvs ds)(n:kB CX X E)(o:PA X (e :: es) t)(d:(x == ("__debug__":Str))=false:=by decide)(u:starEach (e :: es) X.env=(false,eval e X.env) :: starEach es X.env:=by rfl)(g:(backTo pos (starEach es X.env)).any (·.1)=false:=by rfl) :
  PE X (.Call (.Name x p) (e :: es) [] pos) (qs2 C sp dvs E t):=by
 intro pins s σ H Q I h;refine wpAny_Call_Name_kw (jG I j hm ?_ d);refine W.callWith_K (h₀:=X.base) I.ok.mod.kin M.kp (thn (o pos pins s σ H _ I h) λb c ⟨vs,H1,a,r,q⟩=>⟨a.kIn,7⟩) u g;exact Uk M F i l m n a r q
end
structure aP(N P:List Str)(sc:Scope):Prop where
 kind:sc.kind=.function
 co:sc.isCoroutine=false
 gen:sc.isGenerator=false
 nd:N.Nodup
 pre:N.take P.length=P
 par:∀x∈P,sc.names.lookup x=some .local\/sc.names.lookup x=some .cell
 nofree:∀y∈sc.names,y.2≠.free
theorem sK9(a:sc.kind=.function:=by rfl)(b:sc.isCoroutine=false:=by rfl)(c:sc.isGenerator=false:=by rfl)(d:N.take P.length=P:=by rfl)(e:(decide N.Nodup&&decide (∀x∈P,sc.names.lookup x=some .local\/sc.names.lookup x=some .cell)&&decide (∀y∈sc.names,y.2≠.free))=true:=by decide +kernel):aP N P sc:=by
 rw[Bool.and_eq_true,Bool.and_eq_true] at e
 exact ⟨a,b,c,of_decide_eq_true e.1.1,d,of_decide_eq_true e.1.2,of_decide_eq_true e.2⟩
theorem zl9(n:Nat)(h:n<=16:=by decide):n<=sizeLine:=Nat.le_trans h ∅
abbrev kI9(K:Frag)(g:Addr):Prop:=W.keepIn K (.ref g)=true
abbrev mI9(mg:Str->Option Value)(x:Str)(g:Addr):Prop:=mg x=some (.ref g)
theorem Am{a:Str->Option NameKind}:∀{binds:List (Str × Value)}{m:Str->Option Value},(∀v,(x,v)∉binds)->bindL a binds m x=m x
 | [],_,_=>rfl
 | (n,v) :: r,m,h=>by
  unfold bindL;rw[Am λw hw=>h w (mem_cons_of_mem _ hw)];split
  .have:x≠n:=by rintro rfl;exact h v mem_cons_self
   simp[this]
  .rfl
theorem zM{a:Str->Option NameKind}:∀{binds:List (Str × Value)}{m:Str->Option Value},(∀v,(x,v)∉binds)->bindC a binds m x=m x
 | [],_,_=>rfl
 | (n,v) :: r,m,h=>by
  unfold bindC;rw[zM λw hw=>h w (mem_cons_of_mem _ hw)];split
  .rfl
  .have:x≠n:=by rintro rfl;exact h v mem_cons_self
   simp[this]
theorem Ae{b:Str->Option NameKind}:∀{P:List Str}{vs:List Value}{i:Nat}{m:Str->Option Value},P.Nodup->P[i]?=some x->vs[i]?=some v->b x=some .local->
  bindL b (P.zip vs) m x=some v
 | [],_,_,_,_,h,_,_=>by simp at h
 |_ :: _,[],_,_,_,_,h,_=>by simp at h
 |p :: P,w :: vs,0,m,nd,h1,h2,hk=>by
  simp at h1 h2;subst h1;subst h2;show bindL b ((p,w) :: P.zip vs) m p=_;unfold bindL;rw[Am λv a=>(nodup_cons.mp nd).1 (of_mem_zip a).1,if_pos hk];simp
 |p :: P,w :: vs,i+1,m,nd,h1,h2,hk=>by
  show bindL b ((p,w) :: P.zip vs) m x=_;unfold bindL;exact Ae (i:=i) (nodup_cons.mp nd).2 (by simpa using h1) (by simpa using h2) hk
theorem zO{b:Str->Option NameKind}:∀{P:List Str}{vs:List Value}{i:Nat}{m:Str->Option Value},P.Nodup->P[i]?=some x->vs[i]?=some v->b x≠some .local->
  bindC b (P.zip vs) m x=some v
 | [],_,_,_,_,h,_,_=>by simp at h
 |_ :: _,[],_,_,_,_,h,_=>by simp at h
 |p :: P,w :: vs,0,m,nd,h1,h2,hk=>by
  simp at h1 h2;subst h1;subst h2;show bindC b ((p,w) :: P.zip vs) m p=_;unfold bindC;rw[zM λv a=>(nodup_cons.mp nd).1 (of_mem_zip a).1,if_neg hk];simp
 |p :: P,w :: vs,i+1,m,nd,h1,h2,hk=>by
  show bindC b ((p,w) :: P.zip vs) m x=_;unfold bindC;exact zO (i:=i) (nodup_cons.mp nd).2 (by simpa using h1) (by simpa using h2) hk
def start(N:List Str)(vs:vk):St:=vs.map some++replicate (N.length - vs.length) none
def zC(CX:CXT)(P:Program)(w:World)(K:Frag)(mg:Str->Option Value)(base:Heap)(N:List Str)(qual:Str)(scope:Scope)(f:Addr)(cd:Value)(A:Around)(outer:List Env)(s:Shared)(H:Hp)(E:XK):Cx where
 prog:=P
 w:=w
 K:=K
 mg:=mg
 base:=base
 A:=A.deeper (envOfC qual scope s.heap.objs.size f cd)
 N:=N
 s₀:=s
 H₀:=H
 env:=envOfC qual scope s.heap.objs.size f cd
 outer:=outer
 stack:=envOfC qual scope s.heap.objs.size f cd :: outer
 ex:=[]
 calm:=true
 fn:=λ_=>true
 pn:=[]
 xe:=λe s'=>wpAny (model P w) (A.deeper (envOfC qual scope s.heap.objs.size f cd)) (leaving (envOfC qual scope s.heap.objs.size f cd) e) (λ_ s''=>CX outer H s E e s'') (λe' s''=>CX outer H s E e' s'') s'
theorem Gc{a:Scope}(h:a.names.lookup x=some .cell):∃c,(cellsFrom n a.names []).lookup x=some c:=by
 let q:=W.cellsFrom_some a.names n [] (.inl h);exact Option.isSome_iff_exists.mp q
theorem Pe{K:Frag}(S:aP N ps scope)(F:A.handled=none)(D:Ig P w K mg base A outer s H)(G:vs.length=ps.length)(r:cB vs us)(x:InCallC s s.heap.objs.size (bindL (envOfC qual scope s.heap.objs.size f cd).kindOf (ps.zip us) λ_=>none) (cellsFrom (s.heap.objs.size+1) scope.names []) (bindC (envOfC qual scope s.heap.objs.size f cd).kindOf (ps.zip us) λ_=>none) s1):
  Inv (zC CX P w K mg base N qual scope f cd A outer s H E) [] (start N vs) H s1:=by
 let B:ps.length<=N.length:=by have:=congrArg List.length S.pre;rw[length_take] at this;lia
 let⟨h1,tk,rfl,l⟩:=x.done;let g:∀b:Addr,b∉(zC CX P w K mg base N qual scope f cd A outer s H E).ex:=λb z=>absurd (show b∈([]:List Addr) from z) ⋯;refine⟨⟨D.mod,S.kind,8,8,Nat.le_refl _,λy z c h1 h2=>?_,λy d=>?_,λy c _ h=>?_,λ_=>F,Around.frames_deeper D.frames,.inr ⟨8,8⟩,λb z=>absurd z (g b),D.bs,D.bsz,λb _ _=>g b,λb z=>absurd z (g b),D.funs,D.frf⟩,
  rfl,D.bare,Un.kept l,⟨_,x.toInCall.ns,λi y v h1 h2 C=>?_⟩,λy c h=>⟨_,x.cell y c h⟩,D.hok.fresh (Nat.le_refl _),λy c h=>?_,λp hp=>absurd (show p∈([]:List (Addr × Obj)) from hp) ⋯,D.hok.kept l,?_⟩
 .exact name_of_addr x.apart (PySem.mem_of_lookup h1) (PySem.mem_of_lookup h2)
 .let d:scope.names.lookup y=some .cell\/scope.names.lookup y=some .free:=d;rcases d with d | d
  .exact Gc d
  .exact absurd rfl (S.nofree _ (PySem.mem_of_lookup d))
 .exact Nat.le_of_lt (x.above y c (PySem.mem_of_lookup h))
 .let hi:i < vs.length:=by
   unfold start at h2
   by_cases hi:i < vs.length
   .exact hi
   .rw[getElem?_append_right (by simpa using hi)] at h2;rw[getElem?_replicate] at h2;split at h2<;>cases h2
  let o:vs[i]?=some v:=by
   unfold start at h2;rw[getElem?_append_left (by simpa using hi),getElem?_map] at h2
   cases e:vs[i]? with
   |none=>rw[e] at h2;cases h2
   |some a=>rw[e] at h2;cases h2;rfl
  let⟨u,m,t⟩:=r.get o;let hp:ps[i]?=some y:=by
   rw[<- S.pre,getElem?_take_of_lt ()];exact h1
  let j:ps.Nodup:=by rw[<- S.pre];exact S.nd.sublist (take_sublist _ _)
  exists u,t,7;rcases S.par y (mem_of_getElem? hp) with k | k
  .exact .inl ⟨k,Ae j hp m k⟩
  .let⟨c,e⟩:=Gc (n:=s.heap.objs.size+1) k;refine .inr ⟨.inl k,c,e,7⟩;let q:=x.cell y c e;rw[zO j hp m (by show scope.names.lookup y≠_;rw[k];decide)] at q;exact q
 .exact D.hok.fresh (Nat.le_of_lt (x.above y c (PySem.mem_of_lookup h)))
 .unfold start;show _=N.length;rw[wq,length_map,length_replicate];lia
theorem qw6{K:Frag}{dV kV T U O ct oc:Value}(Y:K.lookup f=some ⟨oc,od,.func (W.fnOf name qual params body scope dV kV T U an O ct),osl⟩)(X:W.codeIn K O qual=true)(S:aP N ps scope)(len:∀vs H Q E,sp vs H Q E->vs.length=ps.length)(R:∀(A:Around)(outer:List Env)(s:Shared)(H:Hp)(vs:vk)(Q:VK)(E:XK),hV k (A.deeper (envOfC qual scope s.heap.objs.size f O))->sp vs H Q E->
   ∃t,PSs (zC CX P w K mg base N qual scope f O A outer s H E) body t/\t { nx:=λ_ H'=>Q .non H',rt:=Q } (start N vs) H):
  aK P w K mg base CX (k+1) f (W.fnOf name qual params body scope dV kV T U an O ct) ps sp:=by
 exists len,λA outer s H z B vs Q E i a C r g=>?_;let D:=len _ _ _ _ g;let l:K.In s.heap:=a.mod.kin.keeps λb o e=>(a.bs b o e).1;let m:s.heap.NoLimit:=a.mod.nolimit.keeps λb o e=>(a.bs b o e).1;let c:∀y∈ps.zip B,scope.names.lookup y.1=some .local\/(scope.names.lookup y.1=some .cell/\((cellsFrom (s.heap.objs.size+1) scope.names []).lookup y.1).isSome=true):=λ⟨n,v⟩ F=>by
  rcases S.par n (of_mem_zip F).1 with q | q
  .exact .inl q
  .exact .inr ⟨q,W.cellsFrom_some _ _ _ (.inl q)⟩
 refine codeAny_call_function i.depth (l _ _ Y) rfl S.co S.gen rfl (W.codeRec_of l X) (C _ _ _ _ ?_);refine wpAny_newFunctionEnv_cells S.kind c λenv G p x=>?_;subst G;exists m.keeps x.toInCall.keep,codeAny_func ?_;let⟨t,L,M⟩:=R A outer s H vs Q E (i.deeper _) g;let I:Inv (zC CX P w K mg base N qual scope f O A outer s H E) [] (start N vs) H p:=Pe S i.hd a D r x;refine wpAny_mono (L [] p (start N vs) H _ I M) (λfl s' hs=>?_) λe s' hs=>hs;let h:∀{d:St}{H':Hp}{v:V}{u:Value},Inv (zC CX P w K mg base N qual scope f O A outer s H E) [] d H' s'->cE v u->Q v H'->CE outer P w H s Q u s':=
  λ{d H' v u} J j q=>⟨v,H',J.os,J.bare,J.base,J.hok,j,q⟩
 cases fl with
 |ret u=>
  let⟨v,d,H',J,j,q⟩:=hs;exact h J j q
 |next=>
  let⟨d,H',J,q⟩:=hs;exact h (v:=V.non) (u:=Value.none) J rfl q
 |brk=>
  let⟨_,_,_,q⟩:=hs;exact False.elim q
 |cont=>
  let⟨_,_,_,q⟩:=hs;exact False.elim q
section
variable {X:Cx} {x:Str} {p pos:Pos} {e:Expr} {es:List Expr} {t:TA} {id T:String} {r:vk->Hp->VK->Prop}
def tCB(r:vk->Hp->VK->Prop)(t:TA):TE:=λσ H Q=>t σ H λvs H1=>r vs H1 Q
theorem bX(i:jF X (.builtin id) r)(j:Gl X x)(hm:X.mg x=none)(k:bootBuiltins x=some (.builtin id))(l:PA X (e :: es) t)(m:x≠"__name__":=by decide)(g:(x == ("__debug__":Str))=false:=by decide)(n:starEach (e :: es) X.env=(false,eval e X.env) :: starEach es X.env:=by rfl)(hpl:(backTo pos (starEach es X.env)).any (·.1)=false:=by rfl):PE X (.Call (.Name x p) (e :: es) [] pos) (tCB r t):=by
 intro pins s σ H Q I h;refine wpAny_Call_Name_kw (kJ I j hm k ?_ m g);exact PyProof.Rows.callWith_builtin1 (thn (l pos pins s σ H _ I h) λa b ⟨vs,H1,c,d,f⟩=>i pins b σ H1 vs a Q c d f) n hpl
theorem gC(i:jF X (.type T) r)(j:Gl X x)(hm:X.mg x=none)(k:bootBuiltins x=some (.type T))(l:PA X (e :: es) t)(m:x≠"__name__":=by decide)(g:(x == ("__debug__":Str))=false:=by decide)(n:starEach (e :: es) X.env=(false,eval e X.env) :: starEach es X.env:=by rfl)(hpl:(backTo pos (starEach es X.env)).any (·.1)=false:=by rfl):PE X (.Call (.Name x p) (e :: es) [] pos) (tCB r t):=by
 intro pins s σ H Q I h;refine wpAny_Call_Name_kw (kJ I j hm k ?_ m g);exact PyProof.Rows.callWith_type1 (thn (l pos pins s σ H _ I h) λa b ⟨vs,H1,c,d,f⟩=>i pins b σ H1 vs a Q c d f) n hpl
end
end L2
namespace HT
open PySem PyProof.Rows
section
variable {prog:Program} {w:World} {A:Around} {E:Value->Shared->Prop} {s:Shared}
def sIx(n d:Nat):Option Int->Nat
 |none=>d
 |some v=>if v < 0 then (v+(n:Int)).toNat else min v.toNat n
theorem qk5(n d:Nat)(b:d<=n)(o:Option Int):sIx n d o<=n:=by
 cases o with
 |none=>exact b
 |some v=>
  show (if v < 0 then (v+(n:Int)).toNat else min v.toNat n)<=n
  by_cases a:v < 0
  .rw[if_pos a];lia
  .rw[if_neg a];exact Nat.min_le_right _ _
theorem My(v:Int)(n d:Nat):(if v < 0 then max (v+(n:Int)) 0 else min v (n:Int))=((sIx n d (some v):Nat):Int):=by
 show (if v < 0 then max (v+(n:Int)) 0 else min v (n:Int))=(((if v < 0 then (v+(n:Int)).toNat else min v.toNat n):Nat):Int)
 by_cases a:v < 0
 .simp only[if_pos a];lia
 .simp only[if_neg a];lia
theorem Jw(lo hi:Option Int)(n:Nat):Builtin.Slice.sliceAdjust lo hi 1 (n:Int)=(((sIx n 0 lo:Nat):Int),((sIx n n hi:Nat):Int)):=by
 let h1:¬((1:Int) < 0):=by lia
 unfold Builtin.Slice.sliceAdjust;simp only[h1,if_false];refine Prod.ext ?_ ?_
 .cases lo with
  |none=>rfl
  |some v=>exact My v n 0
 .cases hi with
  |none=>rfl
  |some v=>exact My v n n
theorem Iz(i j:Nat):Builtin.Slice.slicePlaces (i:Int) (j:Int) 1=j - i:=by
 unfold Builtin.Slice.slicePlaces;let h1:(1:Int) > 0:=by lia
 simp only[h1,if_true,Int.ediv_one];split<;>lia
theorem yO(p:IsPart v o)(h:Q o s):wpAny (model prog w) A (Builtin.Slice.slicePartIndex v) Q E s:=by
 cases p with
 |none=>exact slicePart_none h
 |int i t=>exact slicePart_int h
theorem uK{lo hi:Option Int}{n:Nat}(hs:s.heap.IsSliceOf sl vl vu .none)(pl:IsPart vl lo)(pu:IsPart vu hi)(h:Q (((sIx n 0 lo:Nat):Int),1,sIx n n hi - sIx n 0 lo) s):wpAny (model prog w) A (Builtin.Slice.sliceApplied (.ref sl) (pure (n:Int))) Q E s:=by
 let⟨os,a,c,b⟩:=id hs;unfold Builtin.Slice.sliceApplied Builtin.Slice.sliceFields;refine wpAny_bind (wpAny_bind (wpAny_field a b (x:=vl) rfl (wpAny_bind (wpAny_field a b (x:=vu) rfl (wpAny_bind (wpAny_field a b (x:=.none) rfl (wpAny_pure ?_)))))));refine wpAny_bind (slicePart_none ?_);show wpAny _ _ (if ((1:Int) == 0)=true then _ else _) _ _ s;rw[if_neg ∅];refine wpAny_bind (yO pl (wpAny_bind (yO pu (wpAny_bind (wpAny_pure ?_)))));show wpAny _ _ (match Builtin.Slice.sliceAdjust lo hi 1 (n:Int) with | (lo,hi)=>pure (lo,(1:Int),Builtin.Slice.slicePlaces lo hi 1)) _ _ s;rw[Jw lo hi n];show wpAny _ _ (pure (((sIx n 0 lo:Nat):Int),(1:Int),Builtin.Slice.slicePlaces ((sIx n 0 lo:Nat):Int) ((sIx n n hi:Nat):Int) 1)) _ _ s;rw[Iz];exact wpAny_pure h
theorem Sb(xs:Array Value)(i k:Nat):((List.range k).filterMap λ(m:Nat)=>xs[((i:Int)+(m:Int)*1).toNat]?).toArray=((xs.toList.drop i).take k).toArray:=by
 let e:(λ(m:Nat)=>xs[((i:Int)+(m:Int)*1).toNat]?)=λm=>xs[i+m]?:=by
  funext m
  have:((i:Int)+(m:Int)*1).toNat=i+m:=by lia
  rw[this]
 rw[e];have:=pick_run xs i k;rw[filterMap_map] at this;let a:((λx=>xs[x]?) ∘ λx=>i+x)=λm=>xs[i+m]?:=rfl;rw[a] at this;rw[this]
theorem getItem_tuple_cut{lo hi:Option Int}(k:IsTup s.heap t items)(hs:s.heap.IsSliceOf sl vl vu .none)(pl:IsPart vl lo)(pu:IsPart vu hi)(hw:¬(sIx items.size 0 lo=0/\sIx items.size items.size hi=items.size))(h:Q (.ref s.heap.objs.size) { s with heap:=s.heap.push { cls:=.type "tuple",data:=.seq ((items.toList.drop (sIx items.size 0 lo)).take (sIx items.size items.size hi - sIx items.size 0 lo)).toArray } })(hsz:items.size<=sizeLine):wpAny (model prog w) A (getItem (.ref t) (.ref sl)) Q E s:=by
 let a:sizeOk (.seq ((items.toList.drop (sIx items.size 0 lo)).take (sIx items.size items.size hi - sIx items.size 0 lo)).toArray):=by
  show ((items.toList.drop (sIx items.size 0 lo)).take (sIx items.size items.size hi - sIx items.size 0 lo)).toArray.size<=sizeLine;rw[size_toArray,length_take,length_drop,Array.length_toList];lia
 let g:sIx items.size items.size hi<=items.size:=qk5 _ _ (Nat.le_refl _) hi;let⟨os,b,c,f⟩:=id hs;let d:s.TypeIs (.ref sl) "slice":=⟨os,b,c⟩
 unfold getItem
 try with_reducible refine wpAny_holding ?_
 first | refine wpAny_bind (wpAny_pure ?_) | skip
 refine wpAny_bind (wpAny_sequenceKey k.typeIs ∅ ?_);refine wpAny_bind (wpAny_callSpecial?_slot (name:=Str.ofString "__getitem__") k.typeIs PyProof.Rows.slot_tuple_getitem
  (wpAny_call_entry PyProof.Rows.slot_tuple_getitem k.typeIs entry_tuple_getitem ?_ (args_tuple_getitem _ _)))
 show wpAny _ _ (Builtin.Tuple.tupleItemsOf (.ref t) >>= _) _ _ s;refine wpAny_bind (tupleItemsOf_ k ?_);refine wpAny_bind (wpAny_typeOf d ?_);rw[if_pos ∅];refine wpAny_bind (uK hs pl pu ?_);let e:¬((((sIx items.size 0 lo:Nat):Int) == 0 && (1:Int) == 1 && (sIx items.size items.size hi - sIx items.size 0 lo) == items.size)=true):=by
  intro q;rw[Bool.and_eq_true,Bool.and_eq_true] at q;let i:((sIx items.size 0 lo:Nat):Int)=0:=eq_of_beq q.1.1;let j:sIx items.size items.size hi - sIx items.size 0 lo=items.size:=eq_of_beq q.2;exact hw ⟨6,6⟩
 show wpAny _ _ (if (((sIx items.size 0 lo:Nat):Int) == 0 && (1:Int) == 1 && (sIx items.size items.size hi - sIx items.size 0 lo) == items.size)=true then _ else _) _ _ s;rw[if_neg e,Sb]
 first
  |exact wpAny_bind (m:=Builtin.Tuple.tupleExact _) (wpAny_newObj_type (wpAny_pure ⟨9,wpAny_pure h⟩) a)
  |exact wpAny_bind (m:=Builtin.Tuple.tupleExact _) (wpAny_newObj_type (wpAny_bind (wpAny_pure (wpAny_pure ⟨9,wpAny_pure h⟩))) a)
  |exact wpAny_bind (wpAny_bind (m:=Builtin.Tuple.tupleExact _) (wpAny_newObj_type (wpAny_pure (wpAny_pure ⟨9,wpAny_pure h⟩)) a))
  |exact wpAny_bind (wpAny_bind (m:=Builtin.Tuple.tupleExact _) (wpAny_newObj_type (wpAny_pure ⟨9,wpAny_pure h⟩) a))
end
end HT
namespace L2
open PySem PySem.Spec PyProof.Rows
abbrev TO:=St->Hp->(Option Int->Hp->Prop)->Prop
def PO(X:Cx)(e:Option Expr)(t:TO):Prop:=
 ∀(pins:List (Addr × Obj))(s:Shared)(σ:St)(H:Hp)(Q:Option Int->Hp->Prop),Inv X pins σ H s->t σ H Q->
  zzW X (evalPart e X.env) (λu s'=>∃o H',Inv X pins σ H' s'/\IsPart u o/\Q o H') X.xe s
def Ni:TO:=λ_ H Q=>Q none H
def qe3(t:TE):TO:=λσ H Q=>t σ H λx H1=>∃i,x=.int i/\Q (some i) H1
section
variable {X:Cx} {e:Expr} {te:TE} {lo hi:Option Expr} {tl th:TO} {pos p2:Pos}
theorem jK:PO X none Ni:=by
 intro pins s σ H Q I h;rw[evalPart_none];exact wpAny_pure ⟨none,H,I,.none,h⟩
theorem eZ(h:PE X e te):PO X (some e) (qe3 te):=by
 intro pins s σ H Q I hw;rw[evalPart_some];refine thn (h pins s σ H _ I hw) λu d ⟨x,H1,a,b,c⟩=>?_;let⟨i,rfl,q⟩:=c;let⟨t,rfl⟩:=b;exists some i,H1,a,.int i t,q
def SlR(X:Cx)(r:V->Option Int->Option Int->Hp->VK->Prop):Prop:=
 ∀(pins:List (Addr × Obj))(s:Shared)(σ:St)(H:Hp)(x:V)(v vl vu:Value)(lo hi:Option Int)(sl:Addr)(Q:VK),Inv X pins σ H s->cE x v->s.heap.IsSliceOf sl vl vu .none->IsPart vl lo->IsPart vu hi->r x lo hi H Q->
  ∃T id,typeLookup (.type T) "__getitem__"=pure (some (.builtin id))/\s.TypeIs v T/\zzW X (getItem v (.ref sl)) (EP X pins σ Q) X.xe s
def tSl(r:V->Option Int->Option Int->Hp->VK->Prop)(te:TE)(tl th:TO):TE:=λσ H Q=>te σ H λx H1=>tl σ H1 λl H2=>th σ H2 λu H3=>r x l u H3 Q
theorem fU(B:SlR X r)(C:PE X e te)(D:PO X lo tl)(E:PO X hi th):PE X (.Subscript e (.Slice lo hi none p2) pos) (tSl r te tl th):=by
 intro pins s σ H Q I h;refine Subscript_ (thn (C pins s σ H _ I h) λv d ⟨x,H1,f,g,i⟩=>?_);refine wpAny_Slice (thn (D pins d σ H1 _ f i) λa j ⟨l,H2,k,m,n⟩=>thn (E pins j σ H2 _ k n) λc s3 ⟨u,H3,o,pu,p⟩=>?_);rw[evalPart_none];refine wpAny_pure ?_;let t:Inv X pins σ H3 { s3 with heap:=s3.heap.push { cls:=.type "slice",data:=.fields #[a,c,.none] } }:=o.kept (t':=s3.toks) λb A q=>Heap.get?_push_of_some _ q;let⟨T,id,w,y,z⟩:=B pins { s3 with heap:=s3.heap.push { cls:=.type "slice",data:=.fields #[a,c,.none] } } σ H3 x v a c l u s3.heap.objs.size Q t g (Heap.IsSliceOf.new ..) m pu p;show zzW X (subscriptTail e (.Slice lo hi none p2) v (.ref s3.heap.objs.size)) (EP X pins σ Q) X.xe { s3 with heap:=s3.heap.push { cls:=.type "slice",data:=.fields #[a,c,.none] } };exact tail_any (ops:=[.ref s3.heap.objs.size,v]) y w z (by with_unfolding_all rfl)
def jJ(xs:vk)(lo hi:Option Int):vk:=(xs.drop (HT.sIx xs.length 0 lo)).take (HT.sIx xs.length xs.length hi - HT.sIx xs.length 0 lo)
theorem uR(xs:vk)(lo hi:Option Int):(jJ xs lo hi).length<=xs.length:=by
 unfold jJ;exact Nat.le_trans (length_take_le' _ _) (by rw[length_drop];exact Nat.sub_le _ _)
inductive qv3(K:Frag)(x:V)(lo:Option Int)(hi:Option Int)(H:Hp)(Q:VK):Prop where
 |mk (a xs):x=.ref a->SqT K H a xs->(¬(HT.sIx xs.length 0 lo=0/\HT.sIx xs.length xs.length hi=xs.length))->(∀p,H p=none->Q (.ref p) (upd H p (.tup (jJ xs lo hi))))->qv3 K x lo hi H Q
theorem Ss:SlR X (qv3 X.K):=by
 intro pins s σ H x v k l lo hi m Q I g hs i pu h;let⟨a,xs,rfl,j,hw,q⟩:=h
 cases g
 let⟨d,r,e,f⟩:=I.tuple j;let c:d.toArray.size=xs.length:=by rw[size_toArray];exact r.length.symm
 exists "tuple",_,PyProof.Rows.slot_tuple_getitem.lookup,e.typeIs,7;refine HT.getItem_tuple_cut e hs i pu (by rw[c];exact hw) ?_ (by rw[c];exact f);rw[c];exists .ref s.heap.objs.size,_,I.laid (t':=s.toks) (o:=.tup (jJ xs lo hi)) (λb n q=>Heap.get?_push_of_some _ q) (Nat.le_refl _) ?_,8,q _ (I.hok.fresh (Nat.le_refl _));exists Nat.le_trans (uR xs lo hi) f,_,(r.drop (HT.sIx xs.length 0 lo)).take (HT.sIx xs.length xs.length hi - HT.sIx xs.length 0 lo),IsTup.new _ _
end
def ixN(n:Nat)(i:Int):Option Nat:=if 0<=i then (if i < n then some i.toNat else none) else if -(n:Int)<=i then some (i+n).toNat else none
def atI{α:Type}(xs:List α)(i:Int):Option α:=(ixN xs.length i).bind λj=>xs[j]?
theorem Nd(h:ixN n i=some j):seqIndex? i n=some j/\j < n/\-(n:Int)<=i/\i < n:=by
 unfold ixN at h
 by_cases a:0<=i
 .rw[if_pos a] at h
  by_cases h1:i < n
  .rw[if_pos h1] at h;let e:i.toNat=j:=Option.some.inj h;exists by rw[seqIndex_of a h1,e],6,6,h1
  .rw[if_neg h1] at h;cases h
 .rw[if_neg a] at h
  by_cases h1:-(n:Int)<=i
  .rw[if_pos h1] at h;let e:(i+n).toNat=j:=Option.some.inj h;exists by rw[seqIndex_neg () h1,e],6,h1,6
  .rw[if_neg h1] at h;cases h
theorem Mb(h:atI xs i=some v):∃j,seqIndex? i xs.length=some j/\xs[j]?=some v/\j < xs.length/\-(xs.length:Int)<=i/\i < xs.length:=by
 unfold atI at h
 cases e:ixN xs.length i with
 |none=>rw[e] at h;cases h
 |some j=>
  rw[e] at h;let⟨h1,h2,a,h4⟩:=Nd e;exists j,h1,h,h2,a,h4
theorem bM{xs:List α}{j:Nat}{v:α}(h:xs[j]?=some v):atI xs (j:Int)=some v:=by
 let a:j < xs.length:=(wk.mp h).1;let e:ixN xs.length (j:Int)=some j:=by
  unfold ixN;rw[if_pos (),if_pos ()];simp
 unfold atI;rw[e];exact h
theorem Ft(xs:List α)(v:α):atI (xs++[v]) (-1)=some v:=by
 let a:(xs++[v]).length=xs.length+1:=by simp
 let e:ixN (xs++[v]).length (-1)=some xs.length:=by
  unfold ixN;rw[a,if_neg ∅,if_pos ()];congr 1;lia
 unfold atI;rw[e];show (xs++[v])[xs.length]?=some v;simp
def Xw(b:Expr):Prop:=∀o i,subscripted b false o i=operate [o,i] (getItem o i)
def IxR(X:Cx)(r:R2):Prop:=
 ∀(value slice:Expr)(pins:List (Addr × Obj))(s:Shared)(σ:St)(H:Hp)(x y:V)(v u:Value)(Q:VK),Inv X pins σ H s->cE x v->cE y u->r x y H Q->
  subscripted slice false v u=operate [v,u] (getItem v u)->zzW X (subscriptTail value slice v u) (EP X pins σ Q) X.xe s
def MtR(X:Cx)(id:String)(r:V->vk->Hp->VK->Prop):Prop:=
 ∀(pins:List (Addr × Obj))(s:Shared)(σ:St)(H:Hp)(x:V)(xs:vk)(v:Value)(us:List Value)(Q:VK),Inv X pins σ H s->cE x v->cB xs us->r x xs H Q->
  zzW X (call (.builtin id) (v :: us)) (EP X pins σ Q) X.xe s
section
variable {X:Cx} {a b:Expr} {ta tb:TE} {pos:Pos}
theorem aR(g:IxR X r)(i:PE X a ta)(j:PE X b tb)(hs:Xw b:=by exact λ_ _=>rfl):PE X (.Subscript a b pos) (tOp r ta tb):=by
 intro pins s σ H Q I h;exact Subscript_ (qh9 i j I h λv u c x y H2 d e f q=>g a b pins c σ H2 x y v u Q d e f q (hs _ _))
inductive qk2(K:Frag)(x:V)(y:V)(H:Hp)(Q:VK):Prop where
 |mk (p xs i v):x=.ref p->y=.int i->SqL K H p xs->atI xs i=some v->Q v H->qk2 K x y H Q
inductive Us(K:Frag)(x:V)(y:V)(H:Hp)(Q:VK):Prop where
 |mk (p xs i v):x=.ref p->y=.int i->SqT K H p xs->atI xs i=some v->Q v H->Us K x y H Q
theorem bK:IxR X (qk2 X.K):=by
 intro value k pins s σ H x y v u Q I l m h hs;let⟨p,xs,i,z,rfl,rfl,n,o,q⟩:=h
 cases l
 let⟨t,rfl⟩:=m;let⟨d,r,b,C⟩:=I.list n;let⟨j,h1,h2,D,h4,A⟩:=Mb o;let⟨w,e,f⟩:=r.get h2;let B:=r.length;let E:=Ev;let a:EP X pins σ Q w s:=⟨z,H,I,f,q⟩
 by_cases g:0<=i
 .let c:i.toNat=j:=by
   rw[seqIndex_of g A] at h1;exact Option.some.inj h1
  exact item_listR b.isList g () (by rw[c];simpa using e) a hs
 .let c:(i+(d.toArray.size:Int)).toNat=j:=by
   rw[seqIndex_neg () h4] at h1;rw[size_toArray,<- B];exact Option.some.inj h1
  exact subscriptTail_builtinR (x:=w) b.isList.typeIs slot_list_getitem.lookup
   (wpAny_getItem_list_neg (Q:=λr s'=>r=w/\EP X pins σ Q r s') b.isList () (by rw[size_toArray]<;>lia) () (by rw[c];simpa using e) ⟨8,a⟩) hs
theorem bC:IxR X (Us X.K):=by
 intro value d pins s σ H x y v u Q I e f h hs;let⟨p,xs,i,z,rfl,rfl,g,k,q⟩:=h
 cases e
 let⟨t,rfl⟩:=f;let⟨n,r,a,o⟩:=I.tuple g;let⟨j,h1,h2,A,h4,B⟩:=Mb k;let⟨w,l,b⟩:=r.get h2;let m:=r.length;let C:=Ev;let c:EP X pins σ Q w s:=⟨z,H,I,b,q⟩
 exact subscriptTail_builtinR (x:=w) a.typeIs slot_tuple_getitem.lookup
  (getItem_tuple (j:=j) (Q:=λr s'=>r=w/\EP X pins σ Q r s') a () () (by rw[size_toArray,<- m];exact h1) (by simpa using l) ⟨8,c⟩) hs
theorem Ie(a:List Value)(n j:Nat)(u:Value):Obj.mapSeq (·.setIfInBounds j u) { cls:=.type "list",data:=.seq a.toArray n }={ cls:=.type "list",data:=.seq (a.set j u).toArray n }:=by
 simp[Obj.mapSeq]
theorem Inv.lst(I:Inv X pins σ H s)(h:H p=some (.lst xs)):
  ∃(a:List Value)(n:Nat),cB xs a/\s.heap.get? p=some { cls:=.type "list",data:=.seq a.toArray n }/\xs.length<=sizeLine:=by
 let⟨z,a,n,r,e⟩:=I.hok p _ h;exists a,n,r,e,z
theorem Inv.lstUpd{c its':List Value}(I:Inv X pins σ H s)(h:H p=some (.lst xs))(ho:s.heap.get? p=some { cls:=.type "list",data:=.seq c.toArray n })(d:f { cls:=.type "list",data:=.seq c.toArray n }={ cls:=.type "list",data:=.seq its'.toArray n' })(r:cB ys its')(g:ys.length<=sizeLine)(t:Nat):
  Inv X pins σ (upd H p (.lst ys)) { s with heap:=s.heap.update p f,toks:=t }:=by
 let e:(s.heap.update p f).get? p=some { cls:=.type "list",data:=.seq its'.toArray n' }:=by
  rw[Heap.get?_update_self f ho (by rw[d]<;>rfl),d]
 refine I.write (x:=p) (e:=p) (by rw[h];trivial) (.inl rfl) (λb u a q=>(Heap.get?_update_other _ _ (Ne.symm a)).trans q) ⟨_,e⟩ ?_;exists g,its',n',r,e
def qy5:V->V->V->Hp->(Hp->Prop)->Prop:=λo i v H Q=>∃p xs k j,o=.ref p/\i=.int k/\H p=some (.lst xs)/\ixN xs.length k=some j/\Q (upd H p (.lst (xs.set j v)))
theorem gY:qv6 X qy5:=by
 intro pins s σ H o i v y z u Q I g l m h;let⟨p,xs,k,j,rfl,rfl,hp,w,q⟩:=h
 cases g
 let⟨t,rfl⟩:=l;let⟨a,n,r,ho,x⟩:=I.lst hp;let⟨h1,h2,d,h4⟩:=Nd w;let b:=r.length;let A:=Ev;let e:Inv X pins σ (upd H p (.lst (xs.set j v))) { s with heap:=s.heap.update p (Obj.mapSeq (·.setIfInBounds j u)) }:=
  I.lstUpd hp ho (Ie a n j u) (r.set m j) (by rw[length_set];exact x) s.toks
 by_cases f:0<=k
 .let c:k.toNat=j:=by
   rw[seqIndex_of f h4] at h1;exact Option.some.inj h1
  exact W.ki_setAt ho f () (by rw[size_toArray,<- b];exact h4) (by rw[c];exact⟨_,e,q⟩)
 .let c:(k+(a.toArray.size:Int)).toNat=j:=by
   rw[seqIndex_neg () d] at h1;rw[size_toArray,<- b];exact Option.some.inj h1
  exact W.ki_setBack ho () (by rw[size_toArray,<- b];exact d) () (by rw[c];exact⟨_,e,q⟩)
theorem sbA(lo hi:Option Int)(n:Nat):(sliceBounds lo hi none n).1=((HT.sIx n 0 lo:Nat):Int):=by
 cases lo with
 |none=>simp[sliceBounds,HT.sIx]
 |some i=>
  simp only[sliceBounds,HT.sIx,Option.getD_none,show (1:Int) > 0 by decide,if_true]
  by_cases h:i < 0
  .simp only[h,if_true]<;>lia
  .simp only[h,if_false]<;>lia
theorem Cv(lo hi:Option Int)(n:Nat):(sliceBounds lo hi none n).1=((HT.sIx n 0 lo:Nat):Int)/\(sliceBounds lo hi none n).2.1=((HT.sIx n n hi:Nat):Int)/\(sliceBounds lo hi none n).2.2=1:=by
 exists sbA lo hi n,7,8
 cases hi with
 |none=>simp[sliceBounds,HT.sIx]
 |some i=>exact sbA (some i) lo n
theorem zJ(b:List Value)(lo hi:Option Int):slicePick b.toArray lo hi none=((b.drop (HT.sIx b.length 0 lo)).take (HT.sIx b.length b.length hi - HT.sIx b.length 0 lo)).toArray:=by
 let⟨h1,h2,a⟩:=Cv lo hi b.toArray.size;unfold slicePick;rw[h1,h2,a];simp only[sliceRange_one,pick_run,size_toArray]<;>rfl
inductive Zm(K:Frag)(x:V)(lo:Option Int)(hi:Option Int)(H:Hp)(Q:VK):Prop where
 |mk (a xs):x=.ref a->SqL K H a xs->(∀p,H p=none->Q (.ref p) (upd H p (.lst (jJ xs lo hi))))->Zm K x lo hi H Q
theorem iH:SlR X (Zm X.K):=by
 intro pins s σ H x v k l lo hi m Q I e hs f pu h;let⟨a,xs,rfl,g,q⟩:=h
 cases e
 let⟨j,r,d,i⟩:=I.list g;let c:=r.length;exists "list",_,slot_list_getitem.lookup,d.isList.typeIs,7;refine wpAny_getItem_list_slice d.isList hs f pu .none ⋯ ?_ (by rw[size_toArray]<;>lia);rw[zJ,<- c];exists .ref s.heap.objs.size,_,I.laid (t':=s.toks) (o:=.lst (jJ xs lo hi)) (λb n q=>Heap.get?_push_of_some _ q) (Nat.le_refl _) ?_,8,q _ (I.hok.fresh (Nat.le_refl _));exists Nat.le_trans (uR xs lo hi) i,_,0,(r.drop (HT.sIx xs.length 0 lo)).take (HT.sIx xs.length xs.length hi - HT.sIx xs.length 0 lo),Heap.get?_push_size _ rfl
def pP:V->Bool
 | .non=>true
 | .bl _=>true
 | .int _=>true
 | .str _=>true
 |_=>false
def eqV:V->V->Bool
 | .non,.non=>true
 | .bl a,.bl b=>a == b
 | .bl a,.int b=>(if a then 1 else 0) == b
 | .int a,.bl b=>a == (if b then 1 else 0)
 | .int a,.int b=>a == b
 | .str a,.str b=>a == b
 |_,_=>false
theorem ql8(e:cE y u)(d:cE x v)(g:pP y=true)(f:pP x=true):SeqAt.EqAt A s u v (eqV y x):=by
 cases y with
 |non=>
  cases e
  cases x with
  |non=>cases d;exact SeqAt.EqAt.same _
  |bl b=>cases d;exact SeqAt.EqAt.none_bool b
  |int b=>let⟨t,rfl⟩:=d;exact SeqAt.EqAt.none_int b t
  |str b=>let⟨t,rfl⟩:=d;exact SeqAt.EqAt.none_str b t
  |_=>exact absurd (show false=true from f) Bool.false_ne_true
 |bl a=>
  cases e
  cases x with
  |non=>cases d;exact SeqAt.EqAt.bool_none a
  |bl b=>cases d;exact SeqAt.EqAt.bool_bool a b
  |int b=>let⟨t,rfl⟩:=d;exact SeqAt.EqAt.bool_int a b t
  |str b=>let⟨t,rfl⟩:=d;exact SeqAt.EqAt.bool_str a b t
  |_=>exact absurd (show false=true from f) Bool.false_ne_true
 |int a=>
  let⟨c,rfl⟩:=e
  cases x with
  |non=>cases d;exact SeqAt.EqAt.int_none a c
  |bl b=>cases d;exact SeqAt.EqAt.int_bool a c b
  |int b=>let⟨t,rfl⟩:=d;exact SeqAt.EqAt.int_int a c b t
  |str b=>let⟨t,rfl⟩:=d;exact SeqAt.EqAt.int_str a c b t
  |_=>exact absurd (show false=true from f) Bool.false_ne_true
 |str a=>
  let⟨c,rfl⟩:=e
  cases x with
  |non=>cases d;exact SeqAt.EqAt.str_none a c
  |bl b=>cases d;exact SeqAt.EqAt.str_bool a c b
  |int b=>let⟨t,rfl⟩:=d;exact SeqAt.EqAt.str_int a c b t
  |str b=>let⟨t,rfl⟩:=d;exact SeqAt.EqAt.str_str a c b t
  |_=>exact absurd (show false=true from f) Bool.false_ne_true
 |_=>exact absurd (show false=true from g) Bool.false_ne_true
def eqU(x:V)(u:Value):Bool:=match u with
 | .none=>eqV .non x
 | .bool b=>eqV (.bl b) x
 | .int i _=>eqV (.int i) x
 | .str z _=>eqV (.str z) x
 |_=>false
theorem Wl(r:cE y u)(f:pP y=true):eqU x u=eqV y x:=by
 cases y with
 |non=>cases r;rfl
 |bl b=>cases r;rfl
 |int i=>let⟨t,rfl⟩:=r;rfl
 |str z=>let⟨t,rfl⟩:=r;rfl
 |_=>exact absurd (show false=true from f) Bool.false_ne_true
theorem Dp:∀{xs:vk}{us:List Value},cB xs us->xs.all pP=true->us.any (eqU x)=xs.any λy=>eqV y x
 |_,_,.nil,_=>rfl
 |y :: xs,u :: us,.cons r t,f=>by
  rw[all_cons,Bool.and_eq_true] at f;rw[any_cons,any_cons,Wl r f.1,Dp t f.2]
theorem yB(b:cE x v)(c:pP x=true):∀{xs:vk}{us:List Value},cB xs us->xs.all pP=true->∀u∈us,SeqAt.EqAt A s u v (eqU x u)
 |_,_,.nil,_=>λu hu=>by cases hu
 |y :: xs,u :: us,.cons r t,f=>λa hu=>by
  rw[all_cons,Bool.and_eq_true] at f;rcases mem_cons.mp hu with rfl | hu
  .rw[Wl r f.1];exact ql8 r b f.1 c
  .exact yB b c t f.2 a hu
def inV(x:V)(xs:vk):Bool:=xs.any λy=>eqV y x
inductive rIn(K:Frag)(neg:Bool)(x:V)(y:V)(H:Hp)(Q:VK):Prop where
 |mk (p xs):y=.ref p->(SqL K H p xs\/SqT K H p xs)->pP x=true->xs.all pP=true->Q (.bl (if neg then !inV x xs else inV x xs)) H->rIn K neg x y H Q
theorem Ow:OpR X (compareOp .In) (rIn X.K false):=by
 intro pins s σ H x y v u Q I d f h;let⟨p,xs,rfl,b,e,fs,q⟩:=h
 cases f
 rcases b with b | b
 .let⟨a,r,c,g⟩:=I.list b;refine SeqAt.in_listAt (eqU x) c.isList (λw hw=>yB d e r fs w (by simpa using hw)) ⟨.bl _,H,I,8,7⟩;rw[show a.toArray.any (eqU x)=a.any (eqU x) by simp,Dp r fs];exact q
 .let⟨a,r,c,g⟩:=I.tuple b;refine SeqAt.in_tupleAt (eqU x) c (λw hw=>yB d e r fs w (by simpa using hw)) ⟨.bl _,H,I,8,7⟩;rw[show a.toArray.any (eqU x)=a.any (eqU x) by simp,Dp r fs];exact q
theorem bV:jF X (.builtin "len") (λxs H Q=>∃p ys,xs=[.ref p]/\(SqL X.K H p ys\/SqT X.K H p ys)/\Q (.int ys.length) H):=by
 intro pins s σ H xs i Q I r h;let⟨p,ys,rfl,b,q⟩:=h;let⟨u,rfl,f⟩:=Be r
 cases f
 let j:=Ev;rcases b with b | b
 .let⟨e,c,d,g⟩:=I.list b;let a:=c.length;exact Calls.call_len_list d.isList (by simp only[size_toArray]<;>lia) ⟨.int ys.length,H,I.tok _,⟨s.toks+1,by rw[size_toArray,a]⟩,q⟩
 .let⟨e,c,d,g⟩:=I.tuple b;let a:=c.length;exact len_tuple d (by simp only[size_toArray]<;>lia) ⟨.int ys.length,H,I.tok _,⟨s.toks+1,by rw[size_toArray,a]⟩,q⟩
theorem fY:jF X (.type "list") (λxs H Q=>∃p ys,xs=[.ref p]/\(SqL X.K H p ys\/SqT X.K H p ys)/\∀l,H l=none->Q (.ref l) (upd H l (.lst ys))):=by
 intro pins s σ H xs y Q I r h;let⟨p,ys,rfl,f,q⟩:=h;let⟨u,rfl,x⟩:=Be r
 cases x
 let j:∀(a:List Value),cB ys a->ys.length<=sizeLine->∀(h':Heap)(c:Nat),(∀b o',s.heap.get? b=some o'->h'.get? b=some o')->
   h'.get? s.heap.objs.size=some { cls:=.type "list",dict:=none,data:=.seq a.toArray c,slots:=#[] }->EP X pins σ Q (.ref s.heap.objs.size) { s with heap:=h' }:=λa d g h' c i e=>
  ⟨.ref s.heap.objs.size,_,I.laid (t':=s.toks) i (Nat.le_refl _) (show cP X.prog X.w _ h' _ (.lst ys) from ⟨g,a,c,d,e⟩),8,q _ (I.hok.fresh (Nat.le_refl _))⟩
 rcases f with f | f
 .let⟨a,d,k,g⟩:=I.list f;let m:=d.length;let⟨o,ho,t,n,v⟩:=k.isList;exact call_list_seq p (.inl rfl) ho t v (λh' c i e=>j a d g h' c i e) (by simp only[size_toArray]<;>lia)
 .let⟨a,d,k,g⟩:=I.tuple f;let m:=d.length;let⟨o,ho,t,n,v⟩:=k;exact call_list_seq p (.inr rfl) ho t v (λh' c i e=>j a d g h' c i e) (by simp only[size_toArray]<;>lia)
theorem kC:jF X (.type "tuple") (λxs H Q=>∃p ys,xs=[.ref p]/\((SqL X.K H p ys/\∀l,H l=none->Q (.ref l) (upd H l (.tup ys)))\/(SqT X.K H p ys/\Q (.ref p) H))):=by
 intro pins s σ H xs t Q I r h;let⟨p,ys,rfl,h⟩:=h;let⟨u,rfl,j⟩:=Be r
 cases j
 rcases h with ⟨c,q⟩ | ⟨c,q⟩
 .let⟨a,d,f,g⟩:=I.list c;let k:=d.length;refine call_tuple_list f.isList (λh' m=>?_) (by simp only[size_toArray]<;>lia);let i:Inv X pins σ H { s with heap:=h' }:=I.kept (t':=s.toks) m;let n:Inv X pins σ (upd H h'.objs.size (.tup ys)) { s with heap:=h'.push { cls:=.type "tuple",data:=.seq a.toArray } }:=
   i.laid (t':=s.toks) (λb o e=>Heap.get?_push_of_some _ e) (Nat.le_refl _) (show cP X.prog X.w _ _ _ (.tup ys) from ⟨g,a,d,IsTup.new _ _⟩)
  exists .ref h'.objs.size,_,n,8,q _ (i.hok.fresh (Nat.le_refl _))
 .let⟨a,d,f,g⟩:=I.tuple c;exact call_tuple_same f ⟨.ref p,H,I,8,q⟩
def tyV(K:Frag)(T:String)(x:V)(H:Hp):Prop:=match x with
 | .str _=>T = "str"
 | .int _=>T = "int"
 | .ref p=>(T = "list"/\∃xs,SqL K H p xs)\/(T = "tuple"/\∃o,K.lookup p=some o/\o.cls=.type "tuple"/\o.dict=none)\/
   (T = "dict"/\((∃kvs,H p=some (.dK kvs))\/∃kvs,H p=some (.dT kvs)))\/(T = "set"/\∃S n,H p=some (.set S n))
 |_=>False
theorem Tl(I:Inv X pins σ H s)(r:cE x v)(ty:tyV X.K T x H):
  s.TypeIs v T/\∀a,v=.ref a->∃m,s.heap.get? a=some m/\m.dict=none:=by
 cases x with
 |str z=>
  let⟨t,rfl⟩:=r
  cases (show T = "str" from ty)
  exists typeIs_str s z t,λ_ e=>nomatch e
 |int i=>
  let⟨t,rfl⟩:=r
  cases (show T = "int" from ty)
  exists typeIs_int s i t,λ_ e=>nomatch e
 |ref p=>
  cases r
  rcases ty with ⟨rfl,xs,j⟩ | ⟨rfl,o,b,k,d⟩ | ⟨rfl,b⟩ | ⟨rfl,S,n,b⟩
  .let⟨l,_,g,_⟩:=I.list j;exists g.isList.typeIs,λa e=>?_
   cases e
   let⟨o,n,e,c,d,_⟩:=g;exists o,e,d
  .exists ⟨o,I.kIn p o b,k⟩,λa e=>?_
   cases e
   exists o,I.kIn _ o b,d
  .let z:∃o,s.heap.get? p=some o/\o.ExactDict:=by
    rcases b with ⟨h,b⟩ | ⟨h,b⟩
    .let⟨_,_,_,_,o,_,_,e,ex,_⟩:=I.hok p _ b;exists o,e,ex
    .let⟨_,_,_,_,o,_,_,e,ex,_⟩:=I.hok p _ b;exists o,e,ex
   let⟨o,e,ex⟩:=z;exists ⟨o,e,ex.1⟩,λa f=>?_
   cases f
   exists o,e,ex.2.1
  .let⟨o,_,_,_,e,ex,_⟩:=I.hok p _ b;exists ⟨o,e,ex.1⟩,λa f=>?_
   cases f
   exists o,e,ex.2.1
 |_=>exact False.elim ty
def aAv(K:Frag)(T:String)(r:V->vk->Hp->VK->Prop)(to:TE):TE:=λσ H Q=>to σ H λx H1=>tyV K T x H1/\r x [] H1 Q
def tBM(K:Frag)(T:String)(r:V->vk->Hp->VK->Prop)(to:TE)(t:TA):TE:=λσ H Q=>to σ H λx H1=>tyV K T x H1/\t σ H1 λxs H2=>r x xs H2 Q
variable {o e:Expr} {es:List Expr} {to:TE} {t:TA} {name:Str} {apos cpos:Pos} {T id:String} {r:V->vk->Hp->VK->Prop}
theorem qn5(i:PlainAttrs T)(slot:Slot T name id)(g:typeOf (.builtin id)=pure (.type "method_descriptor"))(hm:MtR X id r)(ho:PE X o to)(e:attributeBase o name X.env (eval o X.env)=eval o X.env:=by rfl)(f:(apos.endLine == cpos.line)=true:=by rfl):PE X (.Call (.Attribute o name apos) [] [] cpos) (aAv X.K T r to):=by
 intro pins s σ H Q I h;refine wpAny_Call_method0_late e f (thn (ho pins s σ H _ I h) λv c ⟨x,H1,a,b,ty,d⟩=>?_);let⟨h1,h2⟩:=Tl a b ty;exists T,id,i,slot,g,h1,h2,Calls.callWith_builtin rfl (PySem.evalArgs_none (hm pins c σ H1 x [] v [] Q a b .nil d))
theorem iS(u:PlainAttrs T)(slot:Slot T name id)(q:typeOf (.builtin id)=pure (.type "method_descriptor"))(hm:MtR X id r)(ho:PE X o to)(w:PA X (e :: es) t)(m:attributeBase o name X.env (eval o X.env)=eval o X.env:=by rfl)(p:((backTo cpos (starEach (e :: es) X.env)).all (λx=>!x.1) && (backToKw cpos (keywordEach [] X.env)).all (λx=>x.1.isSome)
   && decide ((e :: es).length+([]:List Keyword).length+(if ([]:List Keyword).isEmpty then 0 else 1) < 30))=true:=by rfl)(n:(apos.endLine == cpos.line)=true:=by rfl)(hs:starEach (e :: es) X.env=(false,eval e X.env) :: starEach es X.env:=by rfl)(l:(backTo cpos (starEach es X.env)).any (·.1)=false:=by rfl) :
  PE X (.Call (.Attribute o name apos) (e :: es) [] cpos) (tBM X.K T r to t):=by
 intro pins s σ H Q I h;refine wpAny_Call_method_late m p n rfl (thn (ho pins s σ H _ I h) λv d ⟨x,H1,a,b,ty,f⟩=>?_);let⟨h1,h2⟩:=Tl a b ty;exists T,id,u,slot,q,h1,h2,7;let c:=w cpos pins d σ H1 _ a f;rw[hs] at c ⊢;refine Calls.callWith_builtin (by show (false || (backTo cpos (starEach es X.env)).any (·.1))=false;rw[l]<;>rfl) (Calls.evalArgs_plain ?_);exact thn c λg i ⟨vs,H2,j,k,q2⟩=>hm pins i σ H2 x vs v g Q j b k q2
end
def MtM(X:Cx)(id:String)(r:V->vk->Hp->VK->Prop):Prop:=
 ∀(pins:List (Addr × Obj))(s:Shared)(σ:St)(H:Hp)(x:V)(xs:vk)(v:Value)(us:List Value)(Q:VK),Inv X pins σ H s->cE x v->cB xs us->r x xs H Q->
  zzW X (call (.builtin id) (v :: us)) (EP X pins σ Q) X.xe s
theorem cB.one:∀{x:V}{us:List Value},cB [x] us->∃u,us=[u]/\cE x u
 |_,_,.cons r .nil=>⟨9,r⟩
theorem cB.zero:∀{us:List Value},cB [] us->us=[]
 |_,.nil=>rfl
theorem cB.dropLast(h:cB xs us):cB xs.dropLast us.dropLast:=by
 induction h with
 |nil=>exact .nil
 |cons r t ih=>
  cases t with
  |nil=>exact .nil
  |cons q t'=>exact .cons r ih
theorem cB.rep(h:cB xs us):∀k:Nat,cB (replicate k xs).flatten (replicate k us).flatten
 |0=>.nil
 |k+1=>by
  rw[replicate_succ,replicate_succ,flatten_cons,flatten_cons];exact cB.append h (cB.rep h k)
theorem Kf{α:Type}(l:List α):l.eraseIdx (l.length - 1)=l.dropLast:=by
 induction l with
 |nil=>rfl
 |cons a r ih=>
  cases r with
  |nil=>rfl
  |cons b r=>
   let e:(a :: b :: r).length - 1=((b :: r).length - 1)+1:=by
    let h1:(a :: b :: r).length=r.length+2:=rfl;let h2:(b :: r).length=r.length+1:=rfl;lia
   rw[e,eraseIdx_cons_succ,ih]
   all_goals rfl
theorem Bm(b:List Value):∀(k:Nat)(c:List Value),
  foldl (λd f=>d++f) c.toArray (replicate k b.toArray)=(c++(replicate k b).flatten).toArray
 |0,c=>by simp
 |k+1,c=>by
  let e:c.toArray++b.toArray=(c++b).toArray:=by simp
  let a:(c++b)++(replicate k b).flatten=c++(replicate (k+1) b).flatten:=by
   rw[replicate_succ,flatten_cons,List.append_assoc]
  rw[<- a,<- Bm b k (c++b),<- e,replicate_succ,foldl_cons]
section
variable {X:Cx} {pins:List (Addr × Obj)} {σ:St} {H:Hp} {s:Shared} {l b:Addr} {xs ys zs:vk}
theorem Inv.lset{d its':List Value}(I:Inv X pins σ H s)(g:H l=some (.lst xs))(e:s.heap.get? l=some { cls:=.type "list",data:=.seq d.toArray n })(h:f d.toArray=its'.toArray)(i:cB ys its')(j:ys.length<=sizeLine):
  Inv X pins σ (upd H l (.lst ys)) { s with heap:=s.heap.update l (Obj.mapSeq f),toks:=t' }:=by
 let q:=PySem.IsL.update e f;rw[h] at q;refine I.write (x:=l) (e:=l) (by rw[g];exact trivial) (.inl rfl) (λc u a b=>(Heap.get?_update_other s.heap (Obj.mapSeq f) (Ne.symm a)).trans b) ⟨_,q⟩ ?_;exists j,its',_,i,q
theorem Inv.lnew(I:Inv X pins σ H s)(a:cB ys its)(b:ys.length<=sizeLine):
  Inv X pins σ (upd H s.heap.objs.size (.lst ys)) { s with heap:=s.heap.push { cls:=.type "list",data:=.seq its.toArray },toks:=t' }:=
 I.laid (λ_ _ q=>Heap.get?_push_of_some _ q) (Nat.le_refl _) ⟨b,its,0,a,Heap.get?_push_size _ rfl⟩
theorem Inv.fresh(I:Inv X pins σ H s):H s.heap.objs.size=none:=I.hok.fresh (Nat.le_refl _)
theorem Inv.lstM(I:Inv X pins σ H s)(b:H l=some (.lst xs)):xs.length<=sizeLine/\∃(a:List Value)(n:Nat),cB xs a/\xs.length=a.length/\s.heap.get? l=some { cls:=.type "list",data:=.seq a.toArray n }:=by
 let⟨z,a,n,r,e⟩:=I.hok l _ b;exists z,a,n,r,r.length,e
theorem Vo(h:n<=sizeLine):Builtin.List.listTooLong n=false:=by
 unfold Builtin.List.listTooLong;exact decide_eq_false ()
end
section
variable {X:Cx}
inductive Ng(x:V)(vs:vk)(H:Hp)(Q:VK):Prop where
 |mk (l xs y):x=.ref l->vs=[y]->H l=some (.lst xs)->xs.length < sizeLine->Q .non (upd H l (.lst (xs++[y])))->Ng x vs H Q
theorem dG:MtM X "list.append" Ng:=by
 intro pins s σ H x vs v g Q I c d h;let⟨l,xs,y,rfl,rfl,b,i,q⟩:=h
 cases c
 let⟨u,rfl,f⟩:=d.one;let⟨z,a,n,r,j,e⟩:=I.lstM b;refine call_meets F.slot_list_append ⟨_,e,8⟩ F.entry_list_append (F.args_list_append_2 _ _) (PySem.list_append l a.toArray n u (by rw[size_toArray];lia)) ⟨e,7⟩;exists .non,_,I.lset (its':=a++[u]) b e ⋯ (r.append (.cons f .nil)) ?_,8,q;rw[wq,length_singleton];lia
inductive qx0(x:V)(vs:vk)(H:Hp)(Q:VK):Prop where
 |mk (l xs y):x=.ref l->vs=[]->H l=some (.lst xs)->xs[xs.length - 1]?=some y->Q y (upd H l (.lst xs.dropLast))->qx0 x vs H Q
theorem qr6:MtM X "list.pop" qx0:=by
 intro pins s σ H x vs v o Q I f g h;let⟨l,xs,y,rfl,rfl,b,i,q⟩:=h
 cases f
 let c:=g.zero;subst c;let⟨z,a,n,r,j,e⟩:=I.lstM b;let⟨u,k,m⟩:=r.get i;let d:a.toArray[a.toArray.size - 1]?=some u:=by
  show a.toArray[a.length - 1]?=some u;rw[<- Array.getElem?_toList,<- j];exact k
 refine call_meets F.slot_list_pop ⟨_,e,8⟩ F.entry_list_pop (F.args_list_pop_1 _) (MeetsSeq.list_pop_last l a.toArray n u d (by rw[size_toArray];lia)) ⟨e,7⟩;exists y,_,I.lset (its':=a.dropLast) b e ?_ r.dropLast ?_,m,q
 .show a.toArray.eraseIdxIfInBounds (a.toArray.size - 1)=a.dropLast.toArray;rw[size_toArray,eraseIdxIfInBounds_toArray,Kf]
 .rw[length_dropLast];lia
inductive qy9(x:V)(y:V)(H:Hp)(Q:VK):Prop where
 |mk (l b xs zs):x=.ref l->y=.ref b->H l=some (.lst xs)->H b=some (.lst zs)->xs.length+zs.length<=sizeLine->(∀p,H p=none->Q (.ref p) (upd H p (.lst (xs++zs))))->qy9 x y H Q
theorem mM:OpR X (binaryOp .Add) qy9:=by
 intro pins s σ H x y v u Q I d f h;let⟨l,b,xs,zs,rfl,rfl,g,i,p,q⟩:=h
 cases d
 cases f
 let⟨z,c,n,r,t,e⟩:=I.lstM g;let⟨w,a,A,j,o,k⟩:=I.lstM i;refine PySem.P.add_list e k ?_ (by rw[size_toArray,size_toArray];lia);let m:c.toArray++a.toArray=(c++a).toArray:=by simp
 rw[m];exists .ref _,_,I.lnew (t':=s.toks) (r.append j) (by rw[wq];lia),8,q _ I.fresh
inductive qv2(x:V)(y:V)(H:Hp)(Q:VK):Prop where
 |mk (l k xs):x=.ref l->y=.int k->H l=some (.lst xs)->-(2 ^ 63)<=k->k < 2 ^ 63->xs.length*k.toNat<=sizeLine->(∀p,H p=none->Q (.ref p) (upd H p (.lst (replicate k.toNat xs).flatten)))->qv2 x y H Q
theorem Yq{α:Type}(xs:List α)(k:Nat):(replicate k xs).flatten.length=k*xs.length:=by
 induction k with
 |zero=>simp
 |succ k ih=>rw[replicate_succ,flatten_cons,wq,ih,Nat.succ_mul,Nat.add_comm]
theorem tW:OpR X (binaryOp .Mult) qv2:=by
 intro pins s σ H x y v u Q I w A h;let⟨l,k,xs,rfl,rfl,B,h1,h2,p,q⟩:=h
 cases w
 let⟨t,rfl⟩:=A;let⟨z,b,n,r,C,e⟩:=I.lstM B;let d:b.toArray.size*k.toNat<=sizeLine:=by rw[size_toArray,<- C];exact p
 let f:¬b.toArray.size*k.toNat > (2 ^ 63 - 1) / 8:=by
  have:(sizeLine:Nat)<=(2 ^ 63 - 1) / 8:=by decide
  lia
 let g:¬(!Builtin.List.listFitsIndex k)=true:=by
  rw[fitsIndex_both h1 h2];exact Bool.false_ne_true
 let c:¬Builtin.List.listTooLong (b.toArray.size*k.toNat)=true:=by
  rw[Vo d];exact Bool.false_ne_true
 let i:foldl (λj o=>j++o) #[] (replicate (if b.toArray.isEmpty=true then 0 else k.toNat) b.toArray)=(replicate k.toNat b).flatten.toArray:=by
  let D:∀m:Nat,foldl (λj o=>j++o) #[] (replicate m b.toArray)=(replicate m b).flatten.toArray:=λm=>by
   have:=Bm b m [];rw[nil_append] at this;exact this
  rw[D]
  cases b with
  |nil=>simp
  |cons a r'=>rw[if_neg ⋯]
 refine wpAny_binaryOp_repeat_ref (T:="list") (U:="int") ∅ ⟨_,e,8⟩ (λs'=>typeIs_int s' k t) noFill_list_mul F.fills_int_mul F.slot_int_rmul repeat_list F.slot_int_index.lookup
  (call_meets F.slot_int_rmul (typeIs_int s k t) F.entry_int_rmul (F.args_int_rmul_2 _ _) (int___rmul___int_list k t l b.toArray n)
   ⟨e,8,⟨_,e,8⟩,call_meets F.slot_list_mul ⟨_,e,8⟩ F.entry_list_mul (F.args_list_mul_2 _ _) (AutoListH.list___mul___list_int_3 l b.toArray n k t g f c) ⟨e,7⟩⟩)
 rw[i];exists .ref _,_,I.lnew (t':=s.toks) (r.rep k.toNat) (by rw[Yq,Nat.mul_comm];exact p),8,q _ I.fresh
end
end L2
namespace Att
open PySem PySem.W PySem.Calls PyProof.Rows
theorem uU:∀(ns:List Int)(vs:List Value),WellAll P h vs (ns.map WData.int)->IntsAre vs ns:=by
 intro ns
 induction ns with
 |nil=>
  intro vs w;rw[map_nil] at w
  cases w
  exact .nil
 |cons n ns ih=>
  intro vs w;rw[map_cons] at w
  cases w with
  |cons a b=>
   cases a
   exact .cons _ _ (ih _ b)
theorem Qd{l:OpenLaw}(m:l.most=some n)(j:l.row.toRowW.claim.pre args=true)(k:WellAll P h vals args):
  ∃a vs ns,vals=[Value.ref a]/\args=[WData.list (ns.map WData.int)]/\h.get? a=some { cls:=.type "list",data:=.seq vs.toArray }/\IntsAre vs ns/\ns.length<=n:=by
 let e:WShape.hasAll [] args [.list .int]=true:=(pre_splitW j).1;let f:l.pre.holds [] { args:=args }=true:=(pre_splitW j).2;let⟨d,r,rfl,h1,h2⟩:=hasAllW_cons e;obtain rfl:=hasAllW_nil h2;let⟨xs,rfl,g⟩:=hasW_list h1;let⟨ns,rfl⟩:=items_int g;let c:ns.length<=n:=by
  unfold OpenLaw.pre at f;let h4:(WTm.not (.lt (.lit (.int (n:Int))) (.len (.arg 0)))).holds [] { args:=[.list (ns.map .int)] }=true:=by
   let h4:=(holds_andW f).1;rw[m] at h4;exact h4
  let b:=condW_of h4 (w_not (w_lt w_lit (w_len_list (w_arg rfl))));rw[length_map] at b;refine Nat.le_of_not_lt λq=>?_;let i:(n:Int) < ((ns.length:Nat):Int):=by lia
  first
   | (rw[decide_eq_true i] at b;exact absurd b ∅)
   | (simp at b;lia)
 cases k with
 |cons w1 w2=>
  cases w2
  cases w1 with
  |list ho hall=>exact⟨_,_,ns,8,8,ho,uU ns _ hall,c⟩
theorem Pp(l:OpenLaw)(args:List WData):l.row.toRowW.claim.post args (.bool true) args=true:=
 postW_of (r:=l.row.toRowW) (X:=(true == true))
  (show WShape.has [] (.bool true) .bool=true by first | rfl | decide | simp[WShape.has,WShape.arms,WShape.armsAll])
  (show (WTm.eq .res (.lit (.bool true))).value [] { args:=args,res:=some (.bool true),after:=args }=some (.bool (true == true)) from w_eq_bool (w_res rfl) w_lit) rfl
theorem attach_call{l:OpenLaw}(L:l.most=some n)(K:d.params.defaults=[])(call:∀(w:World)(H C:Shared)(mg I:Str->Option Value)(D:Addr)(o:Obj)(J F E:Value)(a:Addr)(vs:List Value)(ns:List Int),
   Ground q loose [] XP w H mg I C.heap->YP w C.heap->
   C.heap.get? D=some o->o.data=.func (docDef d.name d.params d.body d.scope J F E)->C.heap.CodeRec F d.name->mg d.name=some (.ref D)->
   C.heap.get? a=some { cls:=.type "list",data:=.seq vs.toArray }->IntsAre vs ns->ns.length<=n->C.gens=#[]->
   codeAny (model l.prog w) callerA (.call (.ref D) ⟨[.ref a],[]⟩) (λr s'=>r=.ok (.ret (.bool true))/\OldK C.heap s'.heap/\s'.os=C.os/\AllBare s'.gens) C):
  WalkO q loose XP YP l.row.toRowW d [] (λf vs=>PySem.call f vs):=by
 intro w H C mg I G Y D o J F E dV kV ho m h i j p t u B c v z k A;obtain rfl:dV=.none:=Dflts.none i K;obtain rfl:kV=.none:=Dflts.noKw i;let⟨a,vs,ns,rfl,rfl,e,b,g⟩:=Qd L c k;refine enter_call (codeAny_mono (call w H C mg I D o J F E a vs ns G Y ho (fd_plain m) h j e b g p) λr s' x=>?_);let⟨rfl,h2,y,h4⟩:=x;exists .inl ⟨.bool true,.bool true,[],8,λ_=>rfl,.bool true,Pp l _,λ_=>⟨Pairwise.nil,λ_ hm=>(nomatch hm)⟩⟩,h2,y,h4
end Att
namespace L2
open PySem PySem.Spec PyProof.Rows
theorem Bh:∀{vs:List Value}{ns:List Int},IntsAre vs ns->cB (ns.map V.int) vs
 |_,_,.nil=>.nil
 |_,_,.cons n t h=>.cons ⟨t,8⟩ (Bh h)
def qj0(H:Hp):Prop:=∀b,H b=none\/∃o xs,H b=some (.frz o (.lst xs))
theorem Sa{K:Frag}(KX:K.In s₁.heap)(Y:s₁.heap.Ns mainGlobals mg)(U:s₁.heap.Ns builtinsNs mb)(a0:∀x:Str,x≠"__name__"->mb x=bootBuiltins x)(Z:s₁.heap.NoLimit)(hg:s₁.gens=#[])(W:s₁.heap.get? a=some { cls:=.type "list",data:=.seq vs.toArray })(hi:IntsAre vs ns)(hl:ns.length<=sizeLine)(hr:hV k callerA)(F:∀base:Heap,K.In base->base.Ns mainGlobals mg->aK P w K mg base CX k fa fd [x] sp)(X:∀(s:Shared)(u:Value),BindsTo s fd ⟨[u],[]⟩ [(x,u)])(a1:∀H:Hp,qj0 H->SqL K H a (ns.map V.int)->sp [.ref a] H (λv _=>v=.bl true) λ_ _ _=>False)(a2:∀H e s',CX [] H s₁ (λ_ _ _=>False) e s'->False):
  codeAny (model P w) callerA (.call (.ref fa) ⟨[.ref a],[]⟩) (λr s'=>r=.ok (.ret (.bool true))/\OldK s₁.heap s'.heap/\s'.os=s₁.os/\AllBare s'.gens) s₁:=by
 let C:=Bh hi;let t:=hi.length;let g:∀H:Hp,qj0 H->SqL K H a (ns.map V.int)->HOk P w H s₁.heap->(∀b,H b≠none->b=a)->(H a≠none->K.lookup a=none)->
   codeAny (model P w) callerA (.call (.ref fa) ⟨[.ref a],[]⟩) (λr s'=>r=.ok (.ret (.bool true))/\OldK s₁.heap s'.heap/\s'.os=s₁.os/\AllBare s'.gens) s₁:=by
  intro H D J l E L;let c:∀{b:Addr}{o:Obj},s₁.heap.get? b=some o->H b=none->(Ex s₁.heap H).get? b=some o:=λe n=>Vf e n;let G:∀{b:Addr}{o:Obj}{es:Array DictEntry}{i:Nat},s₁.heap.get? b=some o->o.data=.dict es i->H b=none:=λ{b o es i} e d=>by
   cases q:H b with
   |none=>rfl
   |some u=>
    let y:b=a:=E b (by rw[q];simp);subst y;rw[W] at e;cases e;let M:Data.seq vs.toArray _=Data.dict es i:=d
    cases M
  let f:∀{b:Addr}{m:Str->Option Value},s₁.heap.Ns b m->(Ex s₁.heap H).Ns b m:=λ{b m} ⟨o,es,i,e,d,r⟩=>⟨o,es,i,c e (G e d),d,r⟩
  let p:K.In (Ex s₁.heap H):=λb o e=>c (KX b o e) (by
   cases q:H b with
   |none=>rfl
   |some u=>
    let y:b=a:=E b (by rw[q];simp);subst y;rw[L (by rw[q];simp)] at e;cases e)
  let hM:Mod K mg (Ex s₁.heap H):=⟨p,f Y,⟨mb,f U,a0⟩,let ⟨mc,h1,h2⟩:=Z;⟨mc,f h1,h2⟩⟩
  let N:Ig P w K mg (Ex s₁.heap H) callerA [] s₁ H:=⟨8,hM,λb o e=>qd6 e,Nat.le_of_eq (On _ _),trivial,λb U=>absurd (show b∈([]:List Addr) from U) ⋯,l,.of_eq hg⟩
  refine codeAny_mono ((F _ p (f Y)).run callerA [] s₁ H ⟨[.ref a],[]⟩ [.ref a] [.ref a] _ _ hr N (X s₁ (.ref a)) (.cons rfl .nil) (a1 H D J)) λr s' h=>?_
  cases r with
  |error e=>exact(a2 H e s' h).elim
  |ok fl=>
   cases fl with
   |next=>exact False.elim h
   |brk=>exact False.elim h
   |cont=>exact False.elim h
   |ret u=>
    let⟨v,H',os,A,un,B,O,q⟩:=h;let Q:v=.bl true:=q;subst Q;obtain rfl:u=Value.bool true:=O;exists 8,OldK.of_keep λb o e=>?_,os,A
    cases q:H b with
    |none=>exact un.keep b o e q (by intro z;exact absurd (show b∈([]:List Addr) from z) ⋯) ⋯
    |some u=>
     rcases D b with z | ⟨R,xs,z⟩
     .rw[q] at z;cases z
     .let S:=un.frzs b R _ z;let⟨I,_⟩:=l b _ z;let⟨T,_⟩:=B b _ S;rw[e] at I;cases I;exact T
 cases hk:K.lookup a with
 |some o=>
  let e:=KX a o hk;rw[W] at e
  cases e
  refine g (λ_=>none) (λ_=>.inl rfl) (.inr ⟨_,vs.toArray,_,hk,8,8,8,by rw[size_toArray,t];exact hl,by simpa using C⟩) (λb u z=>by let j:(none:Option HO)=some u:=z;cases j) (λb z=>absurd rfl z) λz=>absurd rfl z
 |none=>
  refine g (λb=>if b=a then some (.frz { cls:=.type "list",data:=.seq vs.toArray } (.lst (ns.map V.int))) else none) (λb=>?_) (.inl (.inr ⟨{ cls:=.type "list",data:=.seq vs.toArray },if_pos rfl⟩)) (λb u z=>?_) (λb z=>?_) λ_=>hk
  .by_cases U:b=a
   .exact .inr ⟨_,_,if_pos U⟩
   .exact .inl (if_neg U)
  .by_cases U:b=a
   .let j:=(if_pos U).symm.trans z
    cases j
    subst U;exists W,by rw[length_map];exact hl,vs,_,C,W
   .let j:=(if_neg U).symm.trans z
    cases j
  .by_cases U:b=a
   .exact U
   .exact absurd (if_neg U) z
abbrev KOf{K:Frag}{h:Heap}(_:K.In h):Frag:=K
theorem Zi{l:W.OpenLaw}{XP:(Str->Option Value)->Heap->Prop}{K:Params->Frag}{CX:World->CXT}{sp:World->Sp}(S:l.most=some n)(O:n<=sizeLine)(P:d.params.defaults=[])(U:hV k callerA)(X:∀(w:World)(h:Heap),YP w h->(K w.params).In h)(F:∀(w:World)(mg:Str->Option Value)(N:Addr)(h:Heap),(K w.params).In h->h.Ns mainGlobals mg->mg d.name=some (.ref N)->
   ∃fd:FuncData,(∀(s:Shared)(u:Value),BindsTo s fd ⟨[u],[]⟩ [(x,u)])/\
    ∀base:Heap,(K w.params).In base->base.Ns mainGlobals mg->aK l.prog w (K w.params) mg base (CX w) k N fd [x] (sp w))(Q:∀(w:World)(H:Hp)(a:Addr)(ns:List Int),ns.length<=n->qj0 H->SqL (K w.params) H a (ns.map V.int)->sp w [.ref a] H (λv _=>v=.bl true) λ_ _ _=>False)(R:∀(w:World)(H:Hp)(s:Shared)(e:Value)(s':Shared),CX w [] H s (λ_ _ _=>False) e s'->False):
  W.WalkO q loose XP YP l.row.toRowW d [] (λf vs=>PySem.call f vs):=by
 refine Att.attach_call S P λw E r mg I N o J L C a vs ns G Y ho M D m j i c t=>?_;let p:=X w _ Y;let⟨fd,y,z⟩:=F w mg N _ p G.T.g m;exact Sa p G.T.g G.T.b G.T.builtins G.T.nolimit t j i (Nat.le_trans c O) U z y (λH A B=>Q w H a ns c A B) λH e s'=>R w H r e s'
def dI(s:Stmt)(j:Nat):Stmt:=match s with
 | .ClassDef _ _ _ body _ _ _ _ _ _ _=>body.getD j (.Pass ⟨0,0,0,0⟩)
 |_=>.Pass ⟨0,0,0,0⟩
def fC(s:Stmt):Arguments:=match s with
 | .FunctionDef _ a _ _ _ _ _ _ _ _=>a
 |_=>{ posonlyargs:=[],args:=[],vararg:=none,kwonlyargs:=[],kw_defaults:=[],kwarg:=none,defaults:=[] }
def dA(s:Stmt):List Stmt:=match s with
 | .FunctionDef _ _ b _ _ _ _ _ _ _=>b
 |_=>[]
def aI(s:Stmt):Scope:=match s with
 | .FunctionDef _ _ _ _ _ _ sc _ _ _=>sc
 |_=>{ kind:=.function,names:=[],isGenerator:=false,isCoroutine:=false }
abbrev CX0:CXT:=λ_ _ _ _ _ _=>False
abbrev E0:XK:=λ_ _ _=>False
theorem aM:kB CX0 X E0:=λ_ _ _ _ _ _ _ h=>h.elim
theorem Gi(a:hV k A):A.units+1 < cLine:=Nat.lt_of_le_of_lt (Nat.add_le_add_left (by decide:1<=64) _) a.units
theorem aZ(h:n<=1000):n < sizeLine:=Nat.lt_of_le_of_lt h ∅
section
variable {X:Cx}
theorem pv(i:Nat)(a:X.N[i]?=some x:=by rfl)(b:Vis X.env.scope x:=by first | exact Or.inl rfl | exact Or.inr (Or.inl rfl) | exact Or.inr (Or.inr rfl))(c:(x == ("__debug__":Str))=false:=by decide)(hcd:(x == ("__classdict__":Str))=false:=by decide):PE X (.Name x pos) (Oh i):=Uq a b c hcd
end
theorem gB{A B:Prop}(h:B):if false=true then A else B:=by
 rw[if_neg Bool.false_ne_true];exact h
theorem fZ{A B:Prop}(h:A):if true=true then A else B:=by
 rw[if_pos rfl];exact h
theorem rF{c A B:Prop}[Decidable c](h1:c->A)(h2:¬c->B):if c then A else B:=by
 by_cases h:c
 .rw[if_pos h];exact h1 h
 .rw[if_neg h];exact h2 h
def aS(H H':Hp):Prop:=∀b o,H b=some o->H' b=some o
theorem aS.refl(H:Hp):aS H H:=λ_ _ h=>h
theorem aS.trans(a:aS H H1)(b:aS H1 H2):aS H H2:=λc o h=>b c o (a c o h)
theorem aS.free(e:aS H H')(h:H' l=Option.none):H l=Option.none:=by
 cases q:H l with
 |none=>rfl
 |some o=>
  rw[e l o q] at h
  cases h
theorem aS.seq{K:Frag}(e:aS H H')(h:SqL K H a xs):SqL K H' a xs:=by
 rcases h with (h | ⟨o,h⟩) | h
 .exact .inl (.inl (e _ _ h))
 .exact .inl (.inr ⟨o,e _ _ h⟩)
 .exact .inr h
section
variable {X:Cx}
def Bt(n:Nat)(i:Int):Prop:=i.natAbs < 2 ^ n
theorem xY(h:Bt n i):Builtin.Int.intBits i<=n:=by
 unfold Builtin.Int.intBits;split
 .exact Nat.zero_le _
 .rename_i h0
  let hp:i.natAbs≠0:=by
   intro z;apply h0;simp at z ⊢;exact z
  have:i.natAbs.log2 < n:=(Nat.log2_lt hp).mpr h;lia
def Xi(i j:Int):Prop:=∃n m,Bt n i/\Bt m j/\n<=1048576/\m<=1048576
theorem Xi.ok(h:Xi i j):IntMulOk i j:=by
 let⟨n,m,h1,h2,a,h4⟩:=h;let e:(2:Nat) ^ 20=1048576:=by decide
 exact IntMulOk.of_bits (by have:=xY h1;lia) (by have:=xY h2;lia)
theorem cV:OpR X (binaryOp .Mult) (rI Xi λi j=>.int (i*j)):=opI λ_ _ _ _ _ _ _ a q=>mul_int q a.ok
def Nz(i j:Int):Prop:=j≠0/\∃n,Bt n j/\n<=9000
theorem Nz.ok(h:Nz i j):Builtin.divisionGoesByPylong i j=false:=by
 let⟨a,n,h1,h2⟩:=h;refine PyProof.noPylong_of_log2 ?_;let hp:j.natAbs≠0:=by lia
 have:j.natAbs.log2 < n:=(Nat.log2_lt hp).mpr h1;lia
theorem jN:OpR X (binaryOp .FloorDiv) (rI Nz λi j=>.int (i.fdiv j)):=opI λ_ _ _ _ _ _ _ a q=>floordiv_int a.1 q (.inl a.ok)
mutual
inductive qV(K:Frag)(H:Hp):V->PyData->Prop where
 |non:qV K H .non .none
 |bl (b:Bool):qV K H (.bl b) (.bool b)
 |int (i:Int):qV K H (.int i) (.int i)
 |str (x:Str):qV K H (.str x) (.str x)
 |lst {a:Addr} {xs:vk} {ds:List PyData} (h:SqL K H a xs) (q:zQ K H xs ds):qV K H (.ref a) (.list ds)
 |tup {a:Addr} {xs:vk} {ds:List PyData} (h:SqT K H a xs) (q:zQ K H xs ds):qV K H (.ref a) (.tuple ds)
inductive zQ(K:Frag)(H:Hp):vk->List PyData->Prop where
 |nil:zQ K H [] []
 |cons {x:V} {d:PyData} {xs:vk} {ds:List PyData} (p:qV K H x d) (q:zQ K H xs ds):zQ K H (x :: xs) (d :: ds)
end
theorem mC{H:Hp}(I:Inv X pins σ H s):∀{x:V}{d:PyData},qV X.K H x d->∀{u:Value},cE x u->∃as,Reads s.heap u d as:=by
 intro x d h
 induction h using qV.rec (motive_2:=λxs ds _=>∀{us:List Value},cB xs us->∃as,ReadsAll s.heap us ds as) with
 |non=>intro u r;cases (show u=Value.none from r);exists _,.none
 |bl b=>intro u r;cases (show u=Value.bool b from r);exists _,.bool b
 |int i=>intro u r;let⟨t,rfl⟩:=(show ∃t,u=Value.int i t from r);exists _,.int i t
 |str y=>intro u r;let⟨t,rfl⟩:=(show ∃t,u=Value.str y t from r);exists _,.str y t
 |lst h q ih=>
  intro u r
  cases (show u=Value.ref _ from r)
  let⟨g,a,c,_⟩:=I.list h;let⟨as,e⟩:=ih a;let⟨o,h1,h2,n,f⟩:=c.isList;exists _,.list h1 h2 f (by simpa using e)
 |tup h q ih=>
  intro u r
  cases (show u=Value.ref _ from r)
  let⟨g,a,c,_⟩:=I.tuple h;let⟨as,e⟩:=ih a;let⟨o,h1,h2,n,f⟩:=c;exists _,.tuple h1 h2 f (by simpa using e)
 |nil=>rename_i us r;cases r;exists _,.nil
 |cons p q ih1 ih2=>
  rename_i us r
  cases r with
  |cons r1 r2=>
   let⟨as,h1⟩:=ih1 r1;let⟨bs,h2⟩:=ih2 r2;exists _,.cons h1 h2
inductive zA(K:Frag)(neg:Bool)(x:V)(y:V)(H:Hp)(Q:VK):Prop where
 |mk (d e):qV K H x d->qV K H y e->d.canLay0=true->e.canLay0=true->min d.depth e.depth<=16->Q (.bl (if neg then !PyData.eqv d e else PyData.eqv d e)) H->zA K neg x y H Q
theorem oK(j:X.A.units+64 < cLine):OpR X (compareOp .Eq) (zA X.K false):=by
 intro pins s σ H x y v u Q I a b h;let⟨d,e,h1,h2,c1,c,hm,q⟩:=h;let⟨i,f⟩:=mC I h1 a;let⟨bs,g⟩:=mC I h2 b;exact PySem.SeqAt.compareEq_reads f g c1 c () ⟨.bl (PyData.eqv d e),H,I,8,q⟩
theorem Rx(j:X.A.units+64 < cLine):OpR X (compareOp .NotEq) (zA X.K true):=by
 intro pins s σ H x y v u Q I a b h;let⟨d,e,h1,h2,c1,c,hm,q⟩:=h;let⟨i,f⟩:=mC I h1 a;let⟨bs,g⟩:=mC I h2 b;exact PySem.SeqAt.compareNe_reads f g c1 c () ⟨.bl (!PyData.eqv d e),H,I,8,q⟩
end
section
variable {prog:Program} {w:World} {A:Around} {R:Result->Shared->Prop} {s:Shared}
abbrev qf8(ifs:List Expr)(env:Env):Sem Bool:=forIn ifs true λc r=>if r=true then do let ok <- isTrue c env (eval c env);pure (ForInStep.yield ok) else pure (ForInStep.yield r)
theorem Ot{elt i iter:Expr}(I:Nat->Shared->Prop)(j:∀n s,I n s->wpAny (model prog w) A (pyNext it) (λr k=>match r with
   |none=>R (.ok .next) k
   |some v=>wpAny (model prog w) A (letOwnedTupleGo i it v) (λ_ o=>wpAny (model prog w) A (assign i env v) (λ_ p=>
     wpAny (model prog w) A (qf8 ifs env) (λok l=>
      if ok=true then wpAny (model prog w) A (eval elt env) (λx q=>
       wpAny (model prog w) A (call (.builtin "list.append") [acc,x]) (λ_ t=>∃m,m < n/\I m t) (λ_ _=>False) q) (λ_ _=>False) l
      else ∃m,m < n/\I m l) (λ_ _=>False) p) (λ_ _=>False) o) (λ_ _=>False) k) (λ_ _=>False) s)(n:Nat)(h:I n s):
  codeAny (model prog w) A (.compLoop (.ListComp elt [⟨i,iter,ifs,0⟩] scope pos) 0 it acc env) R s:=by
 refine codeAny_loop rfl I (λn s c=>?_) n h;show wpAny _ A ((compTurn (.ListComp elt [⟨i,iter,ifs,0⟩] scope pos) 0 it acc env).onRaise (λx=>do noteFrame x env;theTreesLotGoes x)) _ _ s;refine wpAny_noted ?_;rw[compTurn_list];refine wpAny_bind (wpAny_standAt (wpAny_bind (wpAny_mono (j n s c) (λr k b=>?_) λ_ _ z=>z.elim)))
 cases r with
 |none=>exact wpAny_pure b
 |some v=>
  refine wpAny_bind (wpAny_mono b (λ_ o d=>?_) λ_ _ z=>z.elim);refine wpAny_bind (wpAny_mono d (λ_ p e=>wpAny_bind (wpAny_mono e (λok l a=>?_) λ_ _ z=>z.elim)) λ_ _ z=>z.elim)
  cases ok with
  |false=>exact wpAny_pure ⟨8,a⟩
  |true=>
   rw[if_pos rfl] at a;show wpAny _ _ ((do let _ <- call (.builtin "list.append") [acc,<- eval elt env]) >>= λ_=>again (.compLoop (.ListComp elt [⟨i,iter,ifs,0⟩] scope pos) 0 it acc env)) _ _ _;exact wpAny_bind (wpAny_bind (wpAny_mono a (λx q f=>wpAny_bind (wpAny_mono f (λ_ t g=>wpAny_pure (wpAny_pure ⟨8,g⟩)) λ_ _ z=>z.elim)) λ_ _ z=>z.elim))
end
structure El(X:Cx)(scope:Scope)(cl:List (Str × Addr))(Nc:List Str)(nl:Nat)(fr:List Nat):Prop where
 clos:closureFor scope X.env=pure cl
 kind:scope.kind=.function
 names:∀y∈scope.names,y.2=.local->scope.names.lookup y.1=some .local
 cell:∀y∈scope.names,y.2≠.cell
 sub:∀x c,cl.lookup x=some c->X.env.cells.lookup x=some c
 has:∀x,(relabel scope X.env).names.lookup x=some .cell\/(relabel scope X.env).names.lookup x=some .free->∃c,cl.lookup x=some c
 len:Nc.length=nl+fr.length
 tail:∀i n,Nc[nl+i]?=some n->∃j,fr[i]?=some j/\X.N[j]?=some n/\X.env.kindOf n=some .cell/\cl.lookup n=X.env.cells.lookup n/\((relabel scope X.env).names.lookup n=some .cell\/(relabel scope X.env).names.lookup n=some .free)
abbrev gF(X:Cx)(scope:Scope)(cl:List (Str × Addr))(Nc:List Str)(C:Addr)(s3:Shared)(H3:Hp)(fp:List Addr)(pins:List (Addr × Obj)):Cx:=
 { X with N:=Nc,s₀:=s3,H₀:=H3,env:=compEnvC scope cl C X.env,outer:=X.stack,ex:=fp,fn:=λ_=>false,pn:=X.pn++pins,xe:=λ_ _=>False }
def σC(nl:Nat)(fr:List Nat)(σ:St):St:=replicate nl none++fr.map λj=>(σ[j]?).join
abbrev PIf(X:Cx)(ifs:List Expr)(t:TT):Prop:=
 ∀(pins:List (Addr × Obj))(s:Shared)(σ:St)(H:Hp)(Q:Bool->Hp->Prop),Inv X pins σ H s->t σ H Q->zzW X (qf8 ifs X.env) (TP X pins σ Q) X.xe s
theorem eU:PIf X [] (λ_ H Q=>Q true H):=λ_ _ _ H _ I h=>wpAny_pure ⟨H,I,h⟩
theorem lV(h:PT X c t):PIf X [c] t:=λpins s σ H Q I q=>wpAny_tests_one (h pins s σ H Q I q)
section
variable {X:Cx} {scope:Scope} {cl:List (Str × Addr)} {Nc:List Str} {nl:Nat} {fr:List Nat} {pins:List (Addr × Obj)} {σ:St} {H3:Hp} {s3:Shared} {fp:List Addr} {h4:Heap} {tk:Nat}
theorem Ia(Z:El X scope cl Nc nl fr)(I:Inv X pins σ H3 s3)(hf:∀b∈fp,pI X pins H3 b)(a0:∀b∈fp,b < s3.heap.objs.size)(a1:h4.Ns s3.heap.objs.size λ_=>none)(hk:∀b o,s3.heap.get? b=some o->h4.get? b=some o) :
  Inv (gF X scope cl Nc s3.heap.objs.size s3 H3 fp pins) [] (σC nl fr σ) H3 { s3 with heap:=h4,toks:=tk }:=by
 let E:∀b∈frs X.stack,b∈X.env.locals :: X.fs:=I.stkSub;let h:∀b,b≠X.env.locals->b∉X.fs->b∉frs X.stack:=λb h1 h2 z=>(mem_cons.mp (E b z)).elim h1 h2;let V:∀x c,cl.lookup x=some c->c < s3.heap.objs.size:=λx c e=>by
  let⟨v,z⟩:=I.cell x c (Z.sub x c e);exact z.lt
 refine⟨⟨I.ok.mod,Z.kind,I.ok.glob,I.ok.blt,Nat.le_refl _,λx y c h1 h2=>I.ok.inj x y c (Z.sub x c h1) (Z.sub y c h2),λx L=>Z.has x L,λx c M=>Bool.noConfusion M,I.ok.hd,I.ok.frames,.inl rfl,λb g=>?_,I.bs,Nat.le_trans I.ok.bsz I.sz,λb o e g=>?_,λb g=>?_,I.stack,I.stkFree⟩,
  rfl,I.bare,Un.kept hk,⟨_,a1,λi x v h1 h2 W=>?_⟩,λx c e=>?_,I.hok.fresh (Nat.le_refl _),λx c e=>I.freeC x c (Z.sub x c e),λp hp=>?_,I.hok.kept hk,?_⟩
 .let⟨F,s,t,w,A,G⟩:=hf b g;exists Nat.ne_of_lt (a0 b g),λx c e=>A x c (Z.sub x c e)
 .let⟨F,s,t,w,A,G⟩:=hf b g;rcases w with z | z
  .exact I.ok.noex b o e z
  .exact absurd (Nat.lt_of_lt_of_le (Heap.lt_size e) (Nat.le_trans I.ok.bsz z)) (Nat.lt_irrefl _)
 .let⟨F,s,t,w,A,G⟩:=hf b g;exact h b s t
 .-- a name's value
  unfold σC at h2
  by_cases hi:i < nl
  .rw[getElem?_append_left (by simpa using hi),getElem?_replicate] at h2;split at h2<;>cases h2
  .let H:nl<=i:=by lia
   rw[getElem?_append_right (by simpa using H),length_replicate,getElem?_map] at h2;obtain⟨k,rfl⟩:∃k,i=nl+k:=⟨i - nl,6⟩
   let⟨j,N,O,J,P,Q⟩:=Z.tail k x h1;rw[Nat.add_sub_cancel_left,N] at h2;let f:(σ[j]?).join=some v:=by simpa using h2
   let B:σ[j]?=some (some v):=by
    cases q:σ[j]? with
    |none=>rw[q] at f;cases f
    |some z=>rw[q] at f;exact congrArg some f
   let⟨m,Y,R⟩:=I.loc;let⟨u,r,l⟩:=R j x v O B (.inr (.inl J));exists u,r,7;rcases l with ⟨k1,_⟩ | ⟨k1,c,S,z⟩
   .rw[J] at k1;cases k1
   .let⟨o,ho,D⟩:=z;exact .inr ⟨Q,c,by show cl.lookup x=some c;rw[P];exact S,o,hk _ _ ho,D⟩
 .let⟨v,o,ho,D⟩:=I.cell x c (Z.sub x c e);exists v,o,hk _ _ ho,D
 .let K:p∈X.pn++pins:=by simpa using hp
  let⟨e,n,T,U,d⟩:=I.pin p K;exists hk _ _ e,n,Nat.ne_of_lt (Heap.lt_size e),h _ T U,d
 .unfold σC;show _=Nc.length;rw[wq,length_replicate,length_map,Z.len]
theorem Rf(I:Inv X pins σ H3 s3)(h:∀b∈fp,pI X pins H3 b)(J:Inv (gF X scope cl Nc s3.heap.objs.size s3 H3 fp pins) pins' i H' s'):Inv X pins σ H' s'/\pI X pins H' s3.heap.objs.size:=by
 exists I.call' (ch:=fp) J.os J.base J.hok J.bare λb a=>?_,I.fpOk (Nat.le_refl _) J.free;let⟨f,c,g,d,e,f5⟩:=h b a;exists d,c,e,f5
theorem Inv.off(I:Inv X pins σ H s)(f:pI X pins H b)(hs:Heap.SameBut b s.heap h'):Inv X pins σ H { s with heap:=h' }:=by
 let⟨a,d,j,g,h,f5⟩:=f;exact I.turned (t':=s.toks) (it:=b) (λc o i e=>(hs.2 c i).trans e) a d g h f5
end
def wK(J:It)(nl:Nat)(fr:List Nat)(g:TG)(tt:TT)(te:TE)(σ:St)(D:Addr)(H1:Hp)(Q:VK):Prop:=
 ∃W:Nat->Nat->vk->Hp->Prop,(∃m,W 0 m [] (upd H1 D (.lst [])))/\∀i m ys H2,W i m ys H2->H2 D=some (.lst ys)/\
  ((J.stop i H2/\Q (.ref D) H2)\/(J.go i H2/\∀x H3,J.yld i H2 x H3->g x (σC nl fr σ) H3 λσ2 H4=>σ2.length=(σC nl fr σ).length/\(∀(i:Nat) v,(σC nl fr σ)[i]?=some (some v)->σ2[i]?=some (some v))/\
   tt σ2 H4 λb H5=>if b=true then te σ2 H5 λy H6=>H6 D=some (.lst ys)/\ys.length < sizeLine/\∃m',m' < m/\W (i+1) m' (ys++[y]) (upd H6 D (.lst (ys++[y])))
    else ∃m',m' < m/\W (i+1) m' ys H5))
def Wn(wi:TI)(nl:Nat)(fr:List Nat)(g:TG)(tt:TT)(te:TE):TE:=λσ H Q=>wi σ H λJ H1=>∀D,H1 D=none->wK J nl fr g tt te σ D H1 Q
section
variable {X:Cx} {scope:Scope} {cl:List (Str × Addr)} {Nc:List Str} {nl:Nat} {fr:List Nat} {elt tg iter:Expr} {ifs:List Expr} {pos:Pos} {wi:TI} {g:TG} {tt:TT} {te:TE}
theorem Gq(hc:X.calm=true)(ck:El X scope cl Nc nl fr)(hi:PI X tg iter wi)(hg:∀C s3 H3 fp pins,PG (gF X scope cl Nc C s3 H3 fp pins) tg g)(ht:∀C s3 H3 fp pins,PIf (gF X scope cl Nc C s3 H3 fp pins) ifs tt)(he:∀C s3 H3 fp pins,PE (gF X scope cl Nc C s3 H3 fp pins) elt te)(I:Inv X pins σ H s)(h:Wn wi nl fr g tt te σ H Q){RR:Value->Addr->Result->Shared->Prop}(an:∀D C s',(∃H',(∃m,s'.heap.Ns C m)/\Inv X pins σ H' s'/\pI X pins H' C/\Q (.ref D) H')->RR (.ref D) C (.ok .next) s'):
  zzW X (eval iter X.env) (λx ao=>zzW X (pyIter x) (λit ap=>zzW X (newList []) (λam aq=>
   zzW X (newFunctionEnv scope X.env.globals cl [] X.env.qual none .none (some X.env)) (λal ar=>
    codeAny (model X.prog X.w) X.A (.compStart (.ListComp elt [⟨tg,iter,ifs,0⟩] scope pos) 0 it am { al with scope:=relabel scope X.env }) (RR am al.locals) ar) X.xe aq) X.xe ap) X.xe ao) X.xe s:=by
 refine thn (hi pins s σ H _ I h) λv s1 h1=>thn h1 λah a h2=>?_;let⟨it,fp,tn,J,H2,e,I2,T,P,f2,hD⟩:=h2;subst e;let a6:H2 a.heap.objs.size=none:=I2.hok.fresh (Nat.le_refl _);let⟨W,⟨m0,w0⟩,a0⟩:=hD a.heap.objs.size a6;refine wpAny_newObj_type (wpAny_newFunctionEnv ck.cell (by intro y hy;simp at hy) (λh4 q t=>?_) ck.kind);dsimp only at q t ⊢;let I3:Inv X pins σ (upd H2 a.heap.objs.size (.lst [])) { a with heap:=a.heap.push { cls:=.type "list",dict:=none,data:=.seq ([]:List Value).toArray } }:=
  I2.laid (t':=a.toks) (λb u e=>Heap.get?_push_of_some _ e) (Nat.le_refl _) ⟨Nat.zero_le _,[],0,.nil,Heap.get?_push_size _ rfl⟩
 let R:∀b∈fp,b < a.heap.objs.size:=λb f=>by
  let⟨o,e,_⟩:=T.obj 0 _ P b f;exact Heap.lt_size e
 let K:∀b∈fp,pI X pins (upd H2 a.heap.objs.size (.lst [])) b:=λb f=>⟨by rw[aQ (Nat.ne_of_lt (R b f))];exact(f2 b f).1,(f2 b f).2⟩
 generalize hH3:upd H2 a.heap.objs.size (.lst [])=H3 at *
 generalize hs3:({ a with heap:=a.heap.push { cls:=.type "list",dict:=none,data:=.seq ([]:List Value).toArray } }:Shared)=s3 at *
 let z3:s3.heap=a.heap.push { cls:=.type "list",dict:=none,data:=.seq ([]:List Value).toArray }:=by rw[<- hs3]
 let a1:s3.heap.objs.size=a.heap.objs.size+1:=by rw[z3,Heap.size_push]
 rw[<- z3] at q t ⊢;let S:∀b o,s3.heap.get? b=some o->h4.get? b=some o:=λb o e=>t.extBut b o (Nat.ne_of_lt (Heap.lt_size e)) (Heap.get?_push_of_some _ e);let B:∀b∈fp,b < s3.heap.objs.size:=λb f=>Nat.lt_of_lt_of_le (R b f) (by rw[a1];exact Nat.le_succ _);let a2:h4.Ns s3.heap.objs.size λ_=>none:=by simpa using q
 let K0:=λtk=>Ia (tk:=tk) ck I3 K B a2 S;let j:∀{H':Hp},(∀b∈fp,H' b=none)->∀b∈fp,pI (gF X scope cl Nc s3.heap.objs.size s3 H3 fp pins) [] H' b:=λ{H'} hn b f=>by
  let⟨f0,g1,g2,g3,g4,g5⟩:=K b f;exists hn b f,Nat.ne_of_lt (B b f),λz=>?_,.inl f,λx c e=>g4 x c (ck.sub x c e),λp hp=>g5 p (by simpa using hp);exact(mem_cons.mp (I3.stkSub b z)).elim g1 g2
 let U:tn 0 h4:=T.keep 0 _ _ P λb f o e=>S b o (by rw[z3];exact Heap.get?_push_of_some _ e);let a3:∀tk,codeAny (model X.prog X.w) X.A (.compLoop (.ListComp elt [⟨tg,iter,ifs,0⟩] scope pos) 0 (.ref it) (.ref a.heap.objs.size) (compEnvC scope cl s3.heap.objs.size X.env)) (RR (.ref a.heap.objs.size) s3.heap.objs.size) { s3 with heap:=h4,toks:=tk }:=by
  intro tk;refine Ot (λn s'=>∃i ys H',Inv (gF X scope cl Nc s3.heap.objs.size s3 H3 fp pins) [] (σC nl fr σ) H' s'/\tn i s'.heap/\(∀b∈fp,H' b=none)/\W i n ys H') ?_ m0 ⟨0,[],H3,K0 tk,U,λb f=>(K b f).1,w0⟩;rintro n s5 ⟨i,ys,M,I5,V,Y,w5⟩;let⟨ai,q5⟩:=a0 i n ys M w5;rcases q5 with ⟨stop,qn⟩ | ⟨go,step⟩
  .refine wpAny_mono (T.done (gF X scope cl Nc s3.heap.objs.size s3 H3 fp pins) rfl rfl rfl hc i [] s5 (σC nl fr σ) M (λ_ _=>False) I5 (j Y) V stop) (λr s6 E=>?_) λ_ _ z=>z;let⟨hr,I6⟩:=E;subst hr;let⟨z1,z2⟩:=Rf I3 K I6;refine an _ _ _ ⟨M,7,z1,z2,qn⟩;let⟨m,hm,_⟩:=I6.loc;exists m,hm
  .refine wpAny_mono (T.item (gF X scope cl Nc s3.heap.objs.size s3 H3 fp pins) rfl rfl rfl hc i [] s5 (σC nl fr σ) M (λ_ _=>False) I5 (j Y) V go) (λr s6 E=>?_) λ_ _ z=>z;let⟨u,hr,E⟩:=E;subst hr;refine wpAny_mono E (λ_ s7 h7=>?_) λ_ _ z=>z;let⟨x,H7,I7,r7,y7,F,a7⟩:=h7;let a8:=I7.pinned (j a7) (T.obj _ _ F);refine wpAny_mono (hg s3.heap.objs.size s3 H3 fp pins _ s7 _ H7 x u _ a8 r7 (step x H7 y7)) (λ_ s8 h8=>?_) λ_ _ z=>z;let⟨N,H8,I8,l8,k8,q8⟩:=h8;refine wpAny_mono (ht s3.heap.objs.size s3 H3 fp pins _ s8 N H8 _ I8 q8) (λb s9 h9=>?_) λ_ _ z=>z;let⟨H9,I9,O⟩:=h9;let k:∀{G:vk}{H':Hp}{s':Shared}{l:Nat},Inv (gF X scope cl Nc s3.heap.objs.size s3 H3 fp pins) ([]++xW fp s7.heap) N H' s'->l < n->W (i+1) l G H'->
     ∃m,m < n/\∃i ys H',Inv (gF X scope cl Nc s3.heap.objs.size s3 H3 fp pins) [] (σC nl fr σ) H' s'/\tn i s'.heap/\(∀b∈fp,H' b=none)/\W i m ys H':=λ{G H' s' l} I' hm w'=>by
    exists l,hm,i+1,G,H',I'.unpinned.weak l8.symm k8,T.keep _ _ _ F λb f o e=>(I'.pin (b,o) (mem_append_right _ (mem_append_right _ (mD f e)))).1,λb f=>?_,w';let⟨o,e,d⟩:=T.obj _ _ F b f;exact(I'.pin (b,o) (mem_append_right _ (mem_append_right _ (mD f e)))).2.1
   cases b with
   |false=>
    rw[if_neg Bool.false_ne_true] at O ⊢;let⟨l,hm,w9⟩:=O;exact k I9 hm w9
   |true=>
    rw[if_pos rfl] at O ⊢;refine wpAny_mono (he s3.heap.objs.size s3 H3 fp pins _ s9 N H9 _ I9 O) (λyv a9 aa=>?_) λ_ _ z=>z;let⟨y,Z,ac,ad,a4,a5,l,hm,ae⟩:=aa;refine wpAny_mono (dG (X:=gF X scope cl Nc s3.heap.objs.size s3 H3 fp pins) _ a9 N Z (.ref a.heap.objs.size) [y] _ [yv] (λv H'=>H'=upd Z a.heap.objs.size (.lst (ys++[y]))) ac rfl (.cons ad .nil) ⟨_,ys,y,8,8,a4,a5,8⟩) (λ_ aj h11=>?_) λ_ _ z=>z;let⟨_,ak,af,_,ag⟩:=h11;subst ag;exact k af hm ae
 let L:=a3 (a.toks+([]:List (Str × Value)).length);rw[show s3.gens=a.gens by rw[<- hs3],show s3.drawn=a.drawn by rw[<- hs3],show s3.os=a.os by rw[<- hs3]] at L;exact codeAny_compStart_list L (T.self _ 0 _ _ _ U L)
theorem dM(i:X.calm=true)(f:El X scope cl Nc nl fr)(hi:PI X tg iter wi)(j:∀C s3 H3 fp pins,PG (gF X scope cl Nc C s3 H3 fp pins) tg g)(k:∀C s3 H3 fp pins,PIf (gF X scope cl Nc C s3 H3 fp pins) ifs tt)(l:∀C s3 H3 fp pins,PE (gF X scope cl Nc C s3 H3 fp pins) elt te)(hs:∀x,foldedSetIterable iter X.env x=pure x:=by intro _;rfl):PE X (.ListComp elt [⟨tg,iter,ifs,0⟩] scope pos) (Wn wi nl fr g tt te):=by
 intro pins s σ H Q I h;rw[eval_ListComp];refine wpAny_comprehension_free (use:=none) rfl hs f.clos f.kind f.names (Gq (RR:=λa C=>compPost (model X.prog X.w) X.A X.xe none (EP X pins σ Q) a C) i f hi j k l I h λD C s' c=>?_);let⟨H',⟨m,hm⟩,d,e,q⟩:=c;exists m,hm,λh' b=>⟨.ref D,H',d.off e b,8,q⟩
theorem vD(J:X.N.Nodup)(E:X.N[i]?=some y)(F:X.env.scope.names.lookup y=some .local)(K:X.calm=true)(B:El X scope cl Nc nl fr)(hi:PI X tg iter wi)(L:∀C s3 H3 fp pins,PG (gF X scope cl Nc C s3 H3 fp pins) tg g)(M:∀C s3 H3 fp pins,PIf (gF X scope cl Nc C s3 H3 fp pins) ifs tt)(O:∀C s3 H3 fp pins,PE (gF X scope cl Nc C s3 H3 fp pins) elt te)(G:swapsWith (.ListComp elt [⟨tg,iter,ifs,0⟩] scope pos) (some (.Name y py)) spos.line X.env=pure true)(hs:∀x,foldedSetIterable iter X.env x=pure x:=by intro _;rfl):PS X (.Assign [.Name y py] (.ListComp elt [⟨tg,iter,ifs,0⟩] scope pos) spos) (qr8 (Wn wi nl fr g tt te) (gX i)):=by
 intro pins s σ H D I h;rw[exec_Assign_Name_used _ _ _ _ G];refine wpAny_bind (wpAny_standAt (wpAny_bind ?_));show wpAny _ X.A (do let _ <- comprehension (.ListComp elt [⟨tg,iter,ifs,0⟩] scope pos) scope X.env _ (newList []) false (eval iter X.env) (some (assign (.Name y py) X.env))) _ _ s;refine wpAny_bind (wpAny_mono (wpAny_comprehension_free (use:=some (assign (.Name y py) X.env)) (Q:=λ_ s'=>SP X pins D .next s') rfl hs B.clos B.kind B.names
  (Gq (RR:=λc C=>compPost (model X.prog X.w) X.A X.xe (some (assign (.Name y py) X.env)) (λ_ s'=>SP X pins D .next s') c C) K B hi L M O I h λd C s' l=>?_)) (λ_ s' n=>wpAny_pure (wpAny_pure n)) λ_ _ e=>e)
 let⟨H',⟨m,hm⟩,o,b,q⟩:=l;show wpAny _ X.A (assign (.Name y py) X.env (.ref d)) _ _ _;refine wpAny_assign_Name (As o J E (.inl F) (v:=.ref d) rfl (λu p f=>?_) (.inr F));let⟨a,r,t⟩:=f;let j:C≠a:=by
  rcases t with z | z
  .rw[z];exact b.2.1
  .exact Ne.symm (b.2.2.2.2.1 y a z)
 exists m,hm.sameBut r j,λh' k=>⟨_,H',p.off b k,q⟩
end
end L2
namespace Mq
abbrev Q2:=Int × Int
def gc(a b:Int):Int:=(Int.gcd a b:Nat)
theorem Ly(a b:Int):gc b (Int.fmod a b)=gc a b:=by
 unfold gc;rw[Int.fmod_def,Int.gcd_comm a b,Int.sub_eq_add_neg,<- Int.mul_neg,Int.gcd_add_mul_left_right]
theorem zV(h:b≠0):(Int.fmod a b).natAbs < b.natAbs:=by
 rcases (by lia:0 < b\/b < 0) with h1 | h1
 .have:=Int.fmod_nonneg_of_pos a h1;have:=Int.fmod_lt_of_pos a h1;lia
 .let h2:0 < -b:=by lia
  let e:Int.fmod a b=- Int.fmod (-a) (-b):=by
   rw[Int.neg_fmod_neg];lia
  have:=Int.fmod_nonneg_of_pos (-a) h2;have:=Int.fmod_lt_of_pos (-a) h2;lia
theorem Ln(a:Int):gc a 0=if a < 0 then -a else a:=by
 unfold gc;rw[Int.gcd_zero];split<;>lia
theorem qn6(a b:Int):gc (if a < 0 then -a else a) (if b < 0 then -b else b)=gc a b:=by
 unfold gc;split<;>split<;>simp
theorem yD(h:b≠0):0 < gc a b:=by
 have:=Int.gcd_pos_of_ne_zero_right a h;unfold gc;lia
structure Low(p:Q2):Prop where
 pos:1<=p.2
 one:gc p.1 p.2=1
def dvr(t b:Int):Int:=if b < 0 then -gc t b else gc t b
def red(t b:Int):Q2:=(Int.fdiv t (dvr t b),Int.fdiv b (dvr t b))
theorem tS(h:b≠0):dvr t b≠0:=by
 have:=yD (a:=t) h;unfold dvr;split<;>lia
theorem gQ(b:g≠0)(h:a=g*k):Int.fdiv a g=k:=by
 rw[h,Int.mul_fdiv_cancel_left _ b]
theorem Zl(t b:Int):dvr t b ∣ t/\dvr t b ∣ b:=by
 let h1:gc t b ∣ t:=Int.gcd_dvd_left t b;let h2:gc t b ∣ b:=Int.gcd_dvd_right t b;unfold dvr;split
 .exists Int.neg_dvd.mpr h1,Int.neg_dvd.mpr h2
 .exists h1,h2
theorem uF(h:b≠0):t=dvr t b*(red t b).1/\b=dvr t b*(red t b).2:=by
 let⟨⟨x,a⟩,⟨y,hy⟩⟩:=Zl t b;let c:=tS (t:=t) h;let d:(red t b).1=x:=gQ c a;let e:(red t b).2=y:=gQ c hy;rw[d,e];exists a,hy
theorem iE(h:b≠0):Low (red t b):=by
 let⟨h1,h2⟩:=uF (t:=t) h;let k:=tS (t:=t) h;let hp:=yD (a:=t) h;let g:(dvr t b).natAbs=(gc t b).natAbs:=by unfold dvr;split<;>simp
 let e:Int.gcd t b=(dvr t b).natAbs*Int.gcd (red t b).1 (red t b).2:=by
  rw[<- Int.gcd_mul_left,<- h1,<- h2]
 let i:(gc t b).natAbs=Int.gcd t b:=by unfold gc;simp
 rw[g,i] at e;let d:0 < Int.gcd t b:=by unfold gc at hp;lia
 let one:Int.gcd (red t b).1 (red t b).2=1:=by
  have:Int.gcd t b*Int.gcd (red t b).1 (red t b).2=Int.gcd t b*1:=by lia
  exact Nat.eq_of_mul_eq_mul_left d this
 refine⟨7,by unfold gc;rw[one];rfl⟩;let sgn:0 < (red t b).2:=by
  by_cases f:b < 0
  .let c:dvr t b < 0:=by unfold dvr;rw[if_pos f];lia
   let j:¬(red t b).2<=0:=λq=>by
    have:=Int.mul_nonneg_of_nonpos_of_nonpos (Int.le_of_lt c) q;lia
   lia
  .let c:0 < dvr t b:=by unfold dvr;rw[if_neg f];lia
   let j:¬(red t b).2<=0:=λq=>by
    have:=Int.mul_nonpos_of_nonneg_of_nonpos (Int.le_of_lt c) q;lia
   lia
 lia
theorem Bo(h:b≠0):(red t b).1*b=t*(red t b).2:=by
 let⟨h1,h2⟩:=uF (t:=t) h;generalize (red t b).1=x at *
 generalize (red t b).2=y at *
 generalize dvr t b=g at *
 subst h1 h2;grind
theorem jX{a g k:Int}(b:g≠0)(h:a=g*k):k.natAbs<=a.natAbs:=by
 rw[h,Int.natAbs_mul];exact Nat.le_mul_of_pos_left _ ()
theorem pV(h:b≠0):(red t b).1.natAbs<=t.natAbs/\(red t b).2.natAbs<=b.natAbs:=by
 let⟨h1,h2⟩:=uF (t:=t) h;exists jX (tS h) h1,jX (tS h) h2
theorem Il(h:b≠0):(dvr t b).natAbs<=b.natAbs:=by
 let e:(dvr t b).natAbs=Int.gcd t b:=by unfold dvr gc;split<;>simp
 rw[e];exact Int.gcd_le_natAbs_right t h
theorem Uf(hp:Low p)(f:Low q)(h:p.1*q.2=q.1*p.2):p=q:=by
 let a:Int.gcd p.2 p.1=1:=by have:=hp.one;rw[Int.gcd_comm];unfold gc at this;lia
 let b:Int.gcd q.2 q.1=1:=by have:=f.one;rw[Int.gcd_comm];unfold gc at this;lia
 let d1:p.2 ∣ q.2:=by
  have:p.2 ∣ p.1*q.2:=⟨q.1,by rw[h,Int.mul_comm]⟩
  have:=Int.dvd_gcd_mul_iff_dvd_mul.mpr this;rw[a] at this;simpa using this
 let d2:q.2 ∣ p.2:=by
  have:q.2 ∣ q.1*p.2:=⟨p.1,by rw[<- h,Int.mul_comm]⟩
  have:=Int.dvd_gcd_mul_iff_dvd_mul.mpr this;rw[b] at this;simpa using this
 let d:=Int.le_of_dvd (by have:=f.pos;lia) d1;let e:=Int.le_of_dvd (by have:=hp.pos;lia) d2;let e2:p.2=q.2:=by lia
 let c:p.1=q.1:=by
  rw[e2] at h;exact Int.eq_of_mul_eq_mul_right (by have:=f.pos;lia) h
 exact Prod.ext c e2
def plus(p q:Q2):Q2:=red (p.1*q.2+q.1*p.2) (p.2*q.2)
def minus(p q:Q2):Q2:=red (p.1*q.2 - q.1*p.2) (p.2*q.2)
def mU(p q:Q2):Q2:=red (p.1*q.1) (p.2*q.2)
def rE(p q:Q2):Q2:=red (p.1*q.2) (p.2*q.1)
def tot(l:List Q2):Q2:=l.foldl plus (0,1)
theorem iG{a b:Int}(c:1<=a)(d:1<=b):a*b≠0:=by
 have:=Int.mul_pos (show 0 < a by lia) (show 0 < b by lia);lia
theorem iW(hp:1<=p.2)(a:1<=q.2):Low (plus p q):=iE (iG hp a)
def B(n:Nat)(i:Int):Prop:=i.natAbs < 2 ^ n
structure Bd(n:Nat)(p:Q2):Prop where
 a:B n p.1
 b:B n p.2
theorem B.mono(h:B n i)(l:n<=m):B m i:=Nat.lt_of_lt_of_le h (Nat.pow_le_pow_right ∅ l)
theorem B.mul(h:B n i)(q:B m j):B (n+m) (i*j):=by
 unfold B at *
 rw[Int.natAbs_mul,Nat.pow_add];exact Nat.mul_lt_mul'' h q
theorem B.add(h:B n i)(q:B n j):B (n+1) (i+j):=by
 unfold B at *
 have:=Int.natAbs_add_le i j;rw[Nat.pow_succ];lia
theorem B.neg(h:B n i):B n (-i):=by unfold B at *;lia
theorem B.sub(h:B n i)(q:B n j):B (n+1) (i - j):=by
 rw[Int.sub_eq_add_neg];exact h.add q.neg
theorem B.le(h:B n i)(l:j.natAbs<=i.natAbs):B n j:=Nat.lt_of_le_of_lt l h
theorem Bd.mono(h:Bd n p)(l:n<=m):Bd m p:=⟨h.a.mono l,h.b.mono l⟩
theorem Bs(h:Bd n p)(g:Bd m q)(hp:1<=p.2)(d:1<=q.2):Bd (n+m+1) (plus p q):=by
 let k:=pV (t:=p.1*q.2+q.1*p.2) (iG hp d);let c:B (n+m) (q.1*p.2):=by rw[Nat.add_comm];exact g.a.mul h.b
 exists ((h.a.mul g.b).add c).le k.1,((h.b.mul g.b).mono (Nat.le_succ _)).le k.2
def Pos(l:List Q2):Prop:=∀f∈l,1<=f.2
theorem Qj:∀{p:Q2},Low p->Pos l->Low (l.foldl plus p):=by
 induction l with
 |nil=>intro p h _;exact h
 |cons x r ih=>intro p h k;exact ih (iW h.pos (k x ⋯)) λf a=>k f (by simp[a])
theorem Nu:Low (0,1):=⟨Int.le_refl 1,8⟩
theorem mI(h:Pos l):Low (tot l):=Qj Nu h
end Mq
open Mq (Bs Il Ln Ly dvr gQ gc iE iG mI mU pV rE red tS tot zV)
namespace L2
open PySem PySem.Spec PyProof.Rows
structure aV(K:Frag)(x qual:Str)(st:Stmt)(dV:Value)(f:Addr)(fd:FuncData):Prop where
 ex:∃(oc:Value)(od:Option Addr)(kV doc pm:Value)(an:Option Addr)(cdv ct:Value)(osl:Array (Option Value)),
  fd=W.fnOf x qual (fC st) (dA st) (aI st) dV kV doc pm an cdv ct/\K.lookup f=some ⟨oc,od,.func fd,osl⟩/\W.codeIn K cdv qual=true
 kp:W.keepIn K (.ref f)=true
section
variable {P:Program} {w:World} {K:Frag} {mg:Str->Option Value} {base:Heap} {CX:CXT}
theorem aV.okX{st:Stmt}(F:aV K x qual st dV f fd)(S:aP N ps (aI st))(len:∀vs H Q E,sp vs H Q E->vs.length=ps.length)(m:∀(l:Value)(A:Around)(outer:List Env)(s:Shared)(H:Hp)(vs:vk)(Q:VK)(E:XK),hV k (A.deeper (envOfC qual (aI st) s.heap.objs.size f l))->sp vs H Q E->
   ∃t,PSs (zC CX P w K mg base N qual (aI st) f l A outer s H E) (dA st) t/\t { nx:=λ_ H'=>Q .non H',rt:=Q } (start N vs) H):aK P w K mg base CX (k+1) f fd ps sp:=by
 let⟨oc,g,kV,d,h,i,l,j,e,rfl,b,a⟩:=F.ex;exact qw6 b a S len λA outer s H vs Q E c hsp=>m l A outer s H vs Q E c hsp
theorem aV.ok{st:Stmt}(F:aV K x qual st dV f fd)(S:aP N ps (aI st))(len:∀vs H Q E,sp vs H Q E->vs.length=ps.length)(d:∀(c:Value)(A:Around)(outer:List Env)(s:Shared)(H:Hp)(vs:vk)(Q:VK)(E:XK),hV k (A.deeper (envOfC qual (aI st) s.heap.objs.size f c))->sp vs H Q E->
   ∃t,PSs (zC CX P w K mg base N qual (aI st) f c A outer s H E).nox (dA st) t/\t { nx:=λ_ H'=>Q .non H',rt:=Q } (start N vs) H):aK P w K mg base CX (k+1) f fd ps sp:=
 F.okX S len λc A outer s H vs Q E b a=>by
  let⟨t,h,q⟩:=d c A outer s H vs Q E b a;exists t,h.nox,q
theorem aV.ok9{st:Stmt}(F:aV K x qual st dV f fd)(S:aP N ps (aI st))(hbody:∀(a:Value)(A:Around)(outer:List Env)(s:Shared)(H:Hp)(vs:vk)(Q:VK)(E:XK),hV k (A.deeper (envOfC qual (aI st) s.heap.objs.size f a))->sp vs H Q E->
   ∃t,PSs (zC CX P w K mg base N qual (aI st) f a A outer s H E).nox (dA st) t/\t { nx:=λ_ H'=>Q .non H',rt:=Q } (start N vs) H)(len:∀vs H Q E,sp vs H Q E->vs.length=ps.length:=by intro _ _ _ _ h;first|(cases h;subst_vars;rfl)|(repeat (first | (let⟨rfl,_⟩:=h;rfl) | let⟨_,h⟩:=h))):aK P w K mg base CX (k+1) f fd ps sp:=F.ok S len hbody
theorem aV.binds{st:Stmt}(F:aV K x qual st dV f fd)(h:∀(kV a c:Value)(d:Option Addr)(b ct:Value)(us:List Value),us.length=ps.length->bindArgs (W.fnOf x qual (fC st) (dA st) (aI st) dV kV a c d b ct) ⟨us,[]⟩=pure (ps.zip us)):aL K fd ps []:=by
 let⟨oc,od,kV,a,c,d,b,ct,e,rfl,i,g⟩:=F.ex;exact .all (h kV a c d b ct)
theorem vE{st:Stmt}{kV b d a ct:Value}(l:K.lookup f=some ⟨oc,od,.func (W.fnOf x qual (fC st) (dA st) (aI st) dV kV b d an a ct),osl⟩)(c:W.codeIn K a qual=true)(k:kI9 K f):aV K x qual st dV f (W.fnOf x qual (fC st) (dA st) (aI st) dV kV b d an a ct):=⟨⟨oc,od,kV,b,d,an,a,ct,osl,8,l,c⟩,k⟩
end
abbrev fT(p:Mq.Q2):HO:=.tup [.int p.1,.int p.2]
def Fq(K:Frag)(H:Hp)(a:Addr)(p:Mq.Q2):Prop:=SqT K H a [.int p.1,.int p.2]
theorem aS.seqT{K:Frag}(e:aS H H')(h:SqT K H a xs):SqT K H' a xs:=by
 rcases h with (h | ⟨o,h⟩) | h
 .exact .inl (.inl (e _ _ h))
 .exact .inl (.inr ⟨o,e _ _ h⟩)
 .exact .inr h
theorem aG(h:H p=none)(o:HO):aS H (upd H p o):=λb u q=>by rw[aQ (bA q h)];exact q
theorem nw{H:Hp}{x:Addr}(h:H x=none)(o:HO):∃H1,upd H x o=H1/\aS H H1/\H1 x=some o:=⟨9,aG h o,aB⟩
theorem aS.fq{K:Frag}(e:aS H H')(h:Fq K H a p):Fq K H' a p:=e.seqT h
theorem Fq.of{K:Frag}(h:H a=some (fT p)):Fq K H a p:=SqT.of h
theorem fQ{K:Frag}(b:σ[i]?=some (some (.ref a)))(h:Fq K H a p)(q:Q (.int p.1) H):tOp (Us K) (Oh i) (tC (.int 0)) σ H Q:=
 ⟨_,b,a,_,_,9,8,h,8,q⟩
theorem cY{K:Frag}(b:σ[i]?=some (some (.ref a)))(h:Fq K H a p)(q:Q (.int p.2) H):tOp (Us K) (Oh i) (tC (.int 1)) σ H Q:=
 ⟨_,b,a,_,_,9,8,h,8,q⟩
theorem cU(h1:Mq.B n i)(h2:Mq.B m j)(a:n<=1048576)(h4:m<=1048576)(q:Q (.int (i*j)) H):rI Xi (λi j=>.int (i*j)) (.int i) (.int j) H Q:=
 ⟨_,9,8,⟨n,m,h1,h2,a,h4⟩,q⟩
theorem gR(h1:j≠0)(h2:Mq.B n j)(a:n<=9000)(q:Q (.int (i.fdiv j)) H):rI Nz (λi j=>.int (i.fdiv j)) (.int i) (.int j) H Q:=
 ⟨_,9,8,⟨h1,n,h2,a⟩,q⟩
structure Bl(mg:Str->Option Value):Prop where
 isi:mg "isinstance"=none
 int:mg "int"=none
 bool:mg "bool"=none
 abs:mg "abs"=none
def wS(t:Value):Prop:=t=.type "bool"\/t=.type "str"\/t=.type "NoneType"\/t=.type "tuple"\/t=.type "list"
inductive pG(K:Frag)(vs:vk)(H:Hp)(Q:VK)(E:XK):Prop where
 |mk (x):vs=[x]->((∃i,x=.int i/\Q (.bl true) H)\/(∃t,lW K H x t/\wS t/\Q (.bl false) H))->pG K vs H Q E
inductive Tn(vs:vk)(H:Hp)(Q:VK)(E:XK):Prop where
 |mk (a b:Int):vs=[.int a,.int b]->Q (.int (gc a b)) H->Tn vs H Q E
def mH(H:Hp)(Q:VK)(p:Mq.Q2):Prop:=∀a H',aS H H'->H' a=some (fT p)->Q (.ref a) H'
inductive hZ(vs:vk)(H:Hp)(Q:VK)(E:XK):Prop where
 |mk (t b:Int) (n:Nat):vs=[.int t,.int b]->b≠0->Mq.B n b->n<=9000->mH H Q (red t b)->hZ vs H Q E
inductive fH(K:Frag)(f:Mq.Q2->Mq.Q2->Mq.Q2)(vs:vk)(H:Hp)(Q:VK)(E:XK):Prop where
 |mk (a b:Addr) (p q:Mq.Q2) (n m:Nat):vs=[.ref a,.ref b]->Fq K H a p->Fq K H b q->1<=p.2->1<=q.2->Mq.Bd n p->Mq.Bd m q->n+m+1<=9000->mH H Q (f p q)->fH K f vs H Q E
inductive Fqs(K:Frag)(H:Hp):vk->List Mq.Q2->Prop where
 |nil:Fqs K H [] []
 |cons {a:Addr} {p:Mq.Q2} {xs:vk} {ps:List Mq.Q2} (h:Fq K H a p) (q:Fqs K H xs ps):Fqs K H (.ref a :: xs) (p :: ps)
theorem Fqs.same{K:Frag}(e:aS H H'):∀{xs:vk}{ps:List Mq.Q2},Fqs K H xs ps->Fqs K H' xs ps
 |_,_,.nil=>.nil
 |_,_,.cons h q=>.cons (e.fq h) (Fqs.same e q)
theorem Fqs.length{K:Frag}:∀{xs:vk}{ps:List Mq.Q2},Fqs K H xs ps->xs.length=ps.length
 |_,_,.nil=>rfl
 |_,_,.cons _ q=>by simp[Fqs.length q]
theorem Fqs.get{K:Frag}:∀{xs:vk}{ps:List Mq.Q2}{i:Nat}{x:V},Fqs K H xs ps->xs[i]?=some x->∃a p,x=.ref a/\ps[i]?=some p/\Fq K H a p
 |_,_,_,_,.nil,h=>by simp at h
 |_,_,0,_,.cons h _,e=>by simp at e;exists _,_,e.symm,8,h
 |_,_,i+1,_,.cons _ q,e=>by simpa using Fqs.get q (by simpa using e)
theorem Fqs.app{K:Frag}:∀{xs ys:vk}{ps qs:List Mq.Q2},Fqs K H xs ps->Fqs K H ys qs->Fqs K H (xs++ys) (ps++qs)
 |_,_,_,_,.nil,r=>r
 |_,_,_,_,.cons h q,r=>.cons h (Fqs.app q r)
theorem Fq.upd{K:Frag}(h:Fq K H a p)(b:H l=some (.lst xs)):Fq K (L2.upd H l o) a p:=by
 rcases h with (h | ⟨u,h⟩) | h
 .exact .inl (.inl (by rw[aQ (gV h b (λz=>by cases z))];exact h))
 .exact .inl (.inr ⟨u,by rw[aQ (gV h b (λz=>by cases z))];exact h⟩)
 .exact .inr h
theorem Fqs.upd{K:Frag}(a:H l=some (.lst ys)):∀{xs:vk}{ps:List Mq.Q2},Fqs K H xs ps->Fqs K (L2.upd H l o) xs ps
 |_,_,.nil=>.nil
 |_,_,.cons h q=>.cons (h.upd a) (Fqs.upd a q)
theorem aS.change(s:aS H H')(h:H l=none):aS H (L2.upd H' l o):=λb u q=>by
 rw[aQ (bA q h)];exact s b u q
def qd(p:Mq.Q2):PyData:=.tuple [.int p.1,.int p.2]
theorem Fq.dat{K:Frag}(h:Fq K H a p):qV K H (.ref a) (qd p):=.tup h (.cons (.int _) (.cons (.int _) .nil))
theorem Vt(p:Mq.Q2):(qd p).canLay0=true:=rfl
theorem Ro(p:Mq.Q2):(qd p).depth<=1:=by simp[qd,PyData.depth,PyData.depthAll]
theorem ql1(p q:Mq.Q2):PyData.eqv (qd p) (qd q)=decide (p=q):=by
 unfold qd;simp only[PyData.eqv,PyData.eqvAll]
 by_cases h:p=q
 .subst h;simp
 .rw[decide_eq_false h]
  by_cases h1:p.1=q.1
  .let h2:p.2≠q.2:=λz=>h (Prod.ext h1 z);simp[h2]
  .simp[h1]
theorem xC{K:Frag}(h1:Fq K H a p)(h2:Fq K H b q)(z:Q (.bl (if neg then !decide (p=q) else decide (p=q))) H):zA K neg (.ref a) (.ref b) H Q:=by
 exists _,_,h1.dat,h2.dat,Vt p,Vt q,7,7
 .have:=Ro p;lia
 .rw[ql1];exact z
abbrev Me(nl:Nat)(fr:List Nat)(g:TG)(tt:TT)(te:TE)(σ:St)(D:Addr)(Pv:Nat->vk->Hp->Prop)(i:Nat)(ys:vk)(x:V)(H:Hp):Prop:=
 g x (σC nl fr σ) H λσ2 H4=>σ2.length=(σC nl fr σ).length/\(∀(i:Nat) v,(σC nl fr σ)[i]?=some (some v)->σ2[i]?=some (some v))/\
  tt σ2 H4 λb H5=>if b=true then te σ2 H5 λy H6=>H6 D=some (.lst ys)/\ys.length < sizeLine/\Pv (i+1) (ys++[y]) (upd H6 D (.lst (ys++[y]))) else Pv (i+1) ys H5
section
variable {nl:Nat} {fr:List Nat} {g:TG} {tt:TT} {te:TE} {σ:St} {D:Addr} {H1:Hp} {Q:VK}
theorem xL{lo:Int}(c:Nat->vk->Hp->Prop)(d:c 0 [] (upd H1 D (.lst [])))(f:∀i ys H,c i ys H->H D=some (.lst ys))(hs:∀i ys H,i < n->c i ys H->∀(C:Nat->vk->Hp->Prop),(∀ys H,c (i+1) ys H->C (i+1) ys H)->Me nl fr g tt te σ D C i ys (.int (lo+i)) H)(h:∀ys H,c n ys H->Q (.ref D) H):
  wK (Itr lo n) nl fr g tt te σ D H1 Q:=by
 exists λi m ys H=>m=n - i/\i<=n/\c i ys H,⟨n,⋯,Nat.zero_le _,d⟩,7;rintro i m ys H ⟨rfl,hi,p⟩;exists f i ys H p,7
 by_cases a:i < n
 .refine .inr ⟨a,λx H' y=>?_⟩;let⟨e,y⟩:=y;subst e y;exact hs i ys _ a p (λj zs b=>∃m',m' < n - i/\m'=n - j/\j<=n/\c j zs b) λzs b z=>⟨n - (i+1),6,8,a,z⟩
 .let e:i=n:=by lia
  subst e;exact .inl ⟨Nat.le_refl _,h ys H p⟩
theorem cW{K:Frag}(d:Nat->vk->Hp->Prop)(f:d 0 [] (upd H1 D (.lst [])))(h:∀i ys H,d i ys H->H D=some (.lst ys))(k:∀i ys H,i<=xs.length->d i ys H->SqL K H a xs)(hs:∀i ys x H,xs[i]?=some x->d i ys H->∀(C:Nat->vk->Hp->Prop),(∀ys H,d (i+1) ys H->C (i+1) ys H)->Me nl fr g tt te σ D C i ys x H)(l:∀ys H,d xs.length ys H->Q (.ref D) H):
  wK (Itl K a) nl fr g tt te σ D H1 Q:=by
 exists λi m ys H=>m=xs.length - i/\i<=xs.length/\d i ys H,⟨xs.length,⋯,Nat.zero_le _,f⟩,7;rintro i m ys H ⟨rfl,hi,p⟩;exists h i ys H p,7;let q:=k i ys H hi p
 by_cases b:i < xs.length
 .refine .inr ⟨⟨xs,xs[i],q,by simp[b]⟩,λx H' y=>?_⟩;let⟨e,y⟩:=y;subst e;exact hs i ys x _ (y xs q) p (λj zs c=>∃m',m' < xs.length - i/\m'=xs.length - j/\j<=xs.length/\d j zs c) λzs c z=>⟨xs.length - (i+1),6,8,b,z⟩
 .let e:i=xs.length:=by lia
  subst e;exact .inl ⟨⟨xs,q,Nat.le_refl _⟩,l ys H p⟩
theorem clS{nl:Nat}{fr:List Nat}{g:TG}{tt:TT}{te:TE}{σ:St}{D:Addr}{H:Hp}{Q:VK}{K:Frag}{a:Addr}{xs:vk}(c:H D=none)(b:Nat→vk→Hp→Prop)(d:b 0 [] (upd H D (.lst [])))(e:∀H',aS H H'→SqL K H' a xs)(hs:∀i ys x H1,xs[i]?=some x→(aS H H1/\H1 D=some (.lst ys)/\b i ys H1)→∀C:Nat→vk→Hp→Prop,(∀ys H1,(aS H H1/\H1 D=some (.lst ys)/\b (i+1) ys H1)→C (i+1) ys H1)→Me nl fr g tt te σ D C i ys x H1)(hd:∀ys H1,(aS H H1/\H1 D=some (.lst ys)/\b xs.length ys H1)→Q (.ref D) H1):wK (Itl K a) nl fr g tt te σ D H Q:=cW (λi ys H1=>aS H H1/\H1 D=some (.lst ys)/\b i ys H1) ⟨aG c _,aB,d⟩ (λ_ _ _ h=>h.2.1) (λ_ _ _ _ h=>e _ h.1) hs hd
theorem crS{nl:Nat}{fr:List Nat}{g:TG}{tt:TT}{te:TE}{σ:St}{D:Addr}{H:Hp}{Q:VK}{lo:Int}{n:Nat}(b:H D=none)(a:Nat→vk→Hp→Prop)(c:a 0 [] (upd H D (.lst [])))(hs:∀i ys H1,i<n→(aS H H1/\H1 D=some (.lst ys)/\a i ys H1)→∀C:Nat→vk→Hp→Prop,(∀ys H1,(aS H H1/\H1 D=some (.lst ys)/\a (i+1) ys H1)→C (i+1) ys H1)→Me nl fr g tt te σ D C i ys (.int (lo+i)) H1)(hd:∀ys H1,(aS H H1/\H1 D=some (.lst ys)/\a n ys H1)→Q (.ref D) H1):wK (Itr lo n) nl fr g tt te σ D H Q:=xL (λi ys H1=>aS H H1/\H1 D=some (.lst ys)/\a i ys H1) ⟨aG b _,aB,c⟩ (λ_ _ _ h=>h.2.1) hs hd
end
theorem dU:((σC 1 fr σ).set 0 (some x)).length=(σC 1 fr σ).length/\∀(i:Nat) v,(σC 1 fr σ)[i]?=some (some v)->((σC 1 fr σ).set 0 (some x))[i]?=some (some v):=by
 exists ⋯,λi v h=>?_
 match i with
 |0=>unfold σC at h;simp at h
 |k+1=>rw[getElem?_set_ne ()];exact h
theorem dY{names:List (Str × NameKind)}{cl:List (Str × Addr)}(h:names.all (λy=>!(y.2 == .cell || y.2 == .free) || (cl.lookup y.1).isSome)=true)(x:Str)(d:names.lookup x=some .cell\/names.lookup x=some .free):∃c,cl.lookup x=some c:=by
 let a:∀k,(k=NameKind.cell\/k=NameKind.free)->names.lookup x=some k->∃c,cl.lookup x=some c:=λk b e=>by
  let m:=all_eq_true.mp h _ (PySem.mem_of_lookup e);have:(k == NameKind.cell || k == NameKind.free)=true:=by rcases b with rfl | rfl<;>rfl
  simp only[this,Bool.not_true,Bool.false_or] at m;exact Option.isSome_iff_exists.mp m
 rcases d with e | e
 .exact a _ (.inl rfl) e
 .exact a _ (.inr rfl) e
section
variable {X:Cx} {pins:List (Addr × Obj)} {σ:St} {H:Hp} {s:Shared} {h':Heap}
theorem Inv.turnedL{fp:List Addr}(I:Inv X pins σ H s)(k:∀b o,b∉fp->s.heap.get? b=some o->h'.get? b=some o)(x:∀b∈fp,pI X pins H b):Inv X pins σ H { s with heap:=h',toks:=t' }:=by
 let d:∀b u,H b=some u->b∉fp:=λb u e z=>by rw[(x b z).1] at e;cases e
 let f:X.env.locals∉fp:=λz=>(x _ z).2.1 rfl;refine I.step (g':=s.gens) (d':=s.drawn) (ch:=fp) (λb g=>?_) (λb o _ _ a e _=>k b o a e) (λb o _ _ a e _=>⟨o.slots,k b o a e⟩) (λ_ _ _ _ n=>n)
  (λb o a e=>⟨o,k b o a e⟩) (λ_ _ e=>e) (λ_ _ _ e=>e) (λb ps e=>⟨#[],by rw[e];simp⟩) (λm hm=>?_) (λb u e=>?_) I.bare
 .let⟨t,h,w,i,j,l⟩:=x b g;exists i,h,j,l
 .let⟨o,es,p,ho,r⟩:=hm;exists o,es,p,k _ o f ho,r
 .refine(I.hok b u e).stay (λc v a q=>k c v ?_ q) (λ_ q=>q) λ_ _ q=>q;rcases a with z | z
  .rw[z];exact d b u e
  .exact d c _ z
end
def Itz(K : Frag)(a b : Addr) : It :=
  ⟨λi H => ∃ xs ys x y, SqL K H a xs /\ SqL K H b ys /\ xs[i]? = some x /\ ys[i]? = some y,
   λi H v H' => ∃ T x y, v = .ref T /\ H T = none /\ H' = upd H T (.tup [x, y]) /\ ∀ xs ys, SqL K H a xs -> SqL K H b ys -> xs[i]? = some x /\ ys[i]? = some y,
   λi H => ∃ xs ys, SqL K H a xs /\ SqL K H b ys /\ (xs.length <= i \/ ys.length <= i)⟩
def qv1(z TI TO i1 i2 l1 l2:Addr)(i:Nat)(h:Heap):Prop:=
 ZipApart z TI TO i1 i2 l1 l2/\IsZip h z TI TO .none/\IsPair h TI (.ref i1) (.ref i2)/\(∃a b,IsPair h TO a b)/\h.IsListIter i1 l1 i/\h.IsListIter i2 l2 i
theorem Sm{K:Frag}(z TI TO i1 i2 l1 l2:Addr):
  Oi P w K (.Tuple elts kk tpos) (Itz K l1 l2) [z,TI,TO,i1,i2] z (qv1 z TI TO i1 i2 l1 l2) where
 mem:=by simp
 obj:=λi h st b d=>by
  let⟨f,j,hi,⟨a,c,ho⟩,⟨D,m,c1,d1⟩,⟨F,n,W,d2⟩⟩:=st;simp only[mem_cons,not_mem_nil,or_false] at d;rcases d with rfl | rfl | rfl | rfl | rfl
  .exists _,j,λv q=>by cases q
  .exists _,hi,λv q=>by cases q
  .exists _,ho,λv q=>by cases q
  .exists D,m,λv q=>by rw[d1] at q;cases q
  .exists F,n,λv q=>by rw[d2] at q;cases q
 keep:=λi h h' st k=>by
  let⟨f,j,hi,⟨a,c,ho⟩,⟨D,m,c1,d1⟩,⟨F,n,W,d2⟩⟩:=st;exists f,k _ ⋯ _ j,k _ ⋯ _ hi,⟨a,c,k _ ⋯ _ ho⟩,⟨D,k _ ⋯ _ m,c1,d1⟩,⟨F,k _ ⋯ _ n,W,d2⟩
 item:=by
  intro X O hw R Y i pins s σ H E I G st S;subst O hw R;let⟨f,j,hi,⟨a,c,ho⟩,p,r⟩:=st;let⟨xs,ys,x,y,J,L,ex,Z⟩:=S;let⟨T,t,U,z1⟩:=I.list J;let⟨V,u,p2,z2⟩:=I.list L;let⟨M,a0,a1⟩:=t.get ex;let⟨N,a2,a3⟩:=u.get Z;refine wpAny_pyNext_zip_item f j hi ho p r U.isList p2.isList (x:=M) (y:=N) (by simpa using a0) (by simpa using a2) λh' g1 g2 g3 g4 g5 g6 l=>?_;let hn:H s.heap.objs.size=none:=I.hok.fresh (Nat.le_refl _);let lt:∀b∈[z,TI,TO,i1,i2],b < s.heap.objs.size:=λb d=>by
   simp only[mem_cons,not_mem_nil,or_false] at d;let⟨D,m,_⟩:=p;let⟨F,n,_⟩:=r;rcases d with rfl | rfl | rfl | rfl | rfl
   .exact Heap.lt_size j
   .exact Heap.lt_size hi
   .exact Heap.lt_size ho
   .exact Heap.lt_size m
   .exact Heap.lt_size n
  let I1:Inv X pins σ (upd H s.heap.objs.size (.tup [x,y])) { s with heap:=s.heap.push { cls:=.type "tuple",data:=.seq #[M,N] } }:=
   I.laid (t':=s.toks) (λb o e=>Heap.get?_push_of_some _ e) (Nat.le_refl _) (show cP X.prog X.w _ _ _ (.tup [x,y]) from ⟨zl9 2,[M,N],.cons a1 (.cons a3 .nil),IsTup.new _ _⟩)
  let B:∀b∈[z,TI,TO,i1,i2],pI X pins (upd H s.heap.objs.size (.tup [x,y])) b:=λb d=>⟨by rw[aQ (Nat.ne_of_lt (lt b d))];exact(G b d).1,(G b d).2⟩
  let k1:∀b o,b∉[z,TI,TO,i1,i2]->(s.heap.push { cls:=.type "tuple",data:=.seq #[M,N] }).get? b=some o->h'.get? b=some o:=λb o g e=>by
   simp only[mem_cons,not_mem_nil,or_false,not_or] at g
   by_cases d:b=s.heap.objs.size
   .subst d;rw[Heap.get?_push_size _ rfl] at e
    cases e
    exact g5
   .let e0:s.heap.get? b=some o:=by rw[Heap.get?_push_ne _ _ _ d] at e;exact e
    exact l b o g.1 g.2.2.1 g.2.2.2.1 g.2.2.2.2 e0
  let I2:Inv X pins σ (upd H s.heap.objs.size (.tup [x,y])) { s with heap:=h',toks:=s.toks }:=I1.turnedL (t':=s.toks) k1 B;exists 9,wpAny_letOwnedTupleGo_zip (s:={ s with heap:=h' }) g1 λh2 q1 q2=>?_;let C:∀b o,b≠z->h'.get? b=some o->h2.get? b=some o:=λb o g e=>(q2.2 b g).trans e;let I3:Inv X pins σ (upd H s.heap.objs.size (.tup [x,y])) { s with heap:=h2,toks:=s.toks }:=Inv.turnedL (s:={ s with heap:=h',toks:=s.toks }) (t':=s.toks) (fp:=[z]) I2 (λb o g e=>C b o (by simpa using g) e) λb d=>B b (by simp at d;simp[d]);let a4:h'.get? TI=some { cls:=.type "tuple",data:=.seq #[.ref i1,.ref i2] }:=l TI _ f.TIz f.TITO f.TIi1 f.TIi2 hi;let⟨o3,e3,c3,d3⟩:=g3;let⟨o4,e4,c4,d4⟩:=g4;exists .ref s.heap.objs.size,_,I3,8,⟨_,x,y,8,hn,8,λa6 a7 h1 h2=>?_⟩,⟨f,q1,C _ _ f.TIz a4,⟨_,_,C _ _ f.TOz g2⟩,⟨o3,C _ _ f.i1z e3,c3,d3⟩,⟨o4,C _ _ f.i2z e4,c4,d4⟩⟩,λb d=>(B b d).1;rw[I.list_inj h1 J,I.list_inj h2 L];exists ex,Z
 done:=by
  intro X O hw R Y i pins s σ H E I G st S;subst O hw R;let⟨f,j,hi,⟨a,c,ho⟩,p,r⟩:=st;let⟨xs,ys,J,L,a5⟩:=S;let⟨T,t,U,z1⟩:=I.list J;let⟨V,u,p2,z2⟩:=I.list L;let a8:=t.length;let a9:=u.length;refine wpAny_pyNext_zip_end (I.ok.hd Y) f j hi ho p r U.isList p2.isList (by rcases a5 with h | h;left;simp;lia;right;simp;lia) λh' l=>⟨8,7⟩
  refine I.turnedL (t':=s.toks) (λb o g e=>?_) G;simp only[mem_cons,not_mem_nil,or_false,not_or] at g;exact l b o g.1 g.2.2.1 g.2.2.2.1 g.2.2.2.2 e
 self:=λA i s Q E st h=>by
  let⟨f,j,hi,⟨a,c,ho⟩,p,r⟩:=st;exact wpAny_pyIter_zip j h
section
variable {X:Cx}
def aAb(K:Frag)(ta:TA):TI:=λσ H R=>ta σ H λvs H1=>∃a b,vs=[.ref a,.ref b]/\(∃xs,SqL K H1 a xs)/\(∃ys,SqL K H1 b ys)/\R (Itz K a b) H1
theorem tH(W:Gl X "zip")(hm:X.mg "zip"=none)(Y:bootBuiltins "zip"=some (.type "zip"))(Z:PA X [e1,e2] ta)(hs:starEach [e1,e2] X.env=(false,eval e1 X.env) :: starEach [e2] X.env:=by rfl)(V:(backTo pos (starEach [e2] X.env)).any (·.1)=false:=by rfl):PI X (.Tuple elts kk tpos) (.Call (.Name "zip" p) [e1,e2] [] pos) (aAb X.K ta):=by
 intro pins s σ H R I h;refine Call_ (kJ I W hm Y (PyProof.Rows.callWith_type1 (thn (Z pos pins s σ H _ I h) λQ d ⟨vs,H1,g,y,z⟩=>?_) hs V));let⟨a,b,rfl,⟨xs,A⟩,⟨ys,B⟩,q⟩:=z;let⟨u,C,rfl,D,E⟩:=xE y
 cases (show u=Value.ref a from D)
 cases (show C=Value.ref b from E)
 let⟨F,O,t,S⟩:=g.list A;let⟨G,P,p2,T⟩:=g.list B;let k:a < d.heap.objs.size:=by let⟨o,e,_⟩:=t.isList;exact Heap.lt_size e
 let m:b < d.heap.objs.size:=by let⟨o,e,_⟩:=p2.isList;exact Heap.lt_size e
 refine call_zip_2 t.isList p2.isList λh' v J L M N U w=>?_;refine wpAny_pyIter_zip v ?_;let f:∀i j:Nat,i≠j->d.heap.objs.size+i≠d.heap.objs.size+j:=λi j n e=>n (Nat.add_left_cancel e);let nl:∀(c:Addr)(i:Nat),c < d.heap.objs.size->c≠d.heap.objs.size+i:=λc i l e=>absurd (Nat.lt_of_lt_of_le l (Nat.le_add_right _ i)) (by rw[<- e];exact Nat.lt_irrefl _);let n0:∀j:Nat,j≠0->d.heap.objs.size+j≠d.heap.objs.size:=λj n e=>n (Nat.add_left_cancel (e.trans (Nat.add_zero _).symm));exists d.heap.objs.size+4,[d.heap.objs.size+4,d.heap.objs.size+2,d.heap.objs.size+3,d.heap.objs.size,d.heap.objs.size+1],_,Itz X.K a b,H1,8,g.kept (t':=d.toks) w,Sm _ _ _ _ _ a b,⟨7,v,J,⟨_,_,L⟩,M,N⟩,λc x=>?_,q
 .exact⟨f 2 4 ∅,f 3 4 ∅,(n0 4 ∅).symm,f 1 4 ∅,f 2 3 ∅,n0 2 ∅,f 2 1 ∅,n0 3 ∅,f 3 1 ∅,(n0 1 ∅).symm,
   nl a 4 k,nl a 3 k,Nat.ne_of_lt k,nl a 1 k,nl b 4 m,nl b 3 m,Nat.ne_of_lt m,nl b 1 m⟩
 .let r:d.heap.objs.size<=c:=by
   simp only[mem_cons,not_mem_nil,or_false] at x;rcases x with rfl | rfl | rfl | rfl | rfl<;>first | exact Nat.le_add_right _ _ | exact Nat.le_refl _
  exact g.fpOk r (g.hok.fresh r)
theorem Dw{K:Frag}{g:TG}{tb:TS}{D:jY}(q:Nat->St->Hp->Prop)(u:q 0 σ H)(w:∀i σ H,i<=min xs.length ys.length->q i σ H->SqL K H a xs/\SqL K H b ys)(hs:∀i x y σ H T,xs[i]?=some x->ys[i]?=some y->q i σ H->H T=none->g (.ref T) σ (upd H T (.tup [x,y])) λr H2=>tb { D with nx:=q (i+1),ct:=q (i+1),bk:=D.nx } r H2)(A:∀σ H,q (min xs.length ys.length) σ H->D.nx σ H):
  ∃W:Nat->Nat->St->Hp->Prop,(∃m,W 0 m σ H)/\∀i m σ H,W i m σ H->
   ((Itz K a b).stop i H/\D.nx σ H)\/((Itz K a b).go i H/\∃N:St->Hp->Prop,(∀s H',N s H'->∃t,t < m/\W (i+1) t s H')/\∀x H',(Itz K a b).yld i H x H'->g x σ H' λr H2=>tb { D with nx:=N,ct:=N,bk:=D.nx } r H2):=by
 exists λi m σ H=>m=min xs.length ys.length - i/\i<=min xs.length ys.length/\q i σ H,⟨9,Nat.zero_le _,u⟩,7;rintro i m σ H ⟨rfl,hi,p⟩;let⟨c,d⟩:=w i σ H hi p
 by_cases f:i < min xs.length ys.length
 .let h:i < xs.length:=by lia
  let j:i < ys.length:=by lia
  refine .inr ⟨⟨xs,ys,xs[i],ys[i],c,d,by simp[h],by simp[j]⟩,q (i+1),λs H' k=>⟨min xs.length ys.length - (i+1),6,8,f,k⟩,λv H' z=>?_⟩;let⟨T,x,y,rfl,l,rfl,n⟩:=z;let⟨ex,o⟩:=n xs ys c d;exact hs i x y σ H T ex o p l
 .let e:i=min xs.length ys.length:=by lia
  subst e;exact .inl ⟨⟨xs,ys,c,d,6⟩,A σ H p⟩
theorem wU{K:Frag}(r:Nat->vk->Hp->Prop)(s:r 0 [] (upd H1 D (.lst [])))(t:∀i zs H,r i zs H->H D=some (.lst zs))(u:∀i zs H,i<=min xs.length ys.length->r i zs H->SqL K H a xs/\SqL K H b ys)(hs:∀i zs x y H T,xs[i]?=some x->ys[i]?=some y->r i zs H->H T=none->∀(C:Nat->vk->Hp->Prop),(∀zs H,r (i+1) zs H->C (i+1) zs H)->Me nl fr g tt te σ D C i zs (.ref T) (upd H T (.tup [x,y])))(w:∀zs H,r (min xs.length ys.length) zs H->Q (.ref D) H):
  wK (Itz K a b) nl fr g tt te σ D H1 Q:=by
 exists λi m zs H=>m=min xs.length ys.length - i/\i<=min xs.length ys.length/\r i zs H,⟨9,Nat.zero_le _,s⟩,7;rintro i m zs H ⟨rfl,hi,p⟩;exists t i zs H p,7;let⟨c,d⟩:=u i zs H hi p
 by_cases f:i < min xs.length ys.length
 .let h:i < xs.length:=by lia
  let k:i < ys.length:=by lia
  refine .inr ⟨⟨xs,ys,xs[i],ys[i],c,d,by simp[h],by simp[k]⟩,λv H' z=>?_⟩;let⟨T,x,y,rfl,n,rfl,o⟩:=z;let⟨ex,q⟩:=o xs ys c d;exact hs i zs x y H T ex q p n (λj zs l=>∃m',m' < min xs.length ys.length - i/\m'=min xs.length ys.length - j/\j<=min xs.length ys.length/\r j zs l) λzs l z=>⟨min xs.length ys.length - (i+1),6,8,f,z⟩
 .let e:i=min xs.length ys.length:=by lia
  subst e;exact .inl ⟨⟨xs,ys,c,d,6⟩,w zs H p⟩
inductive Nf(x:V)(vs:vk)(H:Hp)(Q:VK):Prop where
 |mk (l:Addr) (xs:vk) (k:Nat) (i:Int) (y:V):x=.ref l->vs=[.int i,y]->i=(k:Int)->k<=xs.length->H l=some (.lst xs)->xs.length < sizeLine->Q .non (upd H l (.lst (xs.take k++y :: xs.drop k)))->Nf x vs H Q
theorem Ad:MtM X "list.insert" Nf:=by
 intro pins s σ H x vs v p Q I f g h;let⟨l,xs,k,i,y,rfl,rfl,o,u,d,w,q⟩:=h
 cases f
 let⟨A,b,rfl,⟨t,rfl⟩,j⟩:=xE g;let⟨z,a,n,r,B,e⟩:=I.lstM d;let hs:sizeLine=16777216:=sizeLine_eq;let c:¬(!Builtin.List.listFitsIndex i)=true:=by
  rw[fitsIndex_both () ()];exact Bool.false_ne_true
 let hM:=AutoSeq1.list_insert_list_int_val_1 l a.toArray n i t b c (by rw[size_toArray];lia);refine call_meets F.slot_list_insert ⟨_,e,8⟩ F.entry_list_insert (F.args_list_insert_3 (Value.ref l) (Value.int i t) b) hM ⟨e,7⟩;exists .non,_,I.lset (its':=a.take k++b :: a.drop k) d e ?_ ((r.take k).append (.cons j (r.drop k))) ?_,8,q
 .let m:(if i < 0 then (i+(a.toArray.size:Int)).toNat else min i.toNat a.toArray.size)=k:=by
   rw[if_neg (),size_toArray];lia
  show (a.toArray.extract 0 (if i < 0 then (i+(a.toArray.size:Int)).toNat else min i.toNat a.toArray.size)).push b++a.toArray.extract (if i < 0 then (i+(a.toArray.size:Int)).toNat else min i.toNat a.toArray.size)=_;rw[m];apply Array.ext';simp[take_of_length_le]
 .rw[wq,length_cons,length_take,length_drop];lia
end
def Tb(h0:Heap)(H:Hp)(h:Heap)(a:Addr)(v:Value):Prop:=
 v=.none\/∃T oT ts,v=.ref T/\T≠a/\h0.get? T=none/\H T=none/\h.get? T=some oT/\oT.data=.fields ts/\ts[3]?=some .none
structure Fl(h0:Heap)(H:Hp)(h:Heap)(a:Addr)(C:Value)(d:Option Addr):Prop where
 new:h0.get? a=none
 free:H a=none
 at_:∃oe vs v,h.get? a=some oe/\oe.cls=C/\oe.dict=d/\oe.data=.fields vs/\vs[1]?=some v/\Tb h0 H h a v
theorem Fl.older(F:Fl h0 H h a C d)(k:∀b,h0.get? b=none->h1.get? b=none):Fl h1 H h a C d:=by
 let⟨n,f,c,vs,v,e,g,i,j,l,t⟩:=F;exists k _ n,f,c,vs,v,e,g,i,j,l,7;rcases t with t | ⟨T,m,ts,o,p,q,r⟩
 .exact .inl t
 .exact .inr ⟨T,m,ts,o,p,k _ q,r⟩
theorem xQ(f:Array Value->Array Value)(o:Obj):(o.mapFields f).dict=o.dict:=by
 let⟨c,d,a,b⟩:=o
 cases a<;>rfl
section
variable {M:Model} {A:Around} {E:Value->Shared->Prop} {s:Shared}
theorem Aw{t:Value}(w:A.frames=some (env :: outer))(y:s.heap.FunFrames base (env :: outer))(D:env.frame=some L)(B:s.heap.get? e=some oe)(u:oe.data=.fields vs)(hsz:1 < vs.size)(h:∀h' T C ts,s.heap.objs.size<=T->(∀b o,b∉frs (env :: outer)->b≠e->s.heap.get? b=some o->h'.get? b=some o)->(∀b o,b∈frs (env :: outer)->s.heap.get? b=some o->∃v,h'.get? b=some { o with slots:=v })->
   h'.get? e=some (oe.mapFields (·.setIfInBounds 1 (.ref T)))->h'.get? T=some C->C.data=.fields ts->ts[3]?=some .none->T≠e->Q .unit { s with heap:=h' }):
  wpAny M A (do let a <- frameOf env;let pl <- entryPlaceOf L hadNext;let b <- EntryCells.newEntry t a .none (rawInt L) .none pl;setField (.ref e) 1 b) (λ_ s'=>wpAny M A (setFlight (.ref e) none) Q E s') E s:=by
 let i:e∉frs (env :: outer):=λhm=>by
  let⟨_,o,ho,n⟩:=y.mem hm;rw[B] at ho;injection ho with ho;subst ho;exact n vs u
 refine wpAny_bind (wpAny_frameOf_fun w y D λc d=>?_);refine wpAny_bind (wpAny_entryPlaceOf λpl m=>?_);unfold EntryCells.newEntry newFields;refine wpAny_bind (wpAny_newObj_type ?_ (m.sizeOk5 _ _ _ _ _));have he₁:c.get? e=some oe:=(d.2.1 e i).trans B;have he₂:=Heap.get?_push_of_some (h:=c) { cls:=.type "traceback",dict:=none,data:=.fields ([t,.ref L,.none,rawInt L,.none]++(if pl.isEmpty then replicate 6 Value.none else pl)).toArray } he₁;refine wpAny_setField he₂ u hsz ?_;let j:c.objs.size≠e:=Nat.ne_of_gt (Heap.lt_size he₁);have hd₃:=Obj.data_mapFields u (·.setIfInBounds 1 (Value.ref c.objs.size));have he₃:=Heap.get?_update_self (Obj.mapFields (·.setIfInBounds 1 (Value.ref c.objs.size))) he₂ (Obj.isFreed_of_fields hd₃);have hT₃:=(Heap.get?_update_other (c.push { cls:=.type "traceback",dict:=none,data:=.fields ([t,.ref L,.none,rawInt L,.none]++(if pl.isEmpty then replicate 6 Value.none else pl)).toArray })
  (Obj.mapFields (·.setIfInBounds 1 (Value.ref c.objs.size))) (Ne.symm j)).trans (Heap.get?_push_size c rfl)
 unfold setFlight;refine wpAny_bind (wpAny_field he₃ hd₃ (x:=.ref c.objs.size) (by simp[hsz]) ?_);rw[if_pos (show (Value.ref c.objs.size != Value.none)=true from by simp)];let k:∀b o,b≠e->c.get? b=some o->
   (((c.push { cls:=.type "traceback",dict:=none,data:=.fields ([t,.ref L,.none,rawInt L,.none]++(if pl.isEmpty then replicate 6 Value.none else pl)).toArray }).update e (Obj.mapFields (·.setIfInBounds 1 (Value.ref c.objs.size)))).update c.objs.size
    (Obj.mapFields (·.setIfInBounds 3 ((none:Option Addr).elim Value.none λf=>rawInt f)))).get? b=some o:=λb o l g=>by
  let p:c.objs.size≠b:=Nat.ne_of_gt (Heap.lt_size g);rw[Heap.get?_update_other _ _ p,Heap.get?_update_other _ _ (Ne.symm l)];exact Heap.get?_push_of_some _ g
 refine wpAny_setField hT₃ rfl (by simp only[size_toArray,wq,length_cons,length_nil]<;>lia) (h _ c.objs.size _ _ (Nat.le_of_eq d.1.symm) ?_ ?_ ?_
  (Heap.get?_update_self _ hT₃ (Obj.isFreed_of_fields (Obj.data_mapFields rfl _))) (Obj.data_mapFields rfl _) ?_ j)
 .exact λb o g l q=>k b o l ((d.2.1 b g).trans q)
 .intro b o g q;let⟨v,r⟩:=d.2.2 b o q;exists v,k b _ (λz=>i (z ▸ g)) r
 .rw[Heap.get?_update_other _ _ j];exact he₃
 .first | (simp;done) | (rcases m with rfl | ⟨_,_,_,_,_,_,_,rfl⟩<;>simp)
theorem Ue(Z:A.frames=some (env :: outer))(hl:s.heap.FunFrames base (env :: outer))(Y:env.frame=some L)(F:Fl h0 H s.heap e C d)(X:∀b,s.heap.objs.size<=b->h0.get? b=none/\H b=none)(h:∀(h':Heap)(ch:List Addr),(∀b∈ch,h0.get? b=none/\H b=none/\∃o vs,s.heap.get? b=some o/\o.data=.fields vs)->(∀b o,b∉frs (env :: outer)->b∉ch->s.heap.get? b=some o->h'.get? b=some o)->
   (∀b o,b∈frs (env :: outer)->s.heap.get? b=some o->∃sl,h'.get? b=some { o with slots:=sl })->Fl h0 H h' e C d->Q .unit { s with heap:=h' }):
  wpAny M A (noteFrame (.ref e) env) (λ_ s'=>wpAny M A (setFlight (.ref e) none) Q E s') E s:=by
 let⟨n,f,J,vs,v,k,K,N,j,G,t⟩:=F;let m:1 < vs.size:=(Array.getElem?_eq_some_iff.mp G).1;let D:∀{h':Heap}{T:Addr}{l:Obj}{ts:Array Value},s.heap.objs.size<=T->h'.get? e=some (J.mapFields (·.setIfInBounds 1 (.ref T)))->h'.get? T=some l->l.data=.fields ts->ts[3]?=some .none->T≠e->Fl h0 H h' e C d:=by
  intro h' T l ts z p r u x g;exists n,f,_,_,.ref T,p,7,7,Obj.data_mapFields j _,by simp[m],.inr ⟨T,l,ts,8,g,(X T z).1,(X T z).2,r,u,x⟩
  .rw[Obj.cls_mapFields];exact K
  .rw[xQ];exact N
 rcases t with rfl | ⟨T,l,ts,rfl,O,P,R,y,B,I⟩
 .unfold noteFrame;simp only[Y];refine wpAny_bind (wpAny_field k j G ?_);rw[if_neg ∅];refine Aw Z hl Y k j m λh' T l ts z k1 k2 p r u x g=>?_;refine h h' [e] (λb a=>?_) (λb o h1 h2 q=>k1 b o h1 (λw=>h2 (by simp[w])) q) k2 (D z p r u x g);let a:b=e:=by simpa using a
  subst a;exists n,f,_,_,k,j
 .unfold noteFrame;simp only[Y];refine wpAny_bind (wpAny_field k j G ?_);rw[if_pos (show (Value.ref T != Value.none)=true from by simp)];refine wpAny_bind (wpAny_field y B I ?_);rw[if_neg (show ¬((Value.none == rawInt L)=true) from by simp[rawInt])];refine wpAny_bind (wpAny_setField y B (Array.getElem?_eq_some_iff.mp I).1 ?_);let other:∀b,b≠T->(s.heap.update T (Obj.mapFields (·.setIfInBounds 3 Value.none))).get? b=s.heap.get? b:=λb a=>Heap.get?_update_other _ _ (Ne.symm a);let c:∀b o,s.heap.get? b=some o->(∀vs,o.data≠.fields vs)->b≠T:=λb o a i q=>by
   rw[q,y] at a;injection a with a;subst a;exact i ts B
  let nofr:∀b,b∈frs (env :: outer)->b≠T:=λb a=>by
   let⟨_,o,ho,i⟩:=hl.mem a;exact c b o ho i
  refine Aw (s:={ s with heap:=s.heap.update T (Obj.mapFields (·.setIfInBounds 3 Value.none)) }) (base:=base) Z (hl.of_keeps λb o a i=>⟨o,(other b (c b o a i)).trans a,8⟩) Y ((other e (Ne.symm O)).trans k) j m
   λh' S V W z k1 k2 p r u x g=>?_
  let U:s.heap.objs.size<=S:=by
   have:=Heap.size_after_update s.heap T (Obj.mapFields (·.setIfInBounds 3 Value.none));exact Nat.le_trans (Nat.le_of_eq this.symm) z
  refine h h' [e,T] (λb a=>?_) (λb o h1 h2 q=>?_) (λb o a q=>?_) (D U p r u x g)
  .rcases mem_cons.mp a with a | a
   .subst a;exists n,f,_,_,k,j
   .let a:b=T:=by simpa using a
    subst a;exists P,R,_,_,y,B
  .exact k1 b o h1 (λw=>h2 (by simp[w])) ((other b λw=>h2 (by simp[w])).trans q)
  .exact k2 b o a ((other b (nofr b a)).trans q)
end
section
variable {X:Cx} {pins:List (Addr × Obj)} {σ:List (Option V)} {H H':Hp} {s:Shared} {h':Heap}
theorem cP.ex(x:cP P w H h a o):∃u,h.get? a=some u:=by
 cases o with
 |lst xs=>let⟨_,_,_,_,e⟩:=x;exists _,e
 |tup xs=>let⟨_,_,_,o,e,_⟩:=x;exists _,e
 |dK kvs=>let⟨_,_,_,_,o,_,_,e,_⟩:=x;exists _,e
 |dT kvs=>let⟨_,_,_,_,o,_,_,e,_⟩:=x;exists _,e
 |set S n=>let⟨o,_,_,_,e,_⟩:=x;exists _,e
 |ins C dx fs=>let⟨_,_,_,e,_⟩:=x;exists _,e
 |own y=>let⟨_,e⟩:=x;exists _,e
 |xd fs=>let⟨_,⟨_,_,_,e,_⟩,_⟩:=x;exists _,e
 |rng lo hi=>let⟨_,_,_,e⟩:=x;exists _,e
 |frz ob u=>let⟨e,_⟩:=x;exists _,e
 |tbl ps=>exact⟨_,(show h.get? a=some _ from x)⟩
 |met f y=>exact⟨_,(show h.get? a=some _ from x)⟩
 |ext φ=>let⟨_,⟨_,e⟩,_⟩:=x;exists _,e
theorem HOk.none_of(x:HOk P w H h)(e:h.get? a=none):H a=none:=by
 cases q:H a with
 |none=>rfl
 |some o=>
  let⟨u,hu⟩:=(x a o q).ex;rw[e] at hu;cases hu
theorem Inv.stepN{ch:List Addr}(I:Inv X pins σ H s)(L:∀b∈ch,X.s₀.heap.get? b=none/\b≠X.env.locals/\(∀x c,X.env.cells.lookup x=some c->c≠b)/\∀p∈X.pn++pins,p.1≠b)(keep:∀b o,b≠X.env.locals->b∉X.fs->b∉ch->s.heap.get? b=some o->H b=none->h'.get? b=some o)(slot:∀b o,b≠X.env.locals->b∈X.fs->b∉ch->s.heap.get? b=some o->H b=none->∃M,h'.get? b=some { o with slots:=M })(there:∀b o,b∉ch->s.heap.get? b=some o->∃o',h'.get? b=some o')(ns:∀m,s.heap.Ns X.env.locals m->h'.Ns X.env.locals m)(N:HOk X.prog X.w H h')(O:AllBare g'):
  Inv X pins σ H { s with heap:=h',gens:=g',drawn:=d',toks:=t' }:=by
 let y:∀b o,X.s₀.heap.get? b=some o->b≠X.env.locals:=λb o e=>Nat.ne_of_lt (Nat.lt_of_lt_of_le (Heap.lt_size e) I.ok.above);let j:∀b o,X.s₀.heap.get? b=some o->b∉ch:=λb o e f=>by rw[(L b f).1] at e;cases e
 let g:∀x c,X.env.cells.lookup x=some c->∀v,s.heap.IsCell c v->h'.IsCell c v:=λx c e v ⟨o,ho,B⟩=>by
  let h:c∉ch:=λz=>(L c z).2.2.1 x c e rfl
  by_cases C:c∈X.fs
  .let⟨M,q⟩:=slot c o (I.cne x c e) C h ho (I.freeC x c e);exists _,q,B
  .exists o,keep c o (I.cne x c e) C h ho (I.freeC x c e),B
 exists I.ok,I.os,O,⟨λb o e n f a=>?_,λb o e n f a=>?_,λb o e n a=>?_,λb o e a=>?_,λb xs e=>I.base.tups b xs e,λb o xs e=>I.base.frzs b o xs e,λb ps e=>I.base.tbls b ps e⟩,7,λx c e=>?_,I.free,I.freeC,λp hp=>?_,N,I.len
 .exact keep b o (y b o e) f (j b o e) (I.base.keep b o e n f a) (I.base.free b o e n a)
 .let⟨M,t⟩:=I.base.slot b o e n f a;let⟨D,A⟩:=slot b _ (y b o e) f (j b o e) t (I.base.free b o e n a);exists D,A
 .exact I.base.free b o e n a
 .let⟨o',t⟩:=I.base.there b o e a;exact there b o' (j b o e) t
 .let⟨m,G,J⟩:=I.loc;exists m,ns m G,λi x v t A K=>?_;let⟨u,r,l⟩:=J i x v t A K;exists u,r,7;rcases l with l | ⟨k,c,e,z⟩
  .exact .inl l
  .exact .inr ⟨k,c,e,g x c e _ z⟩
 .let⟨v,z⟩:=I.cell x c e;exists v,g x c e v z
 .let⟨e,n,E,F,d⟩:=I.pin p hp;let h:p.1∉ch:=λz=>(L p.1 z).2.2.2 p hp rfl;exists keep p.1 p.2 E F h e n,n,E,F,d
structure Frm(X:Cx):Prop where
 ex:X.ex=[]
 st:X.stack=X.env :: X.outer
 fr:X.env.frame=some X.env.locals
def uS(X:Cx)(pins:List (Addr × Obj))(σ:List (Option V))(H:Hp)(s:Shared)(a:Addr)(C:Value)(d:Option Addr):Prop:=
 Inv X pins σ H s/\∃h0:Heap,(∀p∈X.pn++pins,h0.get? p.1≠none)/\(∀b o,X.s₀.heap.get? b=some o->∃o',h0.get? b=some o')/\(∀b o,h0.get? b=some o->∃o',s.heap.get? b=some o')/\Fl h0 H s.heap a C d
theorem tT{h1 h2:Heap}(k:∀b o,h1.get? b=some o->∃o',h2.get? b=some o')(b:Addr)(e:h2.get? b=none):h1.get? b=none:=by
 cases q:h1.get? b with
 |none=>rfl
 |some o=>let⟨o',z⟩:=k b o q;rw[e] at z;cases z
theorem Nr{h:Heap}(e:h.objs.size<=b):h.get? b=none:=Heap.get?_none_of_le e
theorem tZ{h:Heap}(e:h.get? b=some o)(hd:o.data=.fields vs)(a:h.get? c=some o')(d:∀vs,o'.data≠.fields vs):b≠c:=by
 intro z;subst z;rw[e] at a;cases a;exact d vs hd
theorem Cz{a:Addr}{C:Value}{d:Option Addr}{k:Heap}(I:Inv X pins σ H s)(hp:∀p∈X.pn++pins,k.get? p.1≠none)(hs:∀b o,X.s₀.heap.get? b=some o->∃o',k.get? b=some o'){b:Addr}(l:k.get? b=none/\H b=none/\∃o vs,s.heap.get? b=some o/\o.data=.fields vs) :
  X.s₀.heap.get? b=none/\b≠X.env.locals/\(∀x c,X.env.cells.lookup x=some c->c≠b)/\∀p∈X.pn++pins,p.1≠b:=by
 let⟨h1,h2,o,vs,h,h4⟩:=l;exists tT hs b h1,7,λx c e=>?_,λp i z=>hp p i (by rw[z];exact h1)
 .let⟨m,⟨o',es,j,f,g,_⟩,_⟩:=I.loc;exact tZ h h4 f λvs z=>by rw[g] at z;cases z
 .let⟨v,o',f,g⟩:=I.cell x c e;exact Ne.symm (tZ h h4 f λvs z=>by rw[g] at z;cases z)
theorem Mt(M:A'.frames=some X.stack)(K:Frm X)(L:uS X pins σ H s a C d)(h:∀s',uS X pins σ H s' a C d->Q .unit s'):
  wpAny (model X.prog X.w) A' (noteFrame (.ref a) X.env) (λ_ N=>wpAny (model X.prog X.w) A' (setFlight (.ref a) none) Q E N) E s:=by
 let⟨I,y,hp,hs,p,F⟩:=L;let j:=I.stack;let g:=I.stkFree;rw[K.st] at M j g;let f:frs (X.env :: X.outer)=X.env.locals :: X.fs:=by unfold frs;rw[filterMap_cons,K.fr];rfl
 refine Ue (base:=X.base) M j K.fr F (λb i=>⟨tT p b (Nr i),I.hok.fresh i⟩) λh' t c1 k l A=>?_;let tr:∀c u,H c=some u->∀v,s.heap.get? c=some v->h'.get? c=some v:=λc u e v q=>
  k c v (λz=>by rw[g c z] at e;cases e) (λz=>by rw[(c1 c z).2.1] at e;cases e) q
 let th:∀b o,b∉t->s.heap.get? b=some o->∃o',h'.get? b=some o':=λb o i q=>by
  by_cases x:b∈frs (X.env :: X.outer)
  .let⟨B,e⟩:=l b o x q;exists _,e
  .exists o,k b o x i q
 let J:Inv X pins σ H { s with heap:=h',gens:=s.gens,drawn:=s.drawn,toks:=s.toks }:=by
  refine I.stepN (ch:=t) (λb i=>Cz (a:=a) (C:=C) (d:=d) I hp hs (c1 b i)) (λb o h1 h2 D e _=>k b o (by rw[f];intro z;rcases mem_cons.mp z with z | z;exact h1 z;exact h2 z) D e)
   (λb o _ h2 _ e _=>l b o (by rw[f];exact mem_cons_of_mem _ h2) e) th (λm hm=>?_) (λb u e=>?_) I.bare
  .let⟨o,es,G,ho,r⟩:=hm;let⟨B,e⟩:=l _ o (by rw[f];exact mem_cons_self) ho;exists _,es,G,e,r
  .refine(I.hok b u e).stay (λc v n q=>?_) (λ_ q=>q) λ_ _ q=>q;rcases n with rfl | n
   .exact tr c u e v q
   .exact tr c _ n v q
 refine h _ ⟨J,y,hp,hs,λb o e=>?_,A⟩;let⟨o',e'⟩:=p b o e;exact th b o' (λz=>by rw[(c1 b z).1] at e;cases e) e'
theorem Zk(L:uS X pins σ H s a C d)(h:∀s',uS X pins σ H s' a C d->Q .unit s'):wpAny (model X.prog X.w) A' (setFlight (.ref a) none) Q E s:=by
 let P:=L;let⟨I,B,hp,hs,R,F⟩:=P;let⟨n,f,S,vs,v,D,U,V,G,K,t⟩:=F;unfold setFlight;refine wpAny_bind (wpAny_field D G K ?_);rcases t with rfl | ⟨T,Z,ts,rfl,M,y,l,p,i,W⟩
 .rw[if_neg ∅];exact wpAny_pure (h s L)
 .rw[if_pos (show (Value.ref T != Value.none)=true from by simp)];let j:3 < ts.size:=(Array.getElem?_eq_some_iff.mp W).1;let other:∀b,b≠T->(s.heap.update T (Obj.mapFields (·.setIfInBounds 3 ((none:Option Addr).elim Value.none λf=>rawInt f)))).get? b=s.heap.get? b:=λb g=>Heap.get?_update_other _ _ (Ne.symm g);let N:=Heap.get?_update_self (Obj.mapFields (·.setIfInBounds 3 ((none:Option Addr).elim Value.none λf=>rawInt f))) p (Obj.isFreed_of_fields (Obj.data_mapFields i _));refine wpAny_setField p i j ?_;let c1:∀b∈[T],B.get? b=none/\H b=none/\∃o vs,s.heap.get? b=some o/\o.data=.fields vs:=λb g=>by
   let g:b=T:=by simpa using g
   subst g;exists y,l,_,_,p,i
  let A:∀b,b∉[T]->b≠T:=λb g z=>g (by simp[z]);let J:Inv X pins σ H { s with heap:=(s.heap.update T (Obj.mapFields (·.setIfInBounds 3 ((none:Option Addr).elim Value.none λf=>rawInt f)))),gens:=s.gens,drawn:=s.drawn,toks:=s.toks }:=by
   refine I.stepN (ch:=[T]) (λb g=>Cz (a:=a) (C:=C) (d:=d) I hp hs (c1 b g)) (λb o _ _ k e _=>(other b (A b k)).trans e) (λb o _ _ k e _=>⟨o.slots,(other b (A b k)).trans e⟩)
    (λb o k e=>⟨o,(other b (A b k)).trans e⟩) (λm hm=>?_) (λb u e=>?_) I.bare
   .let⟨o,es,Y,ho,O,r⟩:=hm;exists o,es,Y,(other _ (Ne.symm (tZ p i ho λvs z=>by rw[O] at z;cases z))).trans ho,O,r
   .refine(I.hok b u e).stay (λc v x q=>(other c ?_).trans q) (λ_ q=>q) λ_ _ q=>q;rintro rfl;rcases x with rfl | x
    .rw[l] at e;cases e
    .rw[l] at x;cases x
  refine h _ ⟨J,B,hp,hs,λb o e=>?_,⟨n,f,S,vs,.ref T,(other a (Ne.symm M)).trans D,U,V,G,K,.inr ⟨T,_,9,M,y,l,N,Obj.data_mapFields i _,by simp[j]⟩⟩⟩;let⟨o',e'⟩:=R b o e;exists o',(other b (λz=>by rw[z,y] at e;cases e)).trans e'
end
def CX1(P:Program)(w:World):CXT:=λouter H s E e s'=>∃a C d H',e=.ref a/\s'.os=s.os/\AllBare s'.gens/\Un (frs outer) [] H H' s.heap s'.heap/\HOk P w H' s'.heap/\Fl s.heap H' s'.heap a C d/\E C d H'
def Xr(X:Cx)(E:XK):Prop:=∀(pins:List (Addr × Obj))(σ:St)(H:Hp)(s:Shared)(a:Addr)(C:Value)(d:Option Addr),uS X pins σ H s a C d->E C d H->X.xe (.ref a) s
section
variable {X:Cx} {pins:List (Addr × Obj)} {σ:List (Option V)} {H:Hp} {s s':Shared} {E:XK} {e:Value}
theorem qR(h:Frm X)(I:Inv X pins σ H s)(g:CX1 X.prog X.w X.stack H s E e s'):∃a C d H',e=.ref a/\uS X pins σ H' s' a C d/\E C d H':=by
 let⟨a,C,d,H',rfl,os,c,un,f,F,q⟩:=g;exists a,C,d,H',8,⟨I.call' (ch:=[]) os un f c (λb z=>absurd z ⋯),s.heap,λp hp z=>?_,λb o e=>I.base.there b o e (by rw[h.ex];simp),λb o e=>un.there b o e ⋯,F⟩,q;rw[(I.pin p hp).1] at z;cases z
theorem tL(c:Frm X)(f:Xr X E):kB (CX1 X.prog X.w) X E:=λpins σ H s e s' I b=>by
 let⟨a,C,d,H',rfl,L,q⟩:=qR c I b;exact f pins σ H' s' a C d L q
end
theorem jP{K:Frag}:
  Frm (zC CX P w K mg base N qual scope f cd A outer s H E):=⟨8,8,8⟩
theorem oX{K:Frag}:
  Xr (zC (CX1 P w) P w K mg base N qual scope f cd A outer s H E) E:=by
 intro pins σ H' s' a C d L q;show wpAny (model P w) (A.deeper (envOfC qual scope s.heap.objs.size f cd)) (leaving (envOfC qual scope s.heap.objs.size f cd) (.ref a)) (λ_ c=>CX1 P w outer H s E (.ref a) c) (λh c=>CX1 P w outer H s E h c) s';unfold leaving;refine wpAny_bind (Mt (X:=zC (CX1 P w) P w K mg base N qual scope f cd A outer s H E) L.1.ok.frames jP L λc e=>?_);let⟨J,j,hp,g,i,F⟩:=e;exists a,C,d,H',8,J.os,J.bare,J.base,J.hok,F.older λb z=>tT g b z,q
abbrev uV:List Value:=[.type "ValueError",.type "Exception",.type "BaseException",.type "object"]
def qd4(K:Frag)(C:Addr):Prop:=W.excIn K C uV "ValueError.__new__"=true
theorem qr9{K:Frag}(X:K.In h)(q:W.excIn K C bmB newId=true):
  ∃bm N nm k bs hdct sn sub ab col dd k0 k1 k2 k3 k5 mN,h.get? C=some (excClassObj nm k C N bs bm hdct sn sub ab col dd k0 k1 k2 k3 k5 newId)/\h.Ns N mN/\mN "__init__"=none/\OwnTail h bmB bm:=by
 unfold W.excIn at q;split at q
 .rename_i dd cd sl ho
  split at q
  .rename_i C' bm k0 k1 k2 k3 n k5 hm hs
   simp only[Bool.and_eq_true,beq_iff_eq,Bool.not_eq_true'] at q;let⟨⟨⟨⟨⟨rfl,rfl⟩,a⟩,e⟩,b⟩,c⟩:=q;let⟨nm,bs,i,f,k,g,sn,sub,ab,col,j⟩:=cd;dsimp only at hm a b c;subst hm a;let d:sl=#[k0,k1,k2,k3,some (.builtin n),k5]:=by
    let⟨l⟩:=sl;simp only at hs;rw[hs]
   subst d;exists bm,f,nm,k,bs,g,sn,sub,ab,col,dd,k0,k1,k2,k3,k5,_,X _ _ ho,.of_isNs (W.isNs_of_in X b),W.nsMap_none_of_in X b c,W.tail_of_in X e
  .cases q
 .cases q
section
variable {X:Cx} {pins:List (Addr × Obj)} {σ:List (Option V)} {H:Hp} {s:Shared}
def qj7(C:Addr)(E:XK)(ta:TA):TS:=λ_ σ H=>ta σ H λvs H1=>vs.length<=sizeLine/\E (.ref C) none H1
theorem Rv(M:Frm X)(O:Xr X E)(P:X.calm=true)(Q:Gl X x)(hm:X.mg x=some (.ref C))(q:qd4 X.K C)(R:PA X (B :: es) ta)(G:(x == ("__debug__":Str))=false:=by decide)(J:starEach (B :: es) X.env=(false,eval B X.env) :: starEach es X.env:=by rfl)(L:(backTo cpos (starEach es X.env)).any (·.1)=false:=by rfl):
  PS X (.Raise (some (.Call (.Name x np) (B :: es) [] cpos)) none pos) (qj7 C E ta):=by
 intro pins s σ H D I h;let⟨tl,N,nm,k,bs,hdct,sn,sub,ab,col,dd,k0,k1,k2,k3,k5,l,m,n,g,T⟩:=qr9 I.mod.kin q;let f:=PySem.F.excBase_ValueError;refine wpAny_Raise_call_subU (C:=C) (nm:=nm) (q:=k) (N:=N) (bs:=bs) (bm:=tl) (hdct:=hdct) (sn:=sn) (sub:=sub) (ab:=ab) (col:=col) (dd:=dd) (k0:=k0) (k1:=k1) (k2:=k2) (k3:=k3) (k5:=k5)
  f ∅ f (mN:=l) (T.hasType f.hasBase) (I.ok.hd P) (by rw[J];show (false || (backTo cpos (starEach es X.env)).any (·.1))=false;rw[L];rfl) g (jG I Q hm ⟨8,7⟩ G)
 let d:=R cpos pins s σ H _ I h;rw[J] at d ⊢;refine Calls.evalArgs_plain (wpAny_mono d (λvs i h2=>?_) λ_ _ y=>y);let⟨xs,H1,a,r,u,v⟩:=h2;exists 8,by rw[<- r.length];exact u,a.bk _ _ m,n.keeps a.bk,T.keeps a.bk,λh' e c=>?_;let⟨t,j,w,A⟩:=c.there;refine O pins σ H1 _ e (.ref C) none ⟨a.kept (t':=i.toks) c.keeps,i.heap,λp hp z=>?_,λb o e=>a.base.there b o e (by rw[M.ex];simp),λb o z=>⟨o,c.keeps b o z⟩,⟨c.new,a.hok.none_of c.new,_,_,.none,j,8,8,8,8,.inl rfl⟩⟩ v;rw[(a.pin p hp).1] at z;cases z
end
abbrev TEX:=St->Hp->VK->XK->Prop
abbrev TSX:=jY->(St->XK)->St->Hp->Prop
def XP(X:Cx)(pins:List (Addr × Obj))(E:St->XK)(e:Value)(s':Shared):Prop:=∃a C d σ' H',e=.ref a/\uS X pins σ' H' s' a C d/\E σ' C d H'
def PX(X:Cx)(e:Expr)(t:TEX):Prop:=
 ∀(pins:List (Addr × Obj))(s:Shared)(σ:St)(H:Hp)(Q:VK)(E:XK),Inv X pins σ H s->t σ H Q E->zzW X (eval e X.env) (EP X pins σ Q) (XP X pins λσ' C d H'=>σ'=σ/\E C d H') s
def PSX(X:Cx)(st:Stmt)(t:TSX):Prop:=
 ∀(pins:List (Addr × Obj))(s:Shared)(σ:St)(H:Hp)(D:jY)(E:St->XK),Inv X pins σ H s->t D E σ H->zzW X (exec st X.env) (SP X pins D) (XP X pins E) s
def Xx(X:Cx)(st:List Stmt)(t:TSX):Prop:=
 ∀(pins:List (Addr × Obj))(s:Shared)(σ:St)(H:Hp)(D:jY)(E:St->XK),Inv X pins σ H s->t D E σ H->zzW X (execs st X.env) (SP X pins D) (XP X pins E) s
theorem XP.at(h:XP X pins (λb C d H'=>b=σ/\E σ C d H') e s'):XP X pins E e s':=by
 let⟨a,C,d,b,H',rfl,L,rfl,q⟩:=h;exists a,C,d,b,H',8,L,q
section
variable {X:Cx} {k:Nat} {f C:Addr} {fd:FuncData} {ps:List Str} {sp:Sp} {dvs:vk} {ds:List Value} {x m:Str} {p pos apos:Pos} {e o:Expr} {es:List Expr} {ta:TE} {t:TA}
def qs5(sp:Sp)(dvs:vk)(t:TA):TEX:=λσ H Q E=>t σ H λvs H1=>sp (vs++dvs) H1 Q E
theorem qy4(F:aK X.prog X.w X.K X.mg X.base (CX1 X.prog X.w) k f fd ps sp)(g:Frm X)(i:hV k X.A)(j:aL X.K fd ps ds)(l:cB dvs ds)(I:Inv X pins σ H s)(r:cB vs us)(h:sp (vs++dvs) H Q E):zzW X (call (.ref f) us) (EP X pins σ Q) (XP X pins λm C d H'=>m=σ/\E C d H') s:=by
 let b:cB (vs++dvs) (us++ds):=r.append l;let c:(us++ds).length=ps.length:=by rw[<- b.length];exact F.len _ _ _ _ h
 refine wpAny_call (codeAny_mono (F.run X.A X.stack s H ⟨us,[]⟩ (us++ds) (vs++dvs) Q E i I.env0 (j s us I.kIn c) b h) λr s' hq=>?_)
 cases r with
 |error e=>
  let⟨a,C,d,H',rfl,L,q⟩:=qR g I hq;exists a,C,d,σ,H',8,L,8,q
 |ok fl=>
  cases fl with
  |ret u=>exact I.after hq
  |next=>exact False.elim hq
  |brk=>exact False.elim hq
  |cont=>exact False.elim hq
theorem Nj(F:aK X.prog X.w X.K X.mg X.base (CX1 X.prog X.w) k f fd ps sp)(i:Frm X)(j:hV k X.A)(l:Gl X x)(hm:X.mg x=some (.ref f))(m:W.keepIn X.K (.ref f)=true)(n:aL X.K fd ps ds)(o:cB dvs ds)(u:PA X.nox (e :: es) t)(d:(x == ("__debug__":Str))=false:=by decide)(v:starEach (e :: es) X.env=(false,eval e X.env) :: starEach es X.env:=by rfl)(g:(backTo pos (starEach es X.env)).any (·.1)=false:=by rfl) :
  PX X (.Call (.Name x p) (e :: es) [] pos) (qs5 sp dvs t):=by
 intro pins s σ H Q E I h;refine wpAny_Call_Name_kw (jG I l hm ?_ d);refine W.callWith_K (h₀:=X.base) I.ok.mod.kin m (wpAny_mono (u pos pins s σ H _ (I.wish _) h) (λb c h1=>?_) λ_ _ z=>False.elim z) v g;let⟨vs,H1,a,r,q⟩:=h1;exists a.kIn,qy4 F i j n o a.unwish r q
def qy0(te:TEX):TSX:=λD E σ H=>te σ H (λ_ H1=>D.nx σ H1) (E σ)
theorem Hq(f:PX X e te)(hs:swapsWith e none pos.line X.env=pure false:=by rfl):PSX X (.Expr e pos) (qy0 te):=by
 intro pins s σ H D E I h;exact wpAny_Expr_any (wpAny_mono (f pins s σ H _ _ I h) (λv c ⟨x,H1,a,d,b⟩=>⟨σ,H1,a,b⟩) λ_ _ z=>XP.at z) I.quiet hs
theorem yH{st:Stmt}{t:TSX}(h1:PSX X st t):Xx X [st] t:=by
 intro pins s σ H D E I h;refine wpAny_execs_cons (wpAny_mono (h1 pins s σ H D E I h) (λf a q=>?_) λ_ _ z=>z)
 cases f with
 |next=>exact wpAny_execs_nil q
 |ret v=>exact q
 |brk=>exact q
 |cont=>exact q
def xIf(c:TT)(t u:TSX):TSX:=λD E σ H=>c σ H λb H1=>if b=true then t D E σ H1 else u D E σ H1
theorem qi1{t u:TSX}(g:PT X.nox c tc)(i:Xx X a t)(j:Xx X b u):PSX X (.If c a b pos) (xIf tc t u):=by
 intro pins s σ H D E I h;refine wpAny_If (wpAny_mono (g pins s σ H _ (I.wish _) h) (λd e h1=>?_) λ_ _ z=>False.elim z);let⟨H1,f,q1⟩:=h1
 cases d with
 |true=>exact i pins e σ H1 D E f.unwish q1
 |false=>exact j pins e σ H1 D E f.unwish q1
end
abbrev Cx.sup(X:Cx)(a:Addr):Cx:={ X with A:=X.A.mark (some (.ref a)),calm:=false,xe:=λ_ _=>False }
section
variable {X:Cx} {pins:List (Addr × Obj)} {σ:List (Option V)} {H:Hp} {s:Shared} {a:Addr}
theorem Cx.Ok.sup(ok:X.Ok)(a:Addr):(X.sup a).Ok:=
 ⟨ok.mod,ok.kind,ok.glob,ok.blt,ok.above,ok.inj,ok.has,ok.cab,λz=>Bool.noConfusion z,ok.frames,ok.stk,ok.exf,ok.bs,ok.bsz,ok.noex,ok.exfs,ok.funs,ok.frf⟩
theorem Inv.sup(I:Inv X pins σ H s)(a:Addr):Inv (X.sup a) pins σ H s:=⟨I.ok.sup a,I.os,I.bare,I.base,I.loc,I.cell,I.free,I.freeC,I.pin,I.hok,I.len⟩
theorem Inv.unsup(ok:X.Ok)(I:Inv (X.sup a) pins σ H s):Inv X pins σ H s:=⟨ok,I.os,I.bare,I.base,I.loc,I.cell,I.free,I.freeC,I.pin,I.hok,I.len⟩
def kT(a:Addr)(C:Value)(d:Option Addr):HO:=.ext λh=>∃o vs,h.get? a=some o/\o.cls=C/\o.dict=d/\o.data=.fields vs
theorem uS.track(L:uS X pins σ H s a C d)(Q:Frm X):Inv X pins σ (upd H a (kT a C d)) s:=by
 let⟨I,N,hp,hs,O,F⟩:=L;let⟨n,f,m,vs,v,h,A,B,r,P,t⟩:=F;let⟨c1,D,E,G⟩:=Cz (a:=a) (C:=C) (d:=d) I hp hs (b:=a) ⟨n,f,_,_,h,r⟩;let tr:∀b u,H b=some u->upd H a (kT a C d) b=some u:=λb u e=>by rw[aQ (bA e f)];exact e
 exists I.ok,I.os,I.bare,⟨I.base.keep,I.base.slot,λb o e J K=>?_,I.base.there,λb xs e=>tr _ _ (I.base.tups b xs e),λb o u e=>tr _ _ (I.base.frzs b o u e),λb ps e=>?_⟩,I.loc,I.cell,7,λx c e=>?_,λp g=>?_,λb o e=>?_,I.len
 .have:b≠a:=λz=>by rw[z,c1] at e;cases e
  rw[aQ this];exact I.base.free b o e J K
 .let⟨i,z⟩:=I.base.tbls b ps e;exists i,tr _ _ z
 .rw[aQ (Ne.symm D)];exact I.free
 .rw[aQ (E x c e)];exact I.freeC x c e
 .let⟨j,l,M⟩:=I.pin p g;exists j,by rw[aQ (G p g)];exact l,M
 .by_cases w:b=a
  .subst w;rw[aB] at e;cases e;exists ⟨m,vs,h,A,B,r⟩,⟨m,h⟩,λh1 h2 p k=>?_;let⟨o,y,j,l⟩:=p;exists o,y,k o j,l
  .rw[aQ w] at e;exact(I.hok b o e).stay (λ_ _ _ q=>q) (λc q=>tr _ _ q) λc xs q=>tr _ _ q
theorem pD(I:Inv X pins σ H s)(S:X.N.Nodup)(R:X.N[j]?=some n)(T:X.env.scope.names.lookup n=some .local)(h:∀s',Inv X pins (σ.set j none) H s'->Q .unit s'):wpAny (model X.prog X.w) A' (do bindName X.env n .none;unbindBehindTheSuite X.env n pos) Q E s:=by
 let⟨m,u,x⟩:=id I.loc;let r:(X.env.scope.kind == .class || (X.env.scope.kind == .module && X.env.locals != X.env.globals))=false:=by rw[I.ok.kind];rfl
 have hiσ:j < σ.length:=by rw[I.len];exact(wk.mp R).1
 let cne:=I.cne;refine wpAny_nameGoes_keeps T u r λh' v A hs=>?_;let⟨P,_,_,O,_⟩:=id u;refine h _ ⟨I.ok,I.os,I.bare,⟨λb o e n t f=>?_,λb o e n t f=>?_,I.base.free,λb o e f=>?_,I.base.tups,I.base.frzs,I.base.tbls⟩,⟨_,A,λi y D a l F=>?_⟩,λy c e=>?_,I.free,I.freeC,λp hp=>?_,λb G e=>?_,by simpa using I.len⟩
 .exact(hs.2 b (Nat.ne_of_lt (Nat.lt_of_lt_of_le (Heap.lt_size e) I.ok.above))).trans (I.base.keep b o e n t f)
 .let⟨J,a⟩:=I.base.slot b o e n t f;exists J,(hs.2 b (Nat.ne_of_lt (Nat.lt_of_lt_of_le (Heap.lt_size e) I.ok.above))).trans a
 .let⟨o',a⟩:=I.base.there b o e f;exists o',(hs.2 b (Nat.ne_of_lt (Nat.lt_of_lt_of_le (Heap.lt_size e) I.ok.above))).trans a
 .by_cases g:i=j
  .subst g;rw[getElem?_set_self hiσ] at l
   cases l
  .rw[getElem?_set_ne (Ne.symm g)] at l;let⟨K,L,q⟩:=x i y D a l F;exists K,L,7;rcases q with ⟨k,e⟩ | ⟨k,c,e,z⟩
   .refine .inl ⟨k,7⟩;have:y≠n:=λe=>g (xT S a (e ▸ R));simp[this,e]
   .exact .inr ⟨k,c,e,z.sameBut hs (cne y c e)⟩
 .let⟨B,z⟩:=I.cell y c e;exists B,z.sameBut hs (cne y c e)
 .let⟨e,n,C,M,d⟩:=I.pin p hp;exists (hs.2 p.1 C).trans e,n,C,M,d
 .refine(I.hok b G e).stay (λc B hc q=>(hs.2 c ?_).trans q) (λ_ q=>q) λ_ _ q=>q;rintro rfl;rcases hc with rfl | hc
  .rw[I.free] at e;cases e
  .rw[I.free] at hc;cases hc
end
abbrev TH:=Addr->Value->Option Addr->jY->St->Hp->Prop
def PH(X:Cx)(hs:List ExceptHandler)(t:TH):Prop:=
 ∀(pins:List (Addr × Obj))(s:Shared)(σ:St)(H:Hp)(D:jY)(a:Addr)(C:Value)(d:Option Addr),uS X pins σ H s a C d->t a C d D σ H->zzW X (handleBy (.ref a) X.env hs) (SP X pins D) X.xe s
section
variable {X:Cx} {pos np:Pos} {T:Str} {tc:Value} {b₀:Stmt} {suite:List Stmt} {rest:List ExceptHandler} {ts:TS} {tr:TH}
def qj2:TH:=λ_ _ _ _ _ _=>False
theorem Wk:PH X hs qj2:=λ_ _ _ _ _ _ _ _ _ h=>h.elim
def qe5(X:Cx)(T:Str)(c:Value):Prop:=X.mg T=some c\/(X.mg T=none/\bootBuiltins T=some c/\T≠"__name__")
theorem qp5(I:Inv X pins σ H s)(a:Gl X T)(b:qe5 X T tc)(h:Q tc s)(hd:(T == ("__debug__":Str))=false:=by decide):zzW X (eval (.Name T np) X.env) Q E s:=by
 rcases b with e | ⟨e,c,d⟩
 .exact jG I a e h hd
 .exact kJ I a e c h d hd
theorem uS.ty(L:uS X pins σ H s a C d):W.Looks M s.heap (typeOf (.ref a)) C:=by
 let⟨I,e,hp,hs,g,n,f,h,vs,v,b,c,_⟩:=L;subst c;exact(W.Looks.ld b).andThen .now
def Yj(K:Frag)(tc:Value)(j:Nat)(ts:TS)(tr:TH):TH:=λa C d D σ H=>∃b,W.exmOne K C tc=some b/\
 if b=true then ts { nx:=λσ' H'=>D.nx (σ'.set j none) H',rt:=D.rt,bk:=λσ' H'=>D.bk (σ'.set j none) H',ct:=λσ' H'=>D.ct (σ'.set j none) H' } (σ.set j (some (.ref a))) (upd H a (kT a C d)) else tr a C d D σ H
theorem qt7(w:Frm X)(p:X.N.Nodup)(t:X.N[j]?=some n)(o:X.env.scope.names.lookup n=some .local)(x:Gl X T)(y:qe5 X T tc)(hs:∀a,PSs (X.sup a) (b₀ :: suite) ts)(A:PH X rest tr)(B:(T == ("__debug__":Str))=false:=by decide):
  PH X (.ExceptHandler (some (.Name T np)) (some n) (b₀ :: suite) pos :: rest) (Yj X.K tc j ts tr):=by
 intro pins s σ H D a C d L h;let⟨b,i,h⟩:=h;let I:=L.1;refine wpAny_handleBy_cons (codeAny_handlers_test (qp5 (X:=X.sup a) (I.sup a) x y ((W.exm_one I.kIn L.ty i).here ?_) B)) (by intro q;cases q)
 cases b with
 |false=>
  rw[if_neg Bool.false_ne_true] at h;exact A pins s σ H D a C d L h
 |true=>
  rw[if_pos rfl] at h;refine codeAny_handlers_suite_as (Zk (X:=X) L λs' k=>?_);refine lM (X:=X.sup a) ((k.track w).sup a) p t (.inl o) (v:=.ref a) rfl (λl m=>?_) (.inr o);refine wpAny_mono (hs a pins l _ _ _ m h) (λf s3 q=>?_) λ_ _ z=>False.elim z
  cases f with
  |next=>
   let⟨e,H',J,q⟩:=q;exact pD (J.unsup I.ok) p t o λg c=>⟨_,H',c,q⟩
  |brk=>
   let⟨e,H',J,q⟩:=q;exact pD (J.unsup I.ok) p t o λg c=>⟨_,H',c,q⟩
  |cont=>
   let⟨e,H',J,q⟩:=q;exact pD (J.unsup I.ok) p t o λg c=>⟨_,H',c,q⟩
  |ret u=>
   let⟨v,e,H',J,r,q⟩:=q;exact pD (J.unsup I.ok) p t o λg c=>⟨v,_,H',c,r,q⟩
def aAn(tb:TSX)(to:TS)(th:TH):TS:=λD σ H=>tb { D with nx:=to D } (λσ' C d H'=>∀a,H' a=none->th a C d D σ' H') σ H
theorem qj3(j:Frm X)(k:Xx X body tb)(ho:PSs X orelse to)(l:PH X (h₀ :: hs) th):PS X (.Try body (h₀ :: hs) orelse [] pos) (aAn tb to th):=by
 intro pins s σ H D I h;refine wpAny_Try_except (wpAny_mono (k pins s σ H _ _ I h) (λf c q=>?_) λe c q=>?_)
 .cases f with
  |next=>
   let⟨b,H',g,q⟩:=q;exact ho pins c b H' D g q
  |ret v=>exact q
  |brk=>exact q
  |cont=>exact q
 .let⟨a,C,d,b,H',rfl,L,q⟩:=q;refine Mt I.ok.frames j L λi L2=>?_;exact l pins i b H' D a C d L2 (q a L2.2.choose_spec.2.2.2.free)
end
structure tX(K:Frag)(C:Addr):Prop where
 ga:W.findIn K (.ref C) "__getattribute__"=some (some (.builtin "BaseException.__getattribute__"))
 gn:W.findIn K (.ref C) "__getattr__"=some none
 bx:W.mroIn K C (.type "BaseException")=some true
 ob:W.mroIn K C (.type "object")=some true
 ca:W.findIn K (.ref C) "__class__"=some (some (.builtin "object.__class__"))
 hn:W.specialIn K (.builtin "object.__class__") "__get__"=some (some (.builtin "getset_descriptor.__get__"))
 tk:W.takesIn K (.builtin "object.__class__")=some true
 cl:(W.clsIn K C).isSome=true
section
variable {prog:Program} {w:World} {A:Around} {E:Value->Shared->Prop} {s:Shared} {K:Frag} {x D:Addr} {ox:Obj} {odo:Option Obj} {name:Str}
theorem Qg(k:tX K D)(X:K.In s.heap)(I:W.InstAt s.heap x ox D odo)(h:Q .unit s):
  wpAny (model prog w) A (checkBuiltinCall "BaseException.__getattribute__" ⟨[.ref x,nameV],[]⟩) Q E s:=by
 let b:builtinKind "BaseException.__getattribute__"=some .slot:=by decide +kernel
 let a:splitId "BaseException.__getattribute__"=some ("BaseException","__getattribute__"):=by decide +kernel
 let⟨c,g,d,t,os⟩:=s;let e:=I.type (M:=model prog w);let f:=W.looks_mroIn (M:=model prog w) X k.bx;let LI:W.Looks (model prog w) c (isInstance (.ref x) (.type "BaseException")) true:=e.andThen f;let i:=PySem.F.args_bexc_ga (.ref x) nameV;simp only[checkBuiltinCall,b,a];refine wpAny_bind (LI.at ?_)
 repeat (first | lk | wp_step)
 exact h
theorem Ud{m l:Bool}(k:tX K D)(X:K.In s.heap)(I:W.InstAt s.heap x ox D odo)(o:W.handedIn v=true)(n:W.findObj K D odo name=some (.value v)\/∃g a,W.findObj K D odo name=some (.bind g a)/\∀(p:Around)(R:Result->Shared->Prop),R (.ok (.ret v)) s->codeAny (model prog w) p (.call g ⟨[a,.ref x,.ref D],[]⟩) R s)(h:P v s):
  wpAny (model prog w) A (getAttrBy (.ref x) (.str name tk) m l) P E s:=by
 let⟨j,g,d,t,os⟩:=s;let b:=I.type (M:=model prog w);let e:=W.looks_findIn (M:=model prog w) X k.ga;let L2:=W.looks_findIn (M:=model prog w) X k.gn;unfold getAttrBy;refine wpAny_holding (wpAny_bind (b.at (wpAny_bind (e.at ?_))));show wpAny _ _ (getAttrByItsOwn (.ref x) (.str name tk) (.ref D) (.builtin "BaseException.__getattribute__") m l) _ _ _;unfold getAttrByItsOwn hookBefore;let f:=PySem.F.attr_ValueError.ga.bind (.ref x);refine wpAny_bind (L2.at ?_);refine wpAny_bind (wpAny_attempt (wpAny_holding ?_));unfold callGetattribute boundAndCalled;rw[if_neg (by cases l<;>decide)];refine wpAny_bind (wpAny_of_eq f ?_);refine wpAny_call (codeAny_call_builtin PySem.F.attr_ValueError.ga.plain PySem.F.entry_bexc_ga (Qg k X I ?_));unfold Builtin.«object.__getattribute__»;refine wpAny_bind (wpAny_pure ?_);refine wpAny_bind (wpAny_pure ?_);refine wpAny_bind (b.at ?_);rcases n with n | ⟨c,a,n,i⟩
 .refine wpAny_bind ((W.looks_find (M:=model prog w) X I n).at ?_);refine wpAny_pure ?_;show wpAny _ _ (handedOut v) _ _ _;rw[W.handedOut_of o];exact wpAny_pure h
 .refine wpAny_bind ((W.looks_find (M:=model prog w) X I n).at ?_);show wpAny _ _ (Builtin.ObjectAttr.bindTo c a (.ref x) (.ref D)) _ _ _;show wpAny _ _ (holding [a] (call c [a,.ref x,.ref D]) >>= ret) _ _ _;refine wpAny_bind (wpAny_holding (wpAny_call (i _ _ ?_)));refine wpAny_pure ?_;show wpAny _ _ (handedOut v) _ _ _;rw[W.handedOut_of o];exact wpAny_pure h
theorem Pm(k:tX K D)(X:K.In s.heap)(I:W.InstAt s.heap x ox D odo)(h:Q (some (.ref D)) { s with toks:=s.toks+1 }):
  wpAny (model prog w) A (getAttr? (.ref x) "__class__") Q E s:=by
 let a:W.findObj K D odo "__class__"=some (.bind (.builtin "getset_descriptor.__get__") (.builtin "object.__class__")):=by
  let⟨c,b⟩:=Option.isSome_iff_exists.mp k.cl;unfold W.findObj;rw[b,Option.bind_some,k.ca,Option.bind_some];simp[k.hn,k.tk]
 unfold getAttr? getAttrBy?;refine wpAny_bind (wpAny_mkText (wpAny_bind (wpAny_attempt (Ud (s:={ s with toks:=s.toks+1 }) k X I rfl (.inr ⟨_,_,a,λd R q=>W.class_get (s:={ s with toks:=s.toks+1 }) X I k.ob q⟩) ?_))));exact wpAny_pure h
theorem qU(k:tX K D):W.KitX K (.ref x) (.ref D) (λh=>W.InstAt h x ox D odo) where
 ty:=λ_ _ _ I=>I.type
 it:=λ_ _ X _=>by
  let⟨b,a⟩:=Option.isSome_iff_exists.mp k.cl;unfold W.clsIn at a;split at a
  .rename_i c' d' cd' sl' ho
   intro i j l s' d q;unfold isType loadHead;exact wpAny_bind (wpAny_loadPart (d _ _ (X _ _ ho)) (wpAny_pure q))
  .cases a
 ne:=λh f dd g n m X c=>by
  let⟨b,a⟩:=Option.isSome_iff_exists.mp k.cl;refine Bool.eq_false_iff.mpr λq=>?_;let e:D=f:=Value.ref.inj (beq_iff_eq.mp q);subst e;unfold W.clsIn at a;split at a
  .rename_i c' d' cd' sl' ho
   let z:=(X _ _ ho).symm.trans c
   cases z
  .cases a
 ca:=λX I h=>Pm k X I h
end
section
variable {X:Cx}
theorem Ha(I:Inv X pins σ H s)(e:H a=some (kT a (.ref C) none)):∃ox,W.InstAt s.heap a ox C none:=by
 let⟨⟨o,vs,h1,h2,b,h4⟩,_⟩:=(show cP X.prog X.w H s.heap a (kT a (.ref C) none) from I.hok a _ e)
 exists o,h1,h2,7,7
 .unfold W.notCls;rw[h4]
 .rw[b];trivial
theorem Ol:jF X (.builtin "isinstance") (λxs H Q=>∃a C c n b,xs=[.ref a,c]/\H a=some (kT a (.ref C) none)/\tX X.K C/\cE c n/\(∀u,cE c u->u=n)/\W.kitOne X.K (.ref C) n=some b/\Q (.bl b) H):=by
 intro pins s σ H xs l Q I r h;let⟨a,C,c,n,b,rfl,d,k,m,f,e,q⟩:=h;let⟨u,g,rfl,i,j⟩:=xE r
 cases (show u=Value.ref a from i)
 cases f g j
 let⟨ox,hi⟩:=Ha I d;exact W.kia_one (qU (ox:=ox) (odo:=none) k) I.kIn hi e (λz=>nomatch z) λtk=>⟨.bl b,H,I.tok tk,8,q⟩
theorem iN(a:Gl X x)(hm:X.mg x=some (.ref C))(hd:(x == ("__debug__":Str))=false:=by decide):PE X (.Name x pos) (tC (.ref C)):=dL a hm rfl hd
theorem uI:∀{b:List Addr}{a:List Value},cB (b.map V.ref) a->a=b.map Value.ref
 | [],_,.nil=>rfl
 |_ :: _,_,.cons r t=>by rw[show _=Value.ref _ from r,uI t];rfl
theorem Kl:jF X (.builtin "isinstance") (λxs H Q=>∃(a C y:Addr)(A:List Addr)(b:Bool),xs=[.ref a,.ref y]/\H a=some (kT a (.ref C) none)/\tX X.K C/\H y=some (.tup (A.map V.ref))/\W.kitAny X.K (.ref C) (A.map Value.ref)=some b/\Q (.bl b) H):=by
 intro pins s σ H xs w Q I r h;let⟨a,C,y,A,b,rfl,d,k,f,e,q⟩:=h;let⟨u,g,rfl,i,j⟩:=xE r
 cases (show u=Value.ref a from i)
 cases (show g=Value.ref y from j)
 let⟨ox,hi⟩:=Ha I d;let⟨p,l,⟨o,h1,h2,n,c⟩,_⟩:=I.tuple (SqT.of f);let m:=uI l;subst m;let⟨oc,x,t,v⟩:=o;dsimp only at h2 c;subst h2 c;exact W.kia_tup (qU (ox:=ox) (odo:=none) k) I.kIn hi h1 e (λz=>nomatch z) λtk=>⟨.bl b,H,I.tok tk,8,q⟩
end
end L2
namespace Mq
theorem cH(hp:1<=p.2)(a:1<=q.2):Low (minus p q):=iE (iG hp a)
theorem lK(hp:1<=p.2)(a:1<=q.2):Low (mU p q):=iE (iG hp a)
theorem uY{p q:Q2}(hp:1<=p.2)(hq:q.1≠0):p.2*q.1≠0:=Int.mul_ne_zero () hq
theorem Hl(hp:1<=p.2)(a:q.1≠0):Low (rE p q):=iE (uY hp a)
theorem rX(h:Bd n p)(g:Bd m q)(hp:1<=p.2)(d:1<=q.2):Bd (n+m+1) (minus p q):=by
 let k:=pV (t:=p.1*q.2 - q.1*p.2) (iG hp d);let c:B (n+m) (q.1*p.2):=by rw[Nat.add_comm];exact g.a.mul h.b
 exists ((h.a.mul g.b).sub c).le k.1,((h.b.mul g.b).mono (Nat.le_succ _)).le k.2
theorem Fw(h:Bd n p)(g:Bd m q)(hp:1<=p.2)(c:1<=q.2):Bd (n+m) (mU p q):=by
 let k:=pV (t:=p.1*q.1) (iG hp c);exists (h.a.mul g.a).le k.1,(h.b.mul g.b).le k.2
theorem Nb(h:Bd n p)(g:Bd m q)(hp:1<=p.2)(c:q.1≠0):Bd (n+m) (rE p q):=by
 let k:=pV (t:=p.1*q.2) (uY hp c);exists (h.a.mul g.b).le k.1,(h.b.mul g.a).le k.2
end Mq
open Mq (Fw Hl Nb lK rX)
namespace L2
open PySem PySem.Spec PyProof.Rows
inductive Eu(K:Frag)(vs:vk)(H:Hp)(Q:VK)(E:XK):Prop where
 |mk (a b:Addr) (p q:Mq.Q2) (n m:Nat):vs=[.ref a,.ref b]->Fq K H a p->Fq K H b q->Mq.Bd n p->Mq.Bd m q->n+m+1<=9000->Q (.bl (decide (p.1*q.2 < q.1*p.2))) H->Eu K vs H Q E
inductive TyQ(K:Frag)(H:Hp):V->Value->Prop where
 |of {x:V} {t:Value} (h:lW K H x t):TyQ K H x t
 |tup {a:Addr} {xs:vk} (h:SqT K H a xs):TyQ K H (.ref a) (.type "tuple")
 |lst {a:Addr} {xs:vk} (h:SqL K H a xs):TyQ K H (.ref a) (.type "list")
section
variable {X:Cx} {pins:List (Addr × Obj)} {σ:St} {H:Hp} {s:Shared} {A:Around} {E:Value->Shared->Prop} {Q:Value->Shared->Prop} {c:Value} {b:Bool}
theorem Ip(I:Inv X pins σ H s)(f:cE x u)(ty:TyQ X.K H x t)(e:W.kitOne X.K t c=some b)(h:∀tk,Q (.bool b) { s with toks:=tk }):
  wpAny (model X.prog X.w) A (call (.builtin "isinstance") [u,c]) Q E s:=by
 cases ty with
 |of ty=>exact Pu I f ty e h
 | @tup a xs ht=>
  cases (show u=Value.ref a from f)
  let⟨d,_,p,_⟩:=I.tuple ht;let⟨o,h1,h2,_⟩:=p;exact W.kia_one W.kitx_tuple I.kIn ⟨o,h1,h2⟩ e (λz=>nomatch z) h
 | @lst a xs ht=>
  cases (show u=Value.ref a from f)
  let⟨d,_,p,_⟩:=I.list ht;let⟨o,h1,h2,_⟩:=p.isList;exact W.kia_one W.kitx_list I.kIn ⟨_,h1,h2⟩ e (λz=>nomatch z) h
end
section
variable {X:Cx}
theorem Az:jF X (.builtin "isinstance") (λxs H Q=>∃x n t b,xs=[x,.ty n]/\TyQ X.K H x t/\W.kitOne X.K t (.type n)=some b/\Q (.bl b) H):=by
 intro pins s σ H vs g Q I a h;let⟨x,n,t,b,rfl,ty,e,q⟩:=h;let⟨u,c,rfl,d,f⟩:=xE a
 cases (show c=Value.type n from f)
 exact Ip I d ty e λtk=>⟨.bl b,H,I.tok tk,8,q⟩
theorem iJ{i:Nat}(l:X.N[i]?=some x)(m:Vis X.env.scope x)(b:X.mg "isinstance"=none)(b2:X.mg T=none)(n:Gl X "isinstance")(o:Gl X T)(r:bootBuiltins T=some (.type T'))(u:(x == ("__debug__":Str))=false:=by decide)(d:(x == ("__classdict__":Str))=false:=by decide)(e:T≠"__name__":=by decide)(f:(T == ("__debug__":Str))=false:=by decide)(g:starEach [.Name x p2,.Name T p3] X.env=(false,eval (.Name x p2) X.env) :: starEach [.Name T p3] X.env:=by rfl)(j:starEach [.Name T p3] X.env=(false,eval (.Name T p3) X.env) :: starEach [] X.env:=by rfl)(k:(backTo pos (starEach [.Name T p3] X.env)).any (·.1)=false:=by rfl):
  PE X (.Call (.Name "isinstance" p1) [.Name x p2,.Name T p3] [] pos) (λσ H Q=>∃v t b,σ[i]?=some (some v)/\TyQ X.K H v t/\W.kitOne X.K t (.type T')=some b/\Q (.bl b) H):=by
 let h:=bX (X:=X) (pos:=pos) (p:=p1) Az n b PyProof.Rows.boot_isinstance (aA (Uq (i:=i) (pos:=p2) l m u d) (aA (Ez (v:=.ty T') (pos:=p3) o b2 r rfl e f) aC j) g) ∅ ∅ g k;intro pins s σ H Q I q;let⟨v,t,a,h1,h2,c,h4⟩:=q;exact h pins s σ H Q I ⟨v,h1,v,T',t,a,8,h2,c,h4⟩
end
theorem SqT.upd{K:Frag}(h:SqT K H a xs)(b:H l=some (.lst ys)):SqT K (L2.upd H l o) a xs:=by
 rcases h with (h | ⟨u,h⟩) | h
 .exact .inl (.inl (by rw[aQ (gV h b (λz=>by cases z))];exact h))
 .exact .inl (.inr ⟨u,by rw[aQ (gV h b (λz=>by cases z))];exact h⟩)
 .exact .inr h
theorem rM{K:Frag}:∀ns:List Int,zQ K H (ns.map V.int) (ns.map PyData.int)
 | []=>.nil
 |n :: r=>.cons (.int n) (rM r)
theorem wL:∀ns:List Int,PyData.canLayAll0 (ns.map PyData.int)=true
 | []=>rfl
 |n :: r=>by
  show ((PyData.int n).canLay0 && PyData.canLayAll0 (r.map PyData.int))=true;rw[wL r];rfl
theorem Tj(ns:List Int)(lo hi:Option Int):∃ms:List Int,jJ (ns.map V.int) lo hi=ms.map V.int/\ms.length<=ns.length:=by
 exists (ns.drop (HT.sIx (ns.map V.int).length 0 lo)).take (HT.sIx (ns.map V.int).length (ns.map V.int).length hi - HT.sIx (ns.map V.int).length 0 lo),7,7
 .unfold jJ;rw[map_take,map_drop]
 .rw[length_take,length_drop];lia
theorem xK{K:Frag}{ns:List Int}(h1:SqL K H a (ns.map V.int))(h2:SqL K H b [])(z:Q (.bl (if neg then !ns.isEmpty else ns.isEmpty)) H):zA K neg (.ref a) (.ref b) H Q:=by
 exists _,_,.lst h1 (rM ns),.lst h2 .nil,wL ns,8,7,7
 .have:(PyData.list []).depth<=1:=by decide
  lia
 .cases ns<;>exact z
theorem jC:(((σC 2 fr σ).set 0 (some x)).set 1 (some y)).length=(σC 2 fr σ).length/\∀(i:Nat) v,(σC 2 fr σ)[i]?=some (some v)->(((σC 2 fr σ).set 0 (some x)).set 1 (some y))[i]?=some (some v):=by
 exists ⋯,λi v h=>?_
 match i with
 |0=>unfold σC at h;simp at h
 |1=>unfold σC at h;simp at h
 |k+2=>rw[getElem?_set_ne (),getElem?_set_ne ()];exact h
theorem Fqs.set{K:Frag}(h:Fq K H a p):∀{xs:vk}{ps:List Mq.Q2}(i:Nat),Fqs K H xs ps->Fqs K H (xs.set i (.ref a)) (ps.set i p)
 |_,_,_,.nil=>.nil
 |_,_,0,.cons _ q=>.cons h q
 |_,_,i+1,.cons g q=>.cons g (Fqs.set h i q)
theorem Fqs.at{K:Frag}:∀{xs:vk}{ps:List Mq.Q2}{i:Nat}{p:Mq.Q2},Fqs K H xs ps->ps[i]?=some p->∃a,xs[i]?=some (.ref a)/\Fq K H a p
 |_,_,_,_,.nil,h=>by simp at h
 |_,_,0,_,.cons h _,e=>by simp at e;subst e;exists 9,h
 |_,_,i+1,_,.cons _ q,e=>by simpa using Fqs.at q (by simpa using e)
theorem uE(lo:-(2 ^ n:Int) < i)(hi:i < 2 ^ n):Mq.B n i:=by
 unfold Mq.B;let e:((2 ^ n:Nat):Int)=2 ^ n:=by simp
 lia
theorem Cl(X:Cx):∀l:List (Int × _ × Pos),PA X (l.map λq=>Expr.Constant (.int q.1) q.2.1 q.2.2) (λ_ H Q=>Q (l.map λq=>V.int q.1) H)
 | []=>aC
 |q :: l=>aA (te:=tC (.int q.1)) aE (Cl X l) rfl
theorem iR(h:k < n):ixN n (k:Int)=some k:=by
 unfold ixN;rw[if_pos (),if_pos ()];simp
section
variable {X:Cx} {tg:Expr}
inductive qw9(K:Frag)(xs:vk)(H:Hp)(Q:VK):Prop where
 |mk (p:Addr) (bs:List Bool):xs=[.ref p]->SqL K H p (bs.map V.bl)->Q (.bl (bs.all id)) H->qw9 K xs H Q
theorem rH(J:X.calm=true):jF X (.builtin "all") (qw9 X.K):=by
 intro pins s σ H xs D Q I r h;let⟨p,bs,rfl,w,q⟩:=h;let⟨u,rfl,x⟩:=Be r
 cases x
 let⟨a,l,k,E⟩:=I.list w;let d:a.toArray.size=bs.length:=by rw[size_toArray,<- l.length,length_map]
 let m:p≠s.heap.objs.size:=by
  let⟨o,e,_⟩:=k.isList;exact Nat.ne_of_lt (Heap.lt_size e)
 refine call_all_walk (wpAny_pyIter_list k.isList ?_);exists s.heap.objs.size,_,_,_,_,_,λi=>bs.getD i false,8,Walks.list (by exact I.ok.hd J) s.heap.objs.size p m a.toArray,⟨⟨_,Heap.get?_push_size _ rfl,8,8⟩,7⟩,7,7
 .let⟨o,e,c⟩:=k.isList;exists o,Heap.get?_push_of_some _ e,c
 .intro i v s' F G y A;let g:a[i]?=some v:=by simpa using y
  let hi:i < a.length:=(wk.mp g).1;let f:(bs.map V.bl)[i]?=some (.bl (bs.getD i false)):=by
   rw[getElem?_map,getElem?_eq_getElem (by rw[<- d];simpa using hi)];simp[List.getD,getElem?_eq_getElem (show i < bs.length by rw[<- d];simpa using hi)]
  let⟨u,n,B⟩:=l.get f;let e:u=v:=by rw[g] at n;cases n;rfl
  subst e
  cases B
  exact wpAny_truthy_bool A
 .intro h' tk C;let e:(List.range a.toArray.size).all (λi=>bs.getD i false)=bs.all id:=by
   rw[d,Bool.eq_iff_iff,all_eq_true,all_eq_true];constructor
   .intro z b f;let⟨i,hi,rfl⟩:=getElem_of_mem f;have:=z i (mem_range.mpr hi);simpa[List.getD,getElem?_eq_getElem hi] using this
   .intro z i hi;let j:=mem_range.mp hi;have:=z bs[i] (getElem_mem j);simpa[List.getD,getElem?_eq_getElem j] using this
  rw[e];exists .bl _,H,I.kept (t':=tk) λb o f=>?_,8,q;let t:b≠s.heap.objs.size:=Nat.ne_of_lt (Heap.lt_size f);exact C b o (by simpa using t) (Heap.get?_push_of_some _ f)
end
inductive Mr{ι:Type}(C:ι->Addr)(m:Str)(sp:ι->Sp)(dvs:vk)(E:XK)(t:TA)(σ:St)(Q:VK)(x:V)(H1:Hp):Prop where
 |mk (i a dx fs):x=.ref a->H1 a=some (.ins (C i) dx fs)->fs.lookup m=none->(t σ H1 λvs H2=>sp i (x :: (vs++dvs)) H2 Q E)->Mr C m sp dvs E t σ Q x H1
def Vw{ι:Type}(C:ι->Addr)(m:Str)(sp:ι->Sp)(dvs:vk)(E:XK)(ta:TE)(t:TA):TE:=λσ H Q=>ta σ H λx H1=>Mr C m sp dvs E t σ Q x H1
section
variable {X:Cx} {ι:Type} {C f:ι->Addr} {fd:ι->FuncData} {sp:ι->Sp} {m:Str} {CX:CXT} {k:Nat} {ps:List Str} {ds:List Value} {dvs:vk} {E:XK} {o e:Expr} {es:List Expr} {ta:TE} {t:TA} {apos pos:Pos}
theorem Fy(B:PE X o ta)(c:∀i,Cls X.K (C i))(hm:∀i,gG X.K (C i) m (f i))(F:∀i,aK X.prog X.w X.K X.mg X.base CX k (f i) (fd i) ps (sp i))(D:hV k X.A)(G:∀i,aL X.K (fd i) ps ds)(J:cB dvs ds)(L:kB CX X E)(M:PA X (e :: es) t)(y:starEach (e :: es) X.env=(false,eval e X.env) :: starEach es X.env:=by rfl)(z:(backTo pos (starEach es X.env)).any (·.1)=false:=by rfl)(N:eval (.Call (.Attribute o m apos) (e :: es) [] pos) X.env=(do
   let ov <- eval o X.env
   standAt apos.atName
   let (f,first) <- holding [ov] (getMethod ov m pl)
   callWith pos f first (backTo pos (starEach (e :: es) X.env)) (backToKw pos (keywordEach [] X.env))):=by rfl):
  PE X (.Call (.Attribute o m apos) (e :: es) [] pos) (Vw C m sp dvs E ta t):=by
 intro pins s σ H Q I h;refine W.methodCall_KW (pl:=pl) (thn (B pins s σ H _ I h) λu g ⟨x,H1,b,j,i,a,dx,fs,ex,n,l,q⟩=>?_) N;subst ex;obtain rfl:u=Value.ref a:=j;refine lU b n (c i) (hm i) l ?_;refine W.callWith_K (first:=[.ref a]) (h₀:=X.base) I.ok.mod.kin (hm i).kp (thn (M pos pins g σ H1 _ b q) λp v ⟨vs,H2,d,r,q2⟩=>⟨d.kIn,7⟩) y z;exact xS (us:=.ref a :: p) (vs:=.ref a :: vs) (F i) D (G i) J L d (.cons rfl r) q2
theorem fR(j:PE X o ta)(c:∀i,Cls X.K (C i))(hm:∀i,gG X.K (C i) m (f i))(F:∀i,aK X.prog X.w X.K X.mg X.base CX k (f i) (fd i) ps (sp i))(n:hV k X.A)(p:∀i,aL X.K (fd i) ps ds)(r:cB dvs ds)(t:kB CX X E)(v:eval (.Call (.Attribute o m apos) [] [] pos) X.env=(do
   let ov <- eval o X.env
   standAt apos.atName
   let (f,first) <- holding [ov] (getMethod ov m pl)
   callWith pos f first (backTo pos (starEach [] X.env)) (backToKw pos (keywordEach [] X.env))):=by rfl):
  PE X (.Call (.Attribute o m apos) [] [] pos) (Vw C m sp dvs E ta qr1):=by
 intro pins s σ H Q I h;refine W.methodCall_KW (pl:=pl) (thn (j pins s σ H _ I h) λu g ⟨x,H1,b,d,i,a,dx,fs,ex,e,l,q⟩=>?_) v;subst ex;obtain rfl:u=Value.ref a:=d;refine lU b e (c i) (hm i) l ?_;exact W.callWith_K0 (first:=[.ref a]) b.kIn (hm i).kp (xS (us:=[.ref a]) (vs:=[.ref a]) (F i) n (p i) r t b (.cons rfl .nil) q)
end
inductive Kd where
 |pc | pu | ho
 deriving DecidableEq
def Kd.wd:Kd->Str
 | .pc=>"piece"
 | .pu=>"push"
 | .ho=>"hold"
def Kd.cn:Kd->Str
 | .pc=>"Piece"
 | .pu=>"Push"
 | .ho=>"Hold"
theorem Kd.wd_inj{k j:Kd}(h:k.wd=j.wd):k=j:=by
 cases k<;>cases j<;>first | rfl | exact absurd h ∅
theorem fsg:¬(("start":Str) = "goal"):=by decide +kernel
theorem fsz:¬(("start":Str) = "size"):=by decide +kernel
theorem fgz:¬(("goal":Str) = "size"):=by decide +kernel
def oI(s g z:V):List (Str × V):=fM "size" z (fM "goal" g (fM "start" s []))
theorem dH(s g z:V):(oI s g z).lookup ("start":Str)=some s:=by
 unfold oI;rw[bQ,if_neg fsz,bQ,if_neg fsg,bQ,if_pos rfl]
theorem dZ(s g z:V):(oI s g z).lookup ("goal":Str)=some g:=by
 unfold oI;rw[bQ,if_neg fgz,bQ,if_pos rfl]
theorem eQ(s g z:V):(oI s g z).lookup ("size":Str)=some z:=by
 unfold oI;rw[bQ,if_pos rfl]
theorem eJ(s g z:V){m:Str}(h1:¬m = "start")(h2:¬m = "goal")(a:¬m = "size"):(oI s g z).lookup m=none:=by
 unfold oI;rw[bQ,if_neg a,bQ,if_neg h2,bQ,if_neg h1];rfl
def Rw(CK:Kd->Addr)(H:Hp)(x:Addr)(k:Kd)(s g z:V):Prop:=∃dx,H x=some (.ins (CK k) dx (oI s g z))
theorem Rw.same(e:aS H H')(h:Rw CK H x k s g z):Rw CK H' x k s g z:=let ⟨dx,q⟩:=h;⟨dx,e _ _ q⟩
theorem Rw.upd(h:Rw CK H x k s g z)(a:H l=some (.lst ys)):Rw CK (L2.upd H l o) x k s g z:=let ⟨dx,q⟩:=h;⟨dx,by rw[aQ (gV q a (λz=>by cases z))];exact q⟩
structure RT(K:Frag)(mg:Str->Option Value)(CR:Addr)(CK:Kd->Addr):Prop where
 cl:∀k,Cls K (CK k)
 nS:∀k,iB K (CK k) "start"
 nG:∀k,iB K (CK k) "goal"
 nZ:∀k,iB K (CK k) "size"
 t1:∀k,W.findIn K (.ref (CK k)) "__class__"=some (some (.builtin "object.__class__"))
 t2:W.specialIn K (.builtin "object.__class__") "__get__"=some (some (.builtin "getset_descriptor.__get__"))
 t3:W.takesIn K (.builtin "object.__class__")=some true
 t4:∀k,W.mroIn K (CK k) (.type "object")=some true
 isR:∀k,W.kitOne K (.ref (CK k)) (.ref CR)=some true
 isK:∀k j,W.kitOne K (.ref (CK k)) (.ref (CK j))=some (decide (k=j))
 mR:mg "Row"=some (.ref CR)
 mK:∀k,mg (Kd.cn k)=some (.ref (CK k))
section
variable {K:Frag} {mg:Str->Option Value} {CR:Addr} {CK:Kd->Addr} {H:Hp} {x:Addr} {k:Kd} {s g z:V}
theorem Rw.new(h1:H x=none)(h2:H dx=none)(ne:dx≠x):aS H (L2.upd (L2.upd H dx (.own x)) x (.ins C dx fs)):=λb o e=>by
 rw[aQ (bA e h1),aQ (bA e h2)];exact e
end
inductive Cq(CK:Kd->Addr)(vs:vk)(H:Hp)(Q:VK)(E:XK):Prop where
 |mk (x dx:Addr) (k:Kd) (s g z:V):vs=[.ref x,s,g,z]->H x=some (.ins (CK k) dx [])->Q .non (upd H x (.ins (CK k) dx (oI s g z)))->Cq CK vs H Q E
inductive iZ(k:Kd)(vs:vk)(H:Hp)(Q:VK)(E:XK):Prop where
 |mk (x):vs=[x]->Q (.str k.wd) H->iZ k vs H Q E
inductive oU(k:Kd)(vs:vk)(H:Hp)(Q:VK)(E:XK):Prop where
 |mk (x):vs=[x]->Q (.bl (decide (k≠.pu))) H->oU k vs H Q E
inductive vK(CK:Kd->Addr)(vs:vk)(H:Hp)(Q:VK)(E:XK):Prop where
 |mk (x:Addr) (k:Kd) (s g z:V):vs=[.ref x]->Rw CK H x k s g z->(∀t,H t=none->Q (.ref t) (upd H t (.tup [.str k.wd,s,g,z])))->vK CK vs H Q E
def aAx(CK:Kd->Addr)(H:Hp)(Q:VK)(k:Kd)(s g z:V):Prop:=∀x H',aS H H'->H x=none->Rw CK H' x k s g z->Q (.ref x) H'
theorem Ks{K:Frag}(h1:qV K H x d)(h2:qV K H y d)(a:d.canLay0=true)(b:d.depth<=16)(z:Q (.bl (!neg)) H):zA K neg x y H Q:=by
 exists d,d,h1,h2,a,a,6,7;let e:PyData.eqv d d=true:=PySem.SeqAt.eqv_refl _ a;rw[e]
 cases neg<;>exact z
theorem ifT{A B:Prop}(h:c=true)(x:A):if c=true then A else B:=by rw[if_pos h];exact x
theorem ifF{A B:Prop}(h:c=false)(x:B):if c=true then A else B:=by rw[if_neg (by rw[h];decide)];exact x
theorem dX(k j:Kd):decide (V.str k.wd=V.str j.wd)=decide (k=j):=by
 by_cases h:k=j
 .subst h;simp
 .rw[decide_eq_false h];exact decide_eq_false λz=>h (Kd.wd_inj (V.str.inj z))
theorem zzT(k a:Kd)(h:k=a):decide (V.str k.wd=V.str a.wd)=true:=by rw[dX];exact decide_eq_true h
theorem zzF(k a:Kd)(h:¬k=a):decide (V.str k.wd=V.str a.wd)=false:=by rw[dX];exact decide_eq_false h
theorem lW.same{K:Frag}(s:aS H H')(h:lW K H x t):lW K H' x t:=by
 cases h with
 |non=>exact .non
 |bl b=>exact .bl b
 |int i=>exact .int i
 |str y=>exact .str y
 |flt y=>exact .flt y
 |lst e=>exact .lst (s _ _ e)
 |frz e=>exact .frz (s _ _ e)
 |tup e=>exact .tup (s _ _ e)
 |dK e=>exact .dK (s _ _ e)
 |dT e=>exact .dT (s _ _ e)
 |ins e cl ha hn htk hm=>exact .ins (s _ _ e) cl ha hn htk hm
theorem TyQ.same{K:Frag}(s:aS H H')(h:TyQ K H x t):TyQ K H' x t:=by
 cases h with
 |of h=>exact .of (h.same s)
 |tup h=>exact .tup (s.seqT h)
 |lst h=>exact .lst (s.seq h)
theorem jV{p:Kd->Prop}(a:p .pc)(b:p .pu)(c:p .ho):∀k,p k:=λk=>by cases k<;>assumption
theorem rN(K:Frag)(t:PySem.Value):PySem.W.kitOne K t t=some true:=by unfold PySem.W.kitOne;rw[if_pos (beq_self_eq_true _)]
def kd3{α:Type}(a b c:α):Kd->α
 | .pc=>a
 | .pu=>b
 | .ho=>c
end L2
namespace Mq
def dP(ps:List Q2):Prop:=∀p∈ps,Low p
end Mq
open Mq (dP)
namespace L2
open PySem PySem.Spec PyProof.Rows
section
variable {κ:Type} [DecidableEq κ]
def qY(kvs:List (κ × V))(k:κ):Option V:=(kvs.find? λkv=>decide (kv.1=k)).map (·.2)
def nA(kvs:List (κ × V))(k:κ)(v:V):List (κ × V):=
 if (kvs.any λkv=>decide (kv.1=k))=true then kvs.map (λkv=>if kv.1=k then (kv.1,v) else kv) else kvs++[(k,v)]
theorem rP{p:κ × V}(e:p.1=k):qY (p :: r) k=some p.2:=by simp[qY,find?_cons,e]
theorem nQ{p:κ × V}(e:¬p.1=k):qY (p :: r) k=qY r k:=by simp[qY,find?_cons,e]
theorem Hg(k:κ):∀kvs:List (κ × V),(kvs.any λa=>decide (a.1=k))=(qY kvs k).isSome
 | []=>rfl
 |p :: r=>by
  rw[any_cons]
  by_cases e:p.1=k
  .simp only[rP e,decide_eq_true e,Bool.true_or,Option.isSome_some]
  .rw[nQ e,decide_eq_false e,Bool.false_or];exact Hg k r
theorem oO(kvs:List (κ × V))(k:κ)(v:V):(nA kvs k v).length<=kvs.length+1:=by
 unfold nA;split
 .rw[length_map];lia
 .rw[wq,length_cons,length_nil];lia
theorem kK.isSome_eq(r:kK o u):o.isSome=u.isSome:=by
 cases o with
 |none=>cases u with
  |none=>rfl
  |some _=>exact(show False from r).elim
 |some _=>cases u with
  |none=>exact(show False from r).elim
  |some _=>rfl
theorem kK.getD(r:kK o u)(a:cE d d'):cE (o.getD d) (u.getD d'):=by
 cases o with
 |none=>cases u with
  |none=>exact a
  |some _=>exact(show False from r).elim
 |some _=>cases u with
  |none=>exact(show False from r).elim
  |some _=>exact r
theorem KV.val(r:KV kvs vs)(k:κ):kK (qY kvs k) (valueAt vs k):=by
 unfold KV at r
 induction r with
 |nil=>exact True.intro
 | @cons p q ps qs h t ih=>
  let⟨h1,h2⟩:=h
  by_cases e:p.1=k
  .let a:q.1=k:=h1.symm.trans e;let b:valueAt (q :: qs) k=some q.2:=by simp[valueAt,find?_cons,a]
   rw[rP e,b];exact h2
  .let a:¬q.1=k:=λz=>e (h1.trans z);let b:valueAt (q :: qs) k=valueAt qs k:=by simp[valueAt,find?_cons,a]
   rw[nQ e,b];exact ih
theorem KV.any(r:KV kvs vs)(k:κ):(kvs.any λa=>decide (a.1=k))=vs.any λa=>decide (a.1=k):=by
 unfold KV at r
 induction r with
 |nil=>rfl
 |cons h t ih=>rw[any_cons,any_cons,ih,h.1]
theorem KV.repl(r:KV kvs vs)(k:κ)(b:cE y u):
  KV (kvs.map λa=>if a.1=k then (a.1,y) else a) (vs.map λa=>if a.1=k then (a.1,u) else a):=by
 unfold KV at r ⊢
 induction r with
 |nil=>exact .nil
 | @cons p q ps qs h t ih=>
  rw[map_cons,map_cons];refine .cons ?_ ih;let⟨h1,h2⟩:=h
  by_cases e:p.1=k
  .rw[if_pos e,if_pos (h1.symm.trans e)];exists h1,b
  .rw[if_neg e,if_neg (λz=>e (h1.trans z))];exists h1,h2
theorem KV.put(r:KV kvs vs)(k:κ)(b:cE y u):KV (nA kvs k y) (stored vs k u):=by
 unfold nA stored;rw[r.any k]
 by_cases e:(vs.any λa=>decide (a.1=k))=true
 .rw[if_pos e,if_pos e];exact r.repl k b
 .rw[if_neg e,if_neg e];exact Paired.snoc r ⟨8,b⟩
theorem KV.length{kvs:List (κ × V)}(r:KV kvs vs):kvs.length=vs.length:=Paired.length r
end
theorem zT(r:cE (kV k) u):(fD P w).is k u=true:=by
 cases k with
 |inl i=>let⟨t,e⟩:=(show ∃t,u=Value.int i t from r);subst e;exact Gh P w i t
 |inr x=>let⟨t,e⟩:=(show ∃t,u=Value.str x t from r);subst e;exact Fj P w x t
theorem Ag:∀{a:List Key}{us:List Value},cB (a.map kV) us->ItemsAre (fD P w) a us
 | [],_,r=>by rw[map_nil] at r;cases r;exact .nil
 |k :: a,_,r=>by
  rw[map_cons] at r
  cases r with
  |cons h t=>exact .cons (zT h) (Ag t)
abbrev KT(H:Hp):List (List Key × V)->List (List Key × Addr × Value)->Prop:=Paired λp q=>p.1=q.1/\H q.2.1=some (.tup (p.1.map kV))/\cE p.2 q.2.2
theorem KT.val(r:KT H kvs xs)(k:List Key):kK (qY kvs k) ((atKey xs k).map (·.2)):=by
 induction r with
 |nil=>exact True.intro
 | @cons p q ps qs h t ih=>
  let⟨h1,_,h2⟩:=h
  by_cases e:p.1=k
  .let a:q.1=k:=h1.symm.trans e;let b:atKey (q :: qs) k=some q.2:=by simp[atKey,find?_cons,a]
   rw[rP e,b];exact h2
  .let a:¬q.1=k:=λz=>e (h1.trans z);let b:atKey (q :: qs) k=atKey qs k:=by simp[atKey,find?_cons,a]
   rw[nQ e,b];exact ih
theorem KT.repl(r:KT H kvs xs)(k:List Key)(b:cE y u):
  KT H (kvs.map λa=>if a.1=k then (a.1,y) else a) (xs.map (putAt k u)):=by
 induction r with
 |nil=>exact .nil
 | @cons p q ps qs h t ih=>
  rw[map_cons,map_cons];refine .cons ?_ ih;let⟨h1,h2,h3⟩:=h;unfold putAt
  by_cases e:p.1=k
  .rw[if_pos e,if_pos (h1.symm.trans e)];exists h1,h2,b
  .rw[if_neg e,if_neg (λz=>e (h1.trans z))];exists h1,h2,h3
theorem KT.put(r:KT H kvs xs)(k:List Key)(d:H b=some (.tup (k.map kV)))(c:cE y u):
  KT H (nA kvs k y) (storedH xs k b u):=by
 let e:(kvs.any λa=>decide (a.1=k))=(atKey xs k).isSome:=by
  rw[Hg,(r.val k).isSome_eq,Option.isSome_map]
 unfold nA storedH;rw[e]
 by_cases q:(atKey xs k).isSome=true
 .rw[if_pos q,if_pos q];exact r.repl k c
 .rw[if_neg q,if_neg q];exact Paired.snoc r ⟨8,d,c⟩
theorem KT.keeps(r:KT H kvs xs)(a:∀b ys,H b=some (.tup ys)->H' b=some (.tup ys)):KT H' kvs xs:=
 Paired.mapP r λ_ _ z=>⟨z.1,a _ _ z.2.1,z.2.2⟩
section
variable {P:Program} {w:World} {H:Hp} {h:Heap} {a:Addr}
theorem qg5(ok:HOk P w H h)(e:Rd H a u):cP P w H h a u:=e.ok ok
theorem zU(ok:HOk P w H h)(e:Rd H a (.dK kvs)):kvs.length<=sizeLine/\(a == sysModules)=false/\∃vs,KV kvs vs/\h.DictOf (fD P w) a vs:=
 show cP P w H h a (.dK kvs) from qg5 ok e
theorem qe8(ok:HOk P w H h)(e:H a=some (.dK kvs)):kvs.length<=sizeLine/\(a == sysModules)=false/\∃vs,KV kvs vs/\h.DictOf (fD P w) a vs:=zU ok (.inl e)
theorem xX(ok:HOk P w H h)(e:H a=some (.tup (ks.map kV))):(tupleKind (fD P w)).is h ks a:=by
 let⟨_,b,r,o,h1,h2,n,c⟩:=(show cP P w H h a (.tup (ks.map kV)) from ok a _ e)
 exists o,b.toArray,n,h1,h2,c,by simpa using Ag r
theorem An(ok:HOk P w H h)(e:Rd H a (.dT kvs)):kvs.length<=sizeLine/\(a == sysModules)=false/\
  ∃xs,KT H kvs xs/\h.DictOfH (tupleKind (fD P w)) a xs:=by
 let⟨z,y,xs,r,o,es,b,h1,h2,c,h4,d⟩:=(show cP P w H h a (.dT kvs) from qg5 ok e)
 exists z,y,xs,r,o,es,b,h1,h2,c,h4,λx hx=>?_,d;let all:∀{l:List (List Key × V)}{m:List (List Key × Addr × Value)},KT H l m->∀x∈m,(tupleKind (fD P w)).is h x.1 x.2.1:=by
  intro l m q
  induction q with
  |nil=>intro x hx;exact nomatch hx
  | @cons p q ps qs hq t ih=>
   intro x hx;rcases mem_cons.mp hx with e | hx
   .subst e;exact xX ok (by rw[<- hq.1];exact hq.2.1)
   .exact ih x hx
 exact all r x hx
theorem qw7(ok:HOk P w H h)(e:H a=some (.dT kvs)):kvs.length<=sizeLine/\(a == sysModules)=false/\
  ∃xs,KT H kvs xs/\h.DictOfH (tupleKind (fD P w)) a xs:=An ok (.inl e)
end
def kY(H:Hp)(a:Addr)(y:V)(r:Option V):Prop:=
 (∃kvs k,Rd H a (.dK kvs)/\y=kV k/\r=qY kvs k)\/∃kvs k b,Rd H a (.dT kvs)/\y=.ref b/\H b=some (.tup (k.map kV))/\r=qY kvs k
def Wj(H:Hp)(a:Addr)(y v:V)(H':Hp):Prop:=
 (∃kvs k,H a=some (.dK kvs)/\y=kV k/\kvs.length < sizeLine/\H'=upd H a (.dK (nA kvs k v)))\/
 ∃kvs k b,H a=some (.dT kvs)/\y=.ref b/\H b=some (.tup (k.map kV))/\kvs.length < sizeLine/\H'=upd H a (.dT (nA kvs k v))
theorem kY.k{k:Key}(e:H a=some (.dK kvs)):kY H a (kV k) (qY kvs k):=.inl ⟨kvs,k,.inl e,8,8⟩
theorem Wj.k{k:Key}(e:H a=some (.dK kvs))(b:kvs.length < sizeLine):Wj H a (kV k) v (upd H a (.dK (nA kvs k v))):=.inl ⟨kvs,k,e,8,b,8⟩
section
variable {X:Cx} {pins:List (Addr × Obj)} {σ:St} {H:Hp} {s:Shared} {a:Addr} {y v:V} {u r:Value} {o:Option V} {A:Around} {E:Value->Shared->Prop}
theorem Inv.big(I:Inv X pins σ H s):sysModules < s.heap.objs.size:=by
 let h:mainGlobals < s.heap.objs.size:=(I.mod.glob.keeps I.bk).lt;exact Nat.lt_trans ∅ h
theorem Px(r:A.units+1 < cLine)(I:Inv X pins σ H s)(g:kY H a y (some v))(q:cE y u)(h:∀n s',Inv X pins σ H s'->cE v n->Q n s'):
  wpAny (model X.prog X.w) A (getItem (.ref a) u) Q E s:=by
 rcases g with ⟨f,k,e,d,l⟩ | ⟨f,k,b,e,d,j,l⟩
 .subst d;let⟨z,m,vs,c,dd⟩:=zU I.hok e;let⟨n,hw,rw'⟩:=kK.some_of (v:=v) (o:=valueAt vs k) (by rw[l];exact c.val k);exact wpAny_getItem_of (zT q) dd.mapOf hw (h n _ (I.tok _) rw')
 .subst d
  cases (show u=Value.ref b from q)
  let⟨z,m,xs,c,dd⟩:=An I.hok e;let⟨n,hw,rw'⟩:=kK.some_of (v:=v) (o:=(atKey xs k).map (·.2)) (by rw[l];exact c.val k);let⟨p,hp,i⟩:=Option.map_eq_some_iff.mp hw;refine wpAny_getItem_heap (tupleKind_room_in1 r) (xX I.hok j) dd hp ?_;rw[i];exact h n _ (I.tok _) rw'
theorem qa4(n:A.units+1 < cLine)(I:Inv X pins σ H s)(g:kY H a y o)(m:cE y u)(h:∀s',Inv X pins σ H s'->Q (.bool (!o.isSome)) s'):
  wpAny (model X.prog X.w) A (compareOp .NotIn u (.ref a)) Q E s:=by
 rcases g with ⟨i,k,e,d,l⟩ | ⟨i,k,b,e,d,j,l⟩
 .subst d;let⟨z,f,vs,c,dd⟩:=zU I.hok e;refine wpAny_notIn_of (zT m) f dd.mapOf ?_;rw[<- (c.val k).isSome_eq,<- l];exact h _ (I.tok _)
 .subst d
  cases (show u=Value.ref b from m)
  let⟨z,f,xs,c,dd⟩:=An I.hok e;refine wpAny_notIn_heap (tupleKind_room_in1 n) (xX I.hok j) f dd ?_;let q:=(c.val k).isSome_eq;rw[Option.isSome_map] at q;rw[<- q,<- l];exact h _ (I.tok _)
theorem Cp(I:Inv X pins σ H s)(c:Mut (H a))(hs:Heap.SameBut a s.heap h')(d:∃q,h'.get? a=some q)(new:cP X.prog X.w (upd H a ob) h' a ob):
  Inv X pins σ (upd H a ob) { s with heap:=h',toks:=t' }:=
 I.write (x:=a) (e:=a) c (.inl rfl) (λb q f z=>(hs.2 b f).trans z) d new
theorem Rq(z:kvs.length<=sizeLine)(c:(a == sysModules)=false)(b:KV kvs vs)(dd:h'.DictOf (fD P w) a vs):
  cP P w H' h' a (.dK kvs):=⟨z,c,vs,b,dd⟩
theorem Qi(K:A.units+1 < cLine)(I:Inv X pins σ H s)(g:Wj H a y v H')(G:cE y u)(J:cE v r)(h:∀s',Inv X pins σ H' s'->Q .unit s'):
  wpAny (model X.prog X.w) A (setItem (.ref a) u r) Q E s:=by
 rcases g with ⟨d,k,e,m,l,n⟩ | ⟨d,k,b,e,m,x,l,n⟩
 .subst m n;let⟨z,o,vs,f,dd⟩:=qe8 I.hok e;let p:vs.length<=sizeLine:=by rw[<- f.length];exact z
  let t:(nA d k v).length<=sizeLine:=by have:=oO d k v;lia
  refine wpAny_setItem_pairs (hsz:=p) (zT G) dd λh' i hs=>h _ ?_;let B:∃q,h'.get? a=some q:=let ⟨q,_,_,j,_⟩:=i;⟨q,j⟩
  exact Cp I (by rw[e];exact True.intro) hs B (Rq t o (f.put k J) i)
 .subst m n
  cases (show u=Value.ref b from G)
  let⟨z,o,xs,f,dd⟩:=qw7 I.hok e;let p:xs.length<=sizeLine:=by rw[<- Paired.length f];exact z
  let t:(nA d k v).length<=sizeLine:=by have:=oO d k v;lia
  refine wpAny_setItem_heap (hsz:=p) (tupleKind_room_in1 K) (xX I.hok x) dd λh' i hs=>h _ ?_;let⟨q,es,C,j,h2,D,h4,_,F⟩:=i;refine Cp I (by rw[e];exact True.intro) hs ⟨q,j⟩ ⟨t,o,_,(f.put k x J).keeps λc ys ec=>?_,q,es,C,j,h2,D,h4,F⟩;rw[aQ (gV ec e (λz=>nomatch z))];exact ec
end
def qu6(i:Expr):Prop:=∀ov iv,subscripted i false ov iv=operate [ov,iv] (getItem ov iv)
theorem qd9{T id:String}(j:typeLookup (.type T) "__getitem__"=pure (some (.builtin id)))(hs:qu6 slice)(h:wpAny (model prog w) A (eval value env) (λo g=>wpAny (model prog w) A (eval slice env) (λi f=>f.TypeIs o T/\wpAny (model prog w) A (getItem o i) Q E f) E g) E s):
  wpAny (model prog w) A (eval (.Subscript value slice pos) env) Q E s:=by
 refine Subscript_ (wpAny_mono h (λo g d=>wpAny_mono d (λi f a=>?_) λ_ _ x=>x) λ_ _ x=>x);let⟨b,a⟩:=a;unfold subscriptTail;refine wpAny_bind ?_;rw[getitemInPython_of_ne b.not_modules];refine wpAny_bind (wpAny_specialOf b j ?_);let fin:wpAny (model prog w) A (subscripted slice false o i) (λr c=>wpAny (model prog w) A (letTemporaryGo value o r >>= λ_=>pure r) Q E c) E f:=by
  rw[hs o i];exact wpAny_operating (wpAny_mono a (λr c e=>wpAny_bind (wpAny_letTemporaryGo (wpAny_pure e))) λ_ _ x=>x)
 first
  |exact wpAny_pure (wpAny_bind fin)
  |exact wpAny_bind (wpAny_pure (wpAny_bind fin))
  |exact wpAny_bind fin
theorem Ga(I:Inv X pins σ H s)(g:kY H a y o):s.TypeIs (.ref a) "dict":=by
 rcases g with ⟨c,k,e,_,_⟩ | ⟨c,k,b,e,_,_,_⟩
 .let⟨_,_,vs,_,dd⟩:=zU I.hok e;exact dd.typeIs
 .let⟨_,_,xs,_,dd⟩:=An I.hok e;exact dd.typeIs
def qs3(td ty:TE):TE:=λσ H Q=>td σ H λx H1=>ty σ H1 λy H2=>∃a v,x=.ref a/\kY H2 a y (some v)/\Q v H2
def qd2(ty td:TE):TE:=λσ H Q=>ty σ H λy H1=>td σ H1 λx H2=>∃a o,x=.ref a/\kY H2 a y o/\Q (.bl (!o.isSome)) H2
def qt8(td ty tv:TE):TS:=λD σ H=>tv σ H λv H1=>td σ H1 λx H2=>ty σ H2 λy H3=>∃a H4,x=.ref a/\Wj H3 a y v H4/\D.nx σ H4
section
variable {X:Cx} {o i e value:Expr} {pos pos' tpos:Pos} {td ty tv:TE}
theorem vT(r:X.A.units+1 < cLine)(ho:PE X o td)(hi:PE X i ty)(hs:qu6 i):PE X (.Subscript o i pos) (qs3 td ty):=by
 intro pins s σ H Q I h;refine qd9 PySem.F.slot_dict_getitem.lookup hs (thn (ho pins s σ H _ I h) λu d ⟨x,H1,e,f,j⟩=>thn (hi pins d σ H1 _ e j) λn p ⟨y,H2,b,k,a,v,ex,g,l⟩=>?_);subst ex;obtain rfl:u=Value.ref a:=f;exists Ga b g,Px r b g k λq s3 m c=>⟨v,H2,m,c,l⟩
theorem Pi(q:X.A.units+1 < cLine)(hi:PE X i ty)(ho:PE X o td):PC X .NotIn i o (qd2 ty td):=by
 intro pins s σ H Q I h;refine thn (hi pins s σ H _ I h) λn b ⟨y,H1,c,d,e⟩=>thn (ho pins b σ H1 _ c e) λu p ⟨x,H2,f,j,a,k,ex,g,l⟩=>?_;subst ex;obtain rfl:u=Value.ref a:=j;exact qa4 q f g d λs3 m=>⟨.bl (!k.isSome),H2,m,8,l⟩
theorem Xh(B:X.A.units+1 < cLine)(ho:PE X o td)(hi:PE X i ty)(C:PE X value tv)(hs:swapsWith value (some (.Subscript o i pos')) pos.line X.env=pure false) :
  PS X (.Assign [.Subscript o i pos'] value pos) (qt8 td ty tv):=by
 intro pins s σ H D I h;refine wpAny_Assign_Subscript (thn (C pins s σ H _ I h) λr b ⟨v,H1,c,d,e⟩=>thn (ho pins b σ H1 _ c e) λu f ⟨x,H2,j,k,l⟩=>thn (hi pins f σ H2 _ j l) λw s3 ⟨y,H3,m,n,a,p,ex,g,q⟩=>?_) hs;subst ex;obtain rfl:u=Value.ref a:=k;exact Qi B m g n d λz t=>⟨σ,p,t,q⟩
end
theorem Wz(h:Heap)(a:sysModules < h.objs.size):cP P w H (h.push { cls:=.type "dict",data:=.dict #[] }) h.objs.size (.dK []):=
 ⟨Nat.zero_le _,beq_eq_false_iff_ne.mpr (Ne.symm (Nat.ne_of_lt a)),[],.nil,Heap.DictOf.new h⟩
def Jr:List (TE × TE)->St->Hp->(List (V × V)->Hp->Prop)->Prop
 | [],_,H,Q=>Q [] H
 | (tk,tv) :: r,σ,H,Q=>tk σ H λx H1=>tv σ H1 λy H2=>Jr r σ H2 λps H3=>Q ((x,y) :: ps) H3
abbrev VV:List (V × V)->List (Value × Value)->Prop:=Paired λp q=>cE p.1 q.1/\cE p.2 q.2
def PPs(X:Cx)(pos:Pos)(keys:List (Option Expr))(values:List Expr)(trs:List (TE × TE)):Prop:=
 ∀(pins:List (Addr × Obj))(s:Shared)(σ:St)(H:Hp)(Q:List (V × V)->Hp->Prop),Inv X pins σ H s->Jr trs σ H Q->
  zzW X (evalPairs (pairTrees keys values X.env pos)) (λvs s'=>∃ps H',Inv X pins σ H' s'/\VV ps vs/\Q ps H') X.xe s
theorem Lk:PPs X pos [] [] []:=λpins s σ H Q I h=>pairTrees_nil_walk ⟨[],H,I,.nil,h⟩
theorem oJ(p:PE X k tk)(q:PE X v tv)(r:PPs X pos ks vs trs):
  PPs X pos (some k :: ks) (v :: vs) ((tk,tv) :: trs):=λpins s σ H Q I h=>
 pairTrees_cons_walk (thn (p pins s σ H _ I h) λu b ⟨x,H1,c,d,e⟩=>thn (q pins b σ H1 _ c e) λn f ⟨y,H2,g,i,j⟩=>
  thn (r pins f σ H2 _ g j) λo s3 ⟨ps,H3,l,a,m⟩=>⟨(x,y) :: ps,H3,l,.cons ⟨d,i⟩ a,m⟩)
def kE(kvs more:List (Key × V)):List (Key × V):=more.foldl (λacc kv=>nA acc kv.1 kv.2) kvs
theorem KV.merge:∀{b:List (Key × V)}{rs:List (Key × Value)}{kvs:List (Key × V)}{vs:List (Key × Value)},KV b rs->KV kvs vs->KV (kE kvs b) (merged vs rs):=by
 intro b rs kvs vs r;unfold KV at r
 induction r generalizing kvs vs with
 |nil=>intro q;exact q
 | @cons p q ps qs h t ih=>
  intro a;let e:KV (nA kvs p.1 p.2) (stored vs q.1 q.2):=by
   have:=a.put p.1 h.2;rw[<- h.1];exact this
  exact ih e
theorem pT:∀(a kvs:List (Key × V)),(kE kvs a).length<=kvs.length+a.length
 | [],kvs=>by show kvs.length<=kvs.length+0;lia
 |p :: r,kvs=>by
  let h1:=pT r (nA kvs p.1 p.2);let h2:=oO kvs p.1 p.2;show (kE (nA kvs p.1 p.2) r).length<=_;rw[length_cons];lia
theorem wN:∀{kvs:List (Key × V)}{d:List (Value × Value)},VV (kvs.map λe=>(kV e.1,e.2)) d->∃rs,Carries (fD P w) d rs/\KV kvs rs
 | [],_,r=>by rw[map_nil] at r;cases r;exists [],True.intro,.nil
 |p :: kvs,_,r=>by
  rw[map_cons] at r
  cases r with
  | @cons a b as bs h t=>
   let⟨rs,c,q⟩:=wN (P:=P) (w:=w) t;let⟨b1,b2⟩:=b;exists (p.1,b2) :: rs,⟨zT h.1,8,c⟩,.cons ⟨8,h.2⟩ q
def qw8(trs:List (TE × TE)):TE:=λσ H Q=>∀p,H p=none->Jr trs σ (upd H p (.dK [])) λps H2=>H2 p=some (.dK [])/\∃kvs:List (Key × V),ps=kvs.map (λkv=>(kV kv.1,kv.2))/\kvs.length<=15/\Q (.ref p) (upd H2 p (.dK (kE [] kvs)))
theorem Mv(h:PPs X pos keys values trs)(A:keys.all (·.isSome)=true)(C:keys.length=values.length)(D:keys≠[])(B:keys.length<=15):PE X (.Dict keys values pos) (qw8 trs):=by
 intro pins s σ H Q I q;let i:=I.hok.fresh (Nat.le_refl s.heap.objs.size);let j:=I.laid (a:=s.heap.objs.size) (o:=.dK []) (h':=s.heap.push { cls:=.type "dict",data:=.dict #[] }) (t':=s.toks) (λ_ _ q=>Heap.get?_push_of_some _ q) (Nat.le_refl _) (Wz s.heap I.big);refine wpAny_Dict_walk (knd:=fD X.prog X.w) A C D B (thn (h pins _ σ _ _ j (q _ i)) λv x ⟨ps,H2,f,g,e,b,k,y,l⟩=>?_);subst k;let⟨rs,c,m⟩:=wN (P:=X.prog) (w:=X.w) g;let⟨z,n,u,p,dd⟩:=qe8 f.hok e
 cases p
 exists rs,c,dd,λh' d hs=>⟨.ref s.heap.objs.size,_,7,8,l⟩;let r:(kE [] b).length<=sizeLine:=by
  let h1:=pT b [];rw[length_nil] at h1;rw[sizeLine_eq];lia
 let t:∃q,h'.get? s.heap.objs.size=some q:=let ⟨q,_,_,hq,_⟩:=d;⟨q,hq⟩
 exact Cp f (by rw[e];exact True.intro) hs t (Rq r n (m.merge .nil) d)
structure M1(X:Cx)(o:Expr)(m:Str)(apos:Pos)(e:Expr)(cpos:Pos):Prop where
 base:attributeBase o m X.env (eval o X.env)=eval o X.env
 few:((backTo cpos (starEach [e] X.env)).all (λx=>!x.1) && (backToKw cpos (keywordEach [] X.env)).all (λx=>x.1.isSome)
  && decide (([e]:List Expr).length+([]:List Keyword).length+(if ([]:List Keyword).isEmpty then 0 else 1) < 30))=true
 line:(apos.endLine == cpos.line)=true
 trees:backTo cpos (starEach [e] X.env)=[(false,eval e X.env)]
def IsD(H:Hp)(a:Addr):Prop:=(∃kvs,Rd H a (.dK kvs))\/∃kvs,Rd H a (.dT kvs)
theorem qo7(I:Inv X pins σ H s)(d:IsD H a):
  s.TypeIs (.ref a) "dict"/\(∀b,Value.ref a=.ref b->∃g,s.heap.get? b=some g/\g.dict=none)/\(a == sysModules)=false:=by
 rcases d with ⟨f,e⟩ | ⟨f,e⟩
 .let⟨_,c,vs,_,dd⟩:=zU I.hok e;exists dd.typeIs,λb q=>?_,c
  cases q
  let⟨g,_,_,h1,h2,_⟩:=dd;exists g,h1,h2.2.1
 .let⟨_,c,xs,_,dd⟩:=An I.hok e;exists dd.typeIs,λb q=>?_,c
  cases q
  let⟨g,_,_,h1,h2,_⟩:=dd;exists g,h1,h2.2.1
section
variable {X:Cx} {pins:List (Addr × Obj)} {σ:St} {H:Hp} {s:Shared} {a:Addr} {y d:V} {u r:Value} {o:Option V} {A:Around} {E:Value->Shared->Prop}
theorem qp0(p:A.units+1 < cLine)(I:Inv X pins σ H s)(g:kY H a y o)(m:cE y u)(h:∀n s',Inv X pins σ H s'->cE (o.getD .non) n->Q n s'):
  wpAny (model X.prog X.w) A (call (.builtin "dict.get") [.ref a,u]) Q E s:=by
 rcases g with ⟨i,k,e,d,l⟩ | ⟨i,k,b,e,d,j,l⟩
 .subst d;let⟨z,f,vs,c,dd⟩:=zU I.hok e;refine call_meetsIn PySem.F.slot_dict_get dd.typeIs PySem.F.entry_dict_get (PySem.F.args_dict_get_2 _ _) (meets_dict_get (fD X.prog X.w) a (zT m) f) ⟨_,dd.mapOf,h _ _ (I.tok _) ?_⟩;rw[l];exact(c.val k).getD rfl
 .subst d
  cases (show u=Value.ref b from m)
  let⟨z,f,xs,c,dd⟩:=An I.hok e;refine call_meetsIn PySem.F.slot_dict_get dd.typeIs PySem.F.entry_dict_get (PySem.F.args_dict_get_2 _ _) (meetsH_dict_get (tupleKind (fD X.prog X.w)) a b f) ⟨tupleKind_room_in1 p,k,xs,xX I.hok j,dd,h _ _ (I.tok _) ?_⟩;rw[l];exact(c.val k).getD rfl
end
def qk7(td ty:TE):TE:=λσ H Q=>td σ H λx H1=>∃a,x=.ref a/\IsD H1 a/\ty σ H1 λy H2=>∃o,kY H2 a y o/\Q (o.getD .non) H2
section
variable {X:Cx} {o e f:Expr} {apos cpos:Pos} {td ty tx:TE}
theorem Ru(B:X.A.units+1 < cLine)(ho:PE X o td)(C:PE X e ty)(m:M1 X o "get" apos e cpos):PE X (.Call (.Attribute o "get" apos) [e] [] cpos) (qk7 td ty):=by
 intro pins s σ H Q I h;refine wpAny_Call_method m.base m.few m.line PySem.F.plainAttrs_dict PySem.F.slot_dict_get PySem.F.type_dict_get (thn (ho pins s σ H _ I h) λu f ⟨x,H1,b,i,a,ex,d,j⟩=>?_);subst ex;obtain rfl:u=Value.ref a:=i;let⟨k,l,_⟩:=qo7 b d;exists k,l,7;rw[m.trees];refine Calls.callWith_builtin rfl (Calls.evalArgs_plain (Calls.spliced_cons (thn (C pins f σ H1 _ b j) λt v ⟨y,H2,n,p,w,g,q⟩=>Calls.spliced_nil ?_)));exact qp0 B n g p λz s3 r c=>⟨_,H2,r,c,q⟩
end
def zH:Kd->Mq.Q2->Mq.Q2->Mq.Q2->Mq.Q2
 | .pc,u,_,p=>rE u p
 | .pu,_,_,p=>p
 | .ho,_,v,_=>v
theorem vY:∀ns:List Int,PyData.depthAll (ns.map PyData.int)<=1
 | []=>by simp[PyData.depthAll]
 |n :: r=>by
  let b:=vY r;simp only[map_cons,PyData.depthAll,PyData.depth];lia
theorem qn3{K:Frag}{ns:List Int}(h1:SqL K H a (ns.map V.int))(h2:SqL K H b (ns.map V.int))(z:Q (.bl (!neg)) H):zA K neg (.ref a) (.ref b) H Q:=
 Ks (d:=.list (ns.map PyData.int)) (.lst h1 (rM ns)) (.lst h2 (rM ns)) (wL ns) (by have:=vY ns;simp only[PyData.depth];lia) z
theorem Fq.mod{K:Frag}(l:K.lookup a=some ⟨.type "tuple",d,.seq #[.int i t,.int j u] n,sl⟩)(H:Hp):Fq K H a (i,j):=
 .inr ⟨_,_,_,l,8,8,(zl9 2),.cons ⟨9⟩ (.cons ⟨9⟩ .nil)⟩
abbrev RD:=Kd × Int × Int × Mq.Q2
inductive Rts(K:Frag)(H:Hp):vk->List RD->Prop where
 |nil:Rts K H [] []
 |cons {t z:Addr} {k:Kd} {i j:Int} {p:Mq.Q2} {xs:vk} {ds:List RD} (h:SqT K H t [.str k.wd,.int i,.int j,.ref z]) (f:Fq K H z p) (q:Rts K H xs ds):Rts K H (.ref t :: xs) ((k,i,j,p) :: ds)
section
variable {K:Frag} {H H':Hp}
theorem Rts.same(e:aS H H'):∀{xs:vk}{ds:List RD},Rts K H xs ds->Rts K H' xs ds
 |_,_,.nil=>.nil
 |_,_,.cons h f q=>.cons (e.seqT h) (e.fq f) (Rts.same e q)
theorem Rts.length:∀{xs:vk}{ds:List RD},Rts K H xs ds->xs.length=ds.length
 |_,_,.nil=>rfl
 |_,_,.cons _ _ q=>by simp[Rts.length q]
theorem Rts.app:∀{xs ys:vk}{ds es:List RD},Rts K H xs ds->Rts K H ys es->Rts K H (xs++ys) (ds++es)
 |_,_,_,_,.nil,r=>r
 |_,_,_,_,.cons h f q,r=>.cons h f (Rts.app q r)
theorem Rts.at:∀{xs:vk}{ds:List RD}{q:Nat}{d:RD},Rts K H xs ds->ds[q]?=some d->∃t z,xs[q]?=some (.ref t)/\SqT K H t [.str d.1.wd,.int d.2.1,.int d.2.2.1,.ref z]/\Fq K H z d.2.2.2
 |_,_,_,_,.nil,h=>by simp at h
 |_,_,0,_,.cons h f _,e=>by simp at e;subst e;exists _,9,h,f
 |_,_,i+1,_,.cons _ _ q,e=>by simpa using Rts.at q (by simpa using e)
theorem Rts.upd(a:H l=some (.lst ys)):∀{xs:vk}{ds:List RD},Rts K H xs ds->Rts K (L2.upd H l o) xs ds
 |_,_,.nil=>.nil
 |_,_,.cons h f q=>.cons (h.upd a) (f.upd a) (Rts.upd a q)
end
def cQ(l:Addr)(H H':Hp):Prop:=∀b o,H b=some o->b≠l->H' b=some o
theorem aS.x(s:aS H H'):cQ l H H':=λb o h _=>s b o h
theorem cQ.write(a:cQ l H H1):cQ l H (upd H1 l o):=λc u h n=>by rw[aQ n];exact a c u h n
section
variable {K:Frag} {H H':Hp} {l:Addr}
theorem cQ.seqT(b:H l=some (.lst ys))(e:cQ l H H')(h:SqT K H a xs):SqT K H' a xs:=by
 rcases h with (h | ⟨u,h⟩) | h
 .exact .inl (.inl (e _ _ h (gV h b (λz=>by cases z))))
 .exact .inl (.inr ⟨u,e _ _ h (gV h b (λz=>by cases z))⟩)
 .exact .inr h
theorem cQ.rts(a:H l=some (.lst ys))(e:cQ l H H'):∀{xs:vk}{ds:List RD},Rts K H xs ds->Rts K H' xs ds
 |_,_,.nil=>.nil
 |_,_,.cons h f q=>.cons (e.seqT a h) (e.seqT a f) (cQ.rts a e q)
end
theorem fpk:¬(("point_count":Str) = "kept"):=by decide +kernel
def pO(m:Int)(l:Addr):List (Str × V):=fM "kept" (.ref l) (fM "point_count" (.int m) [])
theorem Ge(m:Int)(l:Addr):(pO m l).lookup ("point_count":Str)=some (.int m):=by
 unfold pO;rw[bQ,if_neg fpk,bQ,if_pos rfl]
theorem iO(m:Int)(l:Addr):(pO m l).lookup ("kept":Str)=some (.ref l):=by
 unfold pO;rw[bQ,if_pos rfl]
theorem eE(m:Int)(l:Addr){x:Str}(h1:¬x = "point_count")(h2:¬x = "kept"):(pO m l).lookup x=none:=by
 unfold pO;rw[bQ,if_neg h2,bQ,if_neg h1];rfl
def yE(m:Int)(d:RD):Prop:=0<=d.2.1/\d.2.1 < m/\0<=d.2.2.1/\d.2.2.1 < m/\Mq.Low d.2.2.2/\(d.1=.pc->0 < d.2.2.2.1)/\Mq.Bd 1000 d.2.2.2
structure dB(CN:Addr)(K:Frag)(H:Hp)(n l:Addr)(m:Int)(ds:List RD):Prop where
 ob:∃dx,H n=some (.ins CN dx (pO m l))
 ls:∃ts,H l=some (.lst ts)/\Rts K H ts ds
theorem dB.same{K:Frag}(e:aS H H')(h:dB CN K H n l m ds):dB CN K H' n l m ds:=
 let ⟨⟨dx,a⟩,ts,b,c⟩:=h;⟨⟨dx,e _ _ a⟩,ts,e _ _ b,c.same e⟩
theorem dB.x{K:Frag}(d:H q=some (.lst ys))(e:cQ q H H')(ne:l≠q)(h:dB CN K H n l m ds):dB CN K H' n l m ds:=
 let ⟨⟨dx,a⟩,ts,b,c⟩:=h;⟨⟨dx,e _ _ a (gV a d (λz=>by cases z))⟩,ts,e _ _ b ne,e.rts d c⟩
structure NT(K:Frag)(mg:Str->Option Value)(CN:Addr):Prop where
 cl:Cls K CN
 nP:iB K CN "point_count"
 nK:iB K CN "kept"
 t1:W.findIn K (.ref CN) "__class__"=some (some (.builtin "object.__class__"))
 t2:W.specialIn K (.builtin "object.__class__") "__get__"=some (some (.builtin "getset_descriptor.__get__"))
 t3:W.takesIn K (.builtin "object.__class__")=some true
 t4:W.mroIn K CN (.type "object")=some true
 mN:mg "Net"=some (.ref CN)
inductive nY(K:Frag)(CK:Kd->Addr)(vs:vk)(H:Hp)(Q:VK)(E:XK):Prop where
 |mk (t:Addr) (v s g z:V) (_:vs=[.ref t]) (_:SqT K H t [v,s,g,z]) (k:Kd):v=.str k.wd->aAx CK H Q k s g z->nY K CK vs H Q E
inductive Fx(K:Frag)(vs:vk)(H:Hp)(Q:VK)(E:XK):Prop where
 |mk (a:Addr) (p:Mq.Q2):vs=[.ref a]->Fq K H a p->Mq.Low p->Q (.bl true) H->Fx K vs H Q E
inductive qp3(K:Frag)(vs:vk)(H:Hp)(Q:VK)(E:XK):Prop where
 |mk (a:Addr) (p:Mq.Q2) (n:Nat):vs=[.ref a]->Fq K H a p->Mq.Low p->0 < p.1->Mq.Bd n p->n<=8000->Q (.bl true) H->qp3 K vs H Q E
inductive qn4(vs:vk)(H:Hp)(Q:VK)(E:XK):Prop where
 |mk (i b:Int):vs=[.int i,.int b]->0<=i->i < b->Q (.bl true) H->qn4 vs H Q E
inductive qk9(K:Frag)(vs:vk)(H:Hp)(Q:VK)(E:XK):Prop where
 |mk (k:Kd) (z:Addr) (p:Mq.Q2):vs=[.str k.wd,.ref z]->Fq K H z p->Mq.Low p->(k=.pc->0 < p.1)->Mq.Bd 1000 p->Q .non H->qk9 K vs H Q E
inductive Cr(CN:Addr)(vs:vk)(H:Hp)(Q:VK)(E:XK):Prop where
 |mk (n dx:Addr) (m:Int):vs=[.ref n,.int m]->H n=some (.ins CN dx [])->1<=m->m<=20->(∀l H',H l=none->(∀b o,H b=some o->b≠n->H' b=some o)->H' n=some (.ins CN dx (pO m l))->H' l=some (.lst [])->Q .non H')->Cr CN vs H Q E
inductive tN(CN:Addr)(K:Frag)(vs:vk)(H:Hp)(Q:VK)(E:XK):Prop where
 |mk (n l:Addr) (m:Int) (ds:List RD):vs=[.ref n]->dB CN K H n l m ds->Q (.int m) H->tN CN K vs H Q E
inductive Cd(CN:Addr)(K:Frag)(vs:vk)(H:Hp)(Q:VK)(E:XK):Prop where
 |mk (n l:Addr) (m:Int) (ds:List RD):vs=[.ref n]->dB CN K H n l m ds->Q (.int ds.length) H->Cd CN K vs H Q E
inductive Ny(CN:Addr)(K:Frag)(vs:vk)(H:Hp)(Q:VK)(E:XK):Prop where
 |mk (n l:Addr) (m:Int) (ds:List RD):vs=[.ref n]->dB CN K H n l m ds->(∀a ts H',aS H H'->H a=none->H' a=some (.lst ts)->Rts K H' ts ds->Q (.ref a) H')->Ny CN K vs H Q E
inductive Lv(CN:Addr)(K:Frag)(CK:Kd->Addr)(vs:vk)(H:Hp)(Q:VK)(E:XK):Prop where
 |mk (n l x z:Addr) (m:Int) (ds:List RD) (k:Kd) (i j:Int) (p:Mq.Q2):vs=[.ref n,.ref x]->dB CN K H n l m ds->Rw CK H x k (.int i) (.int j) (.ref z)->Fq K H z p->yE m (k,i,j,p)->ds.length < 40->(∀H',cQ l H H'->dB CN K H' n l m (ds++[(k,i,j,p)])->Q (.int ds.length) H')->Lv CN K CK vs H Q E
theorem pK(P:St->Hp->Prop)(h1:∀X:St->Hp->Prop,(∀a H',P a H'->X a H')->(a1) { D with nx:=X } σ H)(h2:∀a H',P a H'->u D a H'):(kH a1 (u)) D σ H:=h1 _ h2
theorem qq5(P:St->Hp->Prop)(h1:∀X:St->Hp->Prop,(∀a H',P a H'->X a H')->(kH a1 (a2)) { D with nx:=X } σ H)(h2:∀a H',P a H'->u D a H'):(kH a1 (kH a2 (u))) D σ H:=h1 _ h2
theorem aAf(P:St->Hp->Prop)(h1:∀X:St->Hp->Prop,(∀a H',P a H'->X a H')->(kH a1 (kH a2 (a3))) { D with nx:=X } σ H)(h2:∀a H',P a H'->u D a H'):(kH a1 (kH a2 (kH a3 (u)))) D σ H:=h1 _ h2
theorem aAu(P:St->Hp->Prop)(h1:∀X:St->Hp->Prop,(∀a H',P a H'->X a H')->(kH a1 (kH a2 (kH a3 (a4)))) { D with nx:=X } σ H)(h2:∀a H',P a H'->u D a H'):(kH a1 (kH a2 (kH a3 (kH a4 (u))))) D σ H:=h1 _ h2
theorem Ov(ns:List Int)(lo hi:Option Int):∃ms:List Int,jJ (ns.map V.int) lo hi=ms.map V.int:=
 ⟨(ns.drop (HT.sIx (ns.map V.int).length 0 lo)).take (HT.sIx (ns.map V.int).length (ns.map V.int).length hi - HT.sIx (ns.map V.int).length 0 lo),by unfold jJ;rw[map_take,map_drop]⟩
end L2
namespace Mq
def val(p:Q2):Rat:=(p.1:Rat) / (p.2:Rat)
theorem dW{b:Int}(h:b≠0):(b:Rat)≠0:=λe=>h (Rat.intCast_inj.mp (by simpa using e))
theorem Ke{p:Q2}(hp:p.2≠0)(c:b≠0)(h:p.1*b=t*p.2):val p=(t:Rat) / (b:Rat):=by
 unfold val;let h1:=dW hp;let h2:=dW c;let a:(p.1:Rat)*(b:Rat)=(t:Rat)*(p.2:Rat):=by rw[<- Rat.intCast_mul,<- Rat.intCast_mul,h]
 grind
theorem jH(a:b≠0):val (red t b)=(t:Rat) / (b:Rat):=by
 have:=(iE (t:=t) a).pos;exact Ke () a (Bo a)
theorem Lu(hp:Low p)(c:Low q)(h:val p=val q):p=q:=by
 refine Uf hp c ?_;let a:=dW (show p.2≠0 by have:=hp.pos;lia);let b:=dW (show q.2≠0 by have:=c.pos;lia);unfold val at h;have:(p.1:Rat)*(q.2:Rat)=(q.1:Rat)*(p.2:Rat):=by grind
 rw[<- Rat.intCast_mul,<- Rat.intCast_mul] at this;exact Rat.intCast_inj.mp this
theorem iF(hp:1<=p.2)(c:1<=q.2):val (plus p q)=val p+val q:=by
 let a:=dW (show p.2≠0 by lia);let b:=dW (show q.2≠0 by lia);unfold plus;rw[jH (iG hp c),Rat.intCast_add,Rat.intCast_mul,Rat.intCast_mul,Rat.intCast_mul];unfold val;grind
theorem dS(hp:1<=p.2)(c:1<=q.2):val (minus p q)=val p - val q:=by
 let a:=dW (show p.2≠0 by lia);let b:=dW (show q.2≠0 by lia);unfold minus;rw[jH (iG hp c),Rat.intCast_sub,Rat.intCast_mul,Rat.intCast_mul,Rat.intCast_mul];unfold val;grind
theorem tQ(hp:1<=p.2)(c:1<=q.2):val (mU p q)=val p*val q:=by
 let a:=dW (show p.2≠0 by lia);let b:=dW (show q.2≠0 by lia);unfold mU;rw[jH (iG hp c),Rat.intCast_mul,Rat.intCast_mul];unfold val;grind
theorem Rl(hp:1<=p.2)(e:1<=q.2)(d:q.1≠0):val (rE p q)=val p / val q:=by
 let a:=dW (show p.2≠0 by lia);let b:=dW (show q.2≠0 by lia);let c:=dW d;unfold rE;rw[jH (uY hp d),Rat.intCast_mul,Rat.intCast_mul];unfold val;grind
theorem mQ:val (0,1)=0:=by unfold val;simp;grind
theorem qf2:val (1,1)=1:=by unfold val;simp;grind
theorem qd0(c:0 < t)(d:0 < b):0 < (red t b).1:=by
 let h1:=Bo (t:=t) (b:=b) ();let h2:=(iE (t:=t) (b:=b) ()).pos;let a:0 < t*(red t b).2:=Int.mul_pos c ();rw[<- h1] at a;exact Int.pos_of_mul_pos_left a ()
def qO:List Rat->Rat
 | []=>0
 |x :: l=>x+qO l
theorem Ws(a b:List Rat):qO (a++b)=qO a+qO b:=by
 induction a with
 |nil=>simp[qO];grind
 |cons x l ih=>simp only[cons_append,qO,ih];grind
theorem Bc:∀{l:List Q2}{p:Q2},1<=p.2->Pos l->val (l.foldl plus p)=val p+qO (l.map val)
 | [],p,_,_=>by simp[qO];grind
 |q :: l,p,hp,h=>by
  let a:=h q ⋯;rw[foldl_cons,Bc (iW hp a).pos (λf b=>h f (mem_cons_of_mem _ b)),iF hp a];simp only[map_cons,qO];grind
theorem Nw(h:Pos l):val (tot l)=qO (l.map val):=by
 unfold tot;rw[Bc ∅ h,mQ];grind
def rs(n:Nat)(F:Nat->Rat):Rat:=match n with
 |0=>0
 |n+1=>rs n F+F n
theorem aX{F G:Nat->Rat}(h:∀i,i < n->F i=G i):rs n F=rs n G:=by
 induction n with
 |zero=>rfl
 |succ n ih=>simp only[rs];rw[ih (λi hi=>h i ()),h n ()]
theorem fE(n:Nat)(F G:Nat->Rat):rs n (λi=>F i+G i)=rs n F+rs n G:=by
 induction n with
 |zero=>simp[rs];grind
 |succ n ih=>simp only[rs];rw[ih];grind
theorem gK(n:Nat)(c:Rat)(F:Nat->Rat):rs n (λi=>c*F i)=c*rs n F:=by
 induction n with
 |zero=>simp[rs]
 |succ n ih=>simp only[rs];rw[ih];grind
theorem pX(n:Nat)(F:Nat->Rat):rs n (λi=>- F i)=- rs n F:=by
 induction n with
 |zero=>simp[rs]
 |succ n ih=>simp only[rs];rw[ih];grind
theorem eV(n:Nat):rs n (λ_=>0)=0:=by
 induction n with
 |zero=>rfl
 |succ n ih=>simp only[rs];rw[ih];grind
theorem yR(n k:Nat)(F:Nat->Rat):rs n (λi=>if k=i then F i else 0)=if k < n then F k else 0:=by
 induction n with
 |zero=>simp[rs]
 |succ n ih=>
  simp only[rs];rw[ih]
  by_cases h1:k < n
  .rw[if_pos h1,if_neg (),if_pos ()];grind
  .by_cases h2:k=n
   .subst h2;rw[if_neg h1,if_pos rfl,if_pos ()];grind
   .rw[if_neg h1,if_neg h2,if_neg ()];grind
abbrev z0:Q2:=(0,1)
abbrev Row:=Nat × Nat × Q2
theorem dP.pos(h:dP ls):Pos ls:=λp hp=>(h p hp).pos
def qH(L b:Int):Int:=Int.fdiv L (gc L b)*b
theorem pW(f:1<=L)(h:1<=b):1<=qH L b/\(∃j,qH L b=L*j)/\(∃k,qH L b=k*b/\1<=k)/\qH L b<=L*b:=by
 let e:0 < gc L b:=yD ();let d1:gc L b ∣ L:=by unfold gc;exact Int.gcd_dvd_left ..
 let d2:gc L b ∣ b:=by unfold gc;exact Int.gcd_dvd_right ..
 let⟨k,a⟩:=d1;let⟨j,c⟩:=d2;let d:Int.fdiv L (gc L b)=k:=gQ () a;let k1:1<=k:=by
  have:0 < gc L b*k:=by lia
  have:=Int.pos_of_mul_pos_right this ();lia
 unfold qH;rw[d];exists 7,⟨j,7⟩,⟨k,8,k1⟩,7
 .have:0 < k*b:=Int.mul_pos () ();lia
 .generalize gc L b=g at *
  rw[a,c];grind
 .have:k<=L:=by
   rw[a];have:=Int.mul_le_mul_of_nonneg_right (show 1<=gc L b by lia) (show 0<=k by lia);lia
  exact Int.mul_le_mul_of_nonneg_right this ()
def fB(ps:List Q2):Int:=ps.foldl (λL p=>qH L p.2) 1
theorem Ps(ps:List Q2)(p:Q2):fB (ps++[p])=qH (fB ps) p.2:=by unfold fB;rw[foldl_append];rfl
theorem pH{ps:List Q2}(h:ps[i]?=some p):fB (ps.take (i+1))=qH (fB (ps.take i)) p.2:=by
 rw[take_add_one,h];exact Ps _ _
theorem qC(hp:Pos ps)(s:∀p∈ps,Bd n p):∀i,i<=ps.length->1<=fB (ps.take i)/\B (1+n*i) (fB (ps.take i))/\∀p∈ps.take i,∃k,fB (ps.take i)=k*p.2
 |0,_=>⟨by show (1:Int)<=1;lia,show (1:Nat) < 2 ^ (1+n*0) by simp,λp h=>by simp at h⟩
 |i+1,hi=>by
  let⟨h1,h2,d⟩:=qC hp s i ();let e:ps[i]?=some ps[i]:=getElem?_eq_getElem ();let a:ps[i]∈ps:=getElem_mem _;rw[pH e];let⟨f,⟨j,g⟩,⟨k,l3,m⟩,o⟩:=pW h1 (hp _ a);exists f,7,λp c=>?_
  .have:=h2.mul (s _ a).b;refine B.mono (n:=1+n*i+n) (this.le ?_) (by rw[Nat.mul_succ];lia);let r:1<=ps[i].2:=hp _ a;have:0<=fB (ps.take i)*ps[i].2:=Int.mul_nonneg () ();lia
  .rw[take_add_one,e] at c;rcases mem_append.mp c with z | z
   .let⟨q,l⟩:=d p z;exists q*j,by rw[g,l];grind
   .have:p=ps[i]:=by simpa using z
    rw[this];exists k,l3
theorem vS(hp:Pos ps):1<=fB ps:=by
 have:∀(l:List Q2)(L:Int),1<=L->Pos l->1<=l.foldl (λL p=>qH L p.2) L:=λl=>by
  induction l with
  |nil=>intro L h _;exact h
  |cons p l ih=>intro L h q;exact ih _ (pW h (q p ⋯)).1 λx a=>q x (mem_cons_of_mem _ a)
 exact this ps 1 () hp
def Fe(L:Int)(p:Q2):Int:=p.1*Int.fdiv L p.2
def iw(ps:List Q2):List Int:=ps.map (Fe (fB ps))
theorem Wa(h:1<=p.2)(e:L=k*p.2):((Fe L p:Int):Rat)=val p*(L:Rat):=by
 let a:Int.fdiv L p.2=k:=gQ () (by rw[e,Int.mul_comm]);let n:=dW (show p.2≠0 by lia);unfold Fe val;rw[a,e,Rat.intCast_mul,Rat.intCast_mul];grind
theorem Hd(hp:Pos ps):∀p∈ps,∃k,fB ps=k*p.2:=λp hpp=>by
 have:∀(l:List Q2)(L:Int),1<=L->Pos l->(∃j,l.foldl (λL p=>qH L p.2) L=L*j)/\∀p∈l,∃k,l.foldl (λL p=>qH L p.2) L=k*p.2:=λl=>by
  induction l with
  |nil=>intro L h _;exists ⟨1,⋯⟩,λp h=>by simp at h
  |cons q l ih=>
   intro L h a;let⟨b,⟨j,c⟩,⟨k,d,g⟩,i⟩:=pW h (a q ⋯);let⟨⟨j2,i1⟩,e⟩:=ih (qH L q.2) b λx f=>a x (mem_cons_of_mem _ f);exists ⟨j*j2,by rw[foldl_cons,i1,c];grind⟩,λp hp=>?_;rcases mem_cons.mp hp with rfl | hp
   .exists k*j2,by rw[foldl_cons,i1,d];grind
   .exact e p hp
 exact(this ps 1 () hp).2 p hpp
def gM(X:List (List Q2)):Prop:=∀row∈X,Pos row
theorem Rh(h:Pos row)(j:Nat):1<=(row.getD j z0).2:=by
 rw[getD_eq_getElem?_getD]
 cases e:row[j]? with
 |none=>exact Int.le_refl 1
 |some v=>exact h v (mem_of_getElem? e)
end Mq
open Mq (Fe Hd Lu Nw aX dW eV fB fE gK gM iw jH pX qC qO qf2 tQ vS yR)
namespace L2
open PySem PySem.Spec PyProof.Rows
def Ite(K : Frag)(a : Addr) : It :=
  ⟨λi H => ∃ xs x, SqL K H a xs /\ xs[i]? = some x,
   λi H v H' => ∃ T x, v = .ref T /\ H T = none /\ H' = upd H T (.tup [.int (i : Int), x]) /\ ∀ xs, SqL K H a xs -> xs[i]? = some x,
   λi H => ∃ xs, SqL K H a xs /\ xs.length <= i⟩
def qq2(e it l:Addr)(i:Nat)(h:Heap):Prop:=e≠it/\(∃old,IsEnum h e it (i:Int) old)/\h.IsListIter it l i
theorem Pl{K:Frag}(e it l:Addr):
  Oi P w K (.Tuple elts kk tpos) (Ite K l) [e,it] e (qq2 e it l) where
 mem:=by simp
 obj:=λi h st b a=>by
  let⟨f,⟨g,c⟩,⟨u,j,c1,d1⟩⟩:=st;simp only[mem_cons,not_mem_nil,or_false] at a;rcases a with rfl | rfl
  .exists _,c,λv q=>by cases q
  .exists u,j,λv q=>by rw[d1] at q;cases q
 keep:=λi h h' st k=>by
  let⟨f,⟨g,c⟩,⟨u,j,c1,d1⟩⟩:=st;exists f,⟨g,k _ ⋯ _ c⟩,⟨u,k _ ⋯ _ j,c1,d1⟩
 item:=by
  intro X B hw C J i pins s σ H E I y st D;subst B hw C;let⟨f,⟨g,c⟩,m⟩:=st;let⟨xs,x,z,ex⟩:=D;let⟨F,n,G,O⟩:=I.list z;let⟨p,L,M⟩:=n.get ex;refine wpAny_pyNext_enum_item c m G.isList (x:=p) (by simpa using L) f λh' R S T g4 r=>?_;let U:H s.heap.objs.size=none:=I.hok.fresh (Nat.le_refl _);let lt:∀b∈[e,it],b < s.heap.objs.size:=λb a=>by
   simp only[mem_cons,not_mem_nil,or_false] at a;let⟨u,j,_⟩:=m;rcases a with rfl | rfl
   .exact Heap.lt_size c
   .exact Heap.lt_size j
  let V:Inv X pins σ (upd H s.heap.objs.size (.tup [.int (i:Int),x])) { s with heap:=s.heap.push { cls:=.type "tuple",data:=.seq #[.int i s.toks,p] },toks:=s.toks+1 }:=
   I.laid (t':=s.toks+1) (λb o e=>Heap.get?_push_of_some _ e) (Nat.le_refl _) (show cP X.prog X.w _ _ _ (.tup [.int (i:Int),x]) from ⟨zl9 2,[.int i s.toks,p],.cons ⟨9⟩ (.cons M .nil),IsTup.new _ _⟩)
  let t:∀b∈[e,it],pI X pins (upd H s.heap.objs.size (.tup [.int (i:Int),x])) b:=λb a=>⟨by rw[aQ (Nat.ne_of_lt (lt b a))];exact(y b a).1,(y b a).2⟩
  let k1:∀b o,b∉[e,it]->(s.heap.push { cls:=.type "tuple",data:=.seq #[.int i s.toks,p] }).get? b=some o->h'.get? b=some o:=λb o d e=>by
   simp only[mem_cons,not_mem_nil,or_false,not_or] at d
   by_cases a:b=s.heap.objs.size
   .subst a;rw[Heap.get?_push_size _ rfl] at e
    cases e
    exact T
   .let W:s.heap.get? b=some o:=by rw[Heap.get?_push_ne _ _ _ a] at e;exact e
    exact r b o d.1 d.2 W
  let Y:Inv X pins σ (upd H s.heap.objs.size (.tup [.int (i:Int),x])) { s with heap:=h',toks:=s.toks+1 }:=Inv.turnedL (s:={ s with heap:=s.heap.push { cls:=.type "tuple",data:=.seq #[.int i s.toks,p] },toks:=s.toks+1 }) (t':=s.toks+1) V k1 t;exists 9,wpAny_letOwnedTupleGo_enum (s:={ s with heap:=h',toks:=s.toks+1 }) R λh2 Z q2=>?_;let N:∀b o,b≠e->h'.get? b=some o->h2.get? b=some o:=λb o d e=>(q2.2 b d).trans e;let I3:Inv X pins σ (upd H s.heap.objs.size (.tup [.int (i:Int),x])) { s with heap:=h2,toks:=s.toks+1 }:=Inv.turnedL (s:={ s with heap:=h',toks:=s.toks+1 }) (t':=s.toks+1) (fp:=[e]) Y (λb o d e=>N b o (by simpa using d) e) λb a=>t b (by simp at a;simp[a]);let⟨o3,e3,c3,d3⟩:=S;exists .ref s.heap.objs.size,_,I3,8,⟨_,x,8,U,8,λa0 h1=>?_⟩,⟨f,⟨_,Z⟩,⟨o3,N _ _ f.symm e3,c3,d3⟩⟩,λb a=>(t b a).1;rw[I.list_inj h1 z];exact ex
 done:=by
  intro X B hw C J i pins s σ H E I y st D;subst B hw C;let⟨f,⟨g,c⟩,m⟩:=st;let⟨xs,z,a1⟩:=D;let⟨F,n,G,O⟩:=I.list z;let a2:=n.length;refine wpAny_pyNext_enum_end (I.ok.hd J) c m G.isList (by simp;lia) λh' r=>⟨8,7⟩
  refine I.turnedL (t':=s.toks) (λb o d e=>?_) y;simp only[mem_cons,not_mem_nil,or_false,not_or] at d;exact r b o d.2 e
 self:=λA i s Q E st h=>by
  let⟨f,⟨g,c⟩,m⟩:=st;exact wpAny_pyIter_enum c h
section
variable {X:Cx}
def qx2(K:Frag)(ta:TA):TI:=λσ H R=>ta σ H λvs H1=>∃a,vs=[.ref a]/\(∃xs,SqL K H1 a xs)/\R (Ite K a) H1
theorem Ea(C:Gl X "enumerate")(hm:X.mg "enumerate"=none)(D:bootBuiltins "enumerate"=some (.type "enumerate"))(E:PA X [e1] ta)(hs:starEach [e1] X.env=(false,eval e1 X.env) :: starEach [] X.env:=by rfl)(B:(backTo pos (starEach [] X.env)).any (·.1)=false:=by rfl):PI X (.Tuple elts kk tpos) (.Call (.Name "enumerate" p) [e1] [] pos) (qx2 X.K ta):=by
 intro pins s σ H R I h;refine Call_ (kJ I C hm D (PyProof.Rows.callWith_type1 (thn (E pos pins s σ H _ I h) λx b ⟨vs,H1,d,l,m⟩=>?_) hs B));let⟨a,rfl,⟨xs,n⟩,q⟩:=m;let⟨u,rfl,r⟩:=Be l
 cases (show u=Value.ref a from r)
 let⟨t,w,g,y⟩:=d.list n;let z:a < b.heap.objs.size:=by let⟨o,e,_⟩:=g.isList;exact Heap.lt_size e
 refine call_enumerate_list g.isList λh' i v A j=>?_;refine wpAny_pyIter_enum i ?_;exists b.heap.objs.size+1,[b.heap.objs.size+1,b.heap.objs.size],_,Ite X.K a,H1,8,d.kept (t':=b.toks) j,Pl _ _ a,⟨7,⟨_,i⟩,v⟩,λc k=>?_,q
 .exact Nat.succ_ne_self _
 .let f:b.heap.objs.size<=c:=by
   simp only[mem_cons,not_mem_nil,or_false] at k;rcases k with rfl | rfl<;>first | exact Nat.le_add_right _ _ | exact Nat.le_refl _
  exact d.fpOk f (d.hok.fresh f)
theorem Qm{K:Frag}{g:TG}{tb:TS}{D:jY}(j:Nat->St->Hp->Prop)(o:j 0 σ H)(q:∀i σ H,i<=xs.length->j i σ H->SqL K H a xs)(hs:∀i x σ H T,xs[i]?=some x->j i σ H->H T=none->g (.ref T) σ (upd H T (.tup [.int (i:Int),x])) λk H2=>tb { D with nx:=j (i+1),ct:=j (i+1),bk:=D.nx } k H2)(r:∀σ H,j xs.length σ H->D.nx σ H):
  ∃W:Nat->Nat->St->Hp->Prop,(∃m,W 0 m σ H)/\∀i m σ H,W i m σ H->
   ((Ite K a).stop i H/\D.nx σ H)\/((Ite K a).go i H/\∃N:St->Hp->Prop,(∀l H',N l H'->∃n,n < m/\W (i+1) n l H')/\∀x H',(Ite K a).yld i H x H'->g x σ H' λk H2=>tb { D with nx:=N,ct:=N,bk:=D.nx } k H2):=by
 exists λi m σ H=>m=xs.length - i/\i<=xs.length/\j i σ H,⟨9,Nat.zero_le _,o⟩,7;rintro i m σ H ⟨rfl,hi,p⟩;let c:=q i σ H hi p
 by_cases b:i < xs.length
 .refine .inr ⟨⟨xs,xs[i],c,by simp[b]⟩,j (i+1),λl H' d=>⟨xs.length - (i+1),6,8,b,d⟩,λv H' z=>?_⟩;let⟨T,x,rfl,f,rfl,h⟩:=z;exact hs i x σ H T (h xs c) p f
 .let e:i=xs.length:=by lia
  subst e;exact .inl ⟨⟨xs,c,Nat.le_refl _⟩,r σ H p⟩
theorem Ax{K:Frag}(k:Nat->vk->Hp->Prop)(l:k 0 [] (upd H1 D (.lst [])))(n:∀i zs H,k i zs H->H D=some (.lst zs))(o:∀i zs H,i<=xs.length->k i zs H->SqL K H a xs)(hs:∀i zs x H T,xs[i]?=some x->k i zs H->H T=none->∀(C:Nat->vk->Hp->Prop),(∀zs H,k (i+1) zs H->C (i+1) zs H)->Me nl fr g tt te σ D C i zs (.ref T) (upd H T (.tup [.int (i:Int),x])))(q:∀zs H,k xs.length zs H->Q (.ref D) H):
  wK (Ite K a) nl fr g tt te σ D H1 Q:=by
 exists λi m zs H=>m=xs.length - i/\i<=xs.length/\k i zs H,⟨9,Nat.zero_le _,l⟩,7;rintro i m zs H ⟨rfl,hi,p⟩;exists n i zs H p,7;let c:=o i zs H hi p
 by_cases b:i < xs.length
 .refine .inr ⟨⟨xs,xs[i],c,by simp[b]⟩,λv H' z=>?_⟩;let⟨T,x,rfl,f,rfl,h⟩:=z;exact hs i zs x H T (h xs c) p f (λj zs d=>∃m',m' < xs.length - i/\m'=xs.length - j/\j<=xs.length/\k j zs d) λzs d z=>⟨xs.length - (i+1),6,8,b,z⟩
 .let e:i=xs.length:=by lia
  subst e;exact .inl ⟨⟨xs,c,Nat.le_refl _⟩,q zs H p⟩
end
end L2
namespace Shp
open PySem L2
theorem Zf(h:0 < b):dvr t b=gc t b:=by unfold dvr;rw[if_neg ()]
end Shp
namespace Mq
def skip(j k:Nat):Nat:=if k < j then k else k+1
def sgn(n:Nat):Rat:=if n % 2=0 then 1 else -1
theorem xJ(n:Nat):sgn (n+1)=- sgn n:=by
 unfold sgn;rcases Nat.mod_two_eq_zero_or_one n with h | h
 .rw[if_neg (),if_pos h]
 .rw[if_pos (),if_neg ()];grind
abbrev Mat:=Nat->Nat->Rat
def det:Nat->Mat->Rat
 |0,_=>1
 |n+1,M=>rs (n+1) λj=>sgn (n+j)*M n j*det n λi k=>M i (skip j k)
theorem gN(n:Nat)(M:Mat):det (n+1) M=rs (n+1) λj=>sgn (n+j)*M n j*det n λi k=>M i (skip j k):=rfl
theorem Yd(a:k < n):skip j k < n+1:=by unfold skip;split<;>lia
theorem cX:∀{n:Nat}{M N:Mat},(∀i j,i < n->j < n->M i j=N i j)->det n M=det n N
 |0,_,_,_=>rfl
 |n+1,M,N,h=>by
  rw[gN,gN];exact aX λj a=>by rw[h n j () a,cX (N:=λi k=>N i (skip j k)) λi k hi b=>h i _ () (Yd b)]
theorem Ak(h:j<=k):skip (k+1) (skip j l)=skip j (skip k l):=by
 unfold skip
 by_cases h1:l < j
 .rw[if_pos h1,if_pos (show l < k by lia),if_pos (show l < k+1 by lia),if_pos h1]
 .rw[if_neg h1]
  by_cases h2:l < k
  .rw[if_pos h2,if_pos (show l+1 < k+1 by lia),if_neg h1]
  .rw[if_neg h2,if_neg (show ¬l+1 < k+1 by lia),if_neg (show ¬l+1 < j by lia)]
theorem qb4(n m:Nat)(F:Nat->Nat->Rat):(rs n λi=>rs m λj=>F i j)=rs m λj=>rs n λi=>F i j:=by
 induction n with
 |zero=>simp only[rs];rw[eV]
 |succ n ih=>simp only[rs];rw[ih,<- fE]
theorem xO(n:Nat)(F:Nat->Rat):rs (n+1) F=F 0+rs n λi=>F (i+1):=by
 induction n with
 |zero=>simp only[rs];grind
 |succ n ih=>rw[show rs (n+1+1) F=rs (n+1) F+F (n+1) from rfl,ih];simp only[rs];grind
theorem Bq(N:Nat)(X:Nat->Nat->Rat):(rs (N+1) λj=>rs N λk=>X j k)=(rs N λk=>rs N λj=>if k<=j then X (j+1) k else 0)+rs N λj=>rs N λk=>if j<=k then X j k else 0:=by
 let h1:(rs (N+1) λj=>rs N λk=>X j k)=(rs (N+1) λj=>rs N λk=>if k < j then X j k else 0)+rs (N+1) λj=>rs N λk=>if k < j then 0 else X j k:=by
  rw[<- fE];refine aX λj _=>?_;rw[<- fE];exact aX λk _=>by split<;>grind
 let h2:(rs (N+1) λj=>rs N λk=>if k < j then X j k else 0)=rs N λk=>rs N λj=>if k<=j then X (j+1) k else 0:=by
  rw[qb4];refine aX λk _=>?_;rw[xO,if_neg ()];have:(rs N λi=>if k < i+1 then X (i+1) k else 0)=rs N λj=>if k<=j then X (j+1) k else 0:=aX λi _=>by
   by_cases c:k<=i
   .rw[if_pos (),if_pos c]
   .rw[if_neg (),if_neg c]
  rw[this];grind
 let a:(rs (N+1) λj=>rs N λk=>if k < j then 0 else X j k)=rs N λj=>rs N λk=>if j<=k then X j k else 0:=by
  show (rs N λj=>rs N λk=>if k < j then 0 else X j k)+(rs N λk=>if k < N then 0 else X N k)=_;have:(rs N λk=>if k < N then 0 else X N k)=rs N λ_=>0:=aX λk b=>by rw[if_pos b]
  rw[this,eV];let d:(rs N λj=>rs N λk=>if k < j then 0 else X j k)=rs N λj=>rs N λk=>if j<=k then X j k else 0:=aX λj _=>aX λk _=>by
   by_cases c:j<=k
   .rw[if_neg (),if_pos c]
   .rw[if_pos (),if_neg c]
  rw[d];grind
 rw[h1,h2,a]
theorem Jq(N:Nat)(X Y:Nat->Nat->Rat)(h:∀j k,j<=k->Y (k+1) j=- X j k)(h':∀j k,j<=k->X (k+1) j=- Y j k):(rs (N+1) λj=>rs N λk=>Y j k)=- rs (N+1) λj=>rs N λk=>X j k:=by
 rw[Bq,Bq];let a:(rs N λk=>rs N λj=>if k<=j then Y (j+1) k else 0)=- rs N λj=>rs N λk=>if j<=k then X j k else 0:=by
  rw[<- pX];refine aX λk _=>?_;rw[<- pX];exact aX λj _=>by
   by_cases c:k<=j
   .rw[if_pos c,if_pos c,h k j c]
   .rw[if_neg c,if_neg c];grind
 let b:(rs N λk=>rs N λj=>if k<=j then X (j+1) k else 0)=- rs N λj=>rs N λk=>if j<=k then Y j k else 0:=by
  rw[<- pX];refine aX λk _=>?_;rw[<- pX];exact aX λj _=>by
   by_cases c:k<=j
   .rw[if_pos c,if_pos c,h' k j c]
   .rw[if_neg c,if_neg c];grind
 rw[a,b];grind
def cL(a:Nat)(M:Mat):Mat:=λi=>if i=a then M (a+1) else if i=a+1 then M a else M i
theorem Mu(n:Nat)(M:Mat):det (n+2) M=rs (n+2) λj=>rs (n+1) λk=>(sgn (n+1+j)*M (n+1) j)*(sgn (n+k)*M n (skip j k)*det n λi l=>M i (skip j (skip k l))):=by
 rw[gN];exact aX λj _=>by rw[gN,<- gK]
theorem rV(a b:Nat):sgn (a+1+b)=- sgn (a+b):=by rw[show a+1+b=a+b+1 by lia,xJ]
theorem Ap(n:Nat)(M:Mat):det (n+2) (cL n M)=- det (n+2) M:=by
 rw[Mu,Mu];refine Jq (n+1) _ _ (λj k a=>?_) (λj k a=>?_)
 .show (sgn (n+1+(k+1))*cL n M (n+1) (k+1))*(sgn (n+j)*cL n M n (skip (k+1) j)*det n λi l=>cL n M i (skip (k+1) (skip j l)))=- ((sgn (n+1+j)*M (n+1) j)*(sgn (n+k)*M n (skip j k)*det n λi l=>M i (skip j (skip k l))));let b:cL n M (n+1)=M n:=by unfold cL;rw[if_neg (),if_pos rfl]
  let c:cL n M n=M (n+1):=by unfold cL;rw[if_pos rfl]
  let d:(det n λi l=>cL n M i (skip (k+1) (skip j l)))=det n λi l=>M i (skip j (skip k l)):=cX λi l hi _=>by
   show cL n M i (skip (k+1) (skip j l))=M i (skip j (skip k l));rw[Ak a];unfold cL;rw[if_neg (),if_neg ()]
  let e:skip (k+1) j=j:=by unfold skip;rw[if_pos ()]
  let f:skip j k=k+1:=by unfold skip;rw[if_neg ()]
  rw[b,c,d,e,f,rV,rV,show n+(k+1)=n+k+1 by lia,xJ];generalize (det n λi l=>M i (skip j (skip k l)))=dd;generalize sgn (n+k)=g;generalize sgn (n+j)=h;grind
 .show (sgn (n+1+(k+1))*M (n+1) (k+1))*(sgn (n+j)*M n (skip (k+1) j)*det n λi l=>M i (skip (k+1) (skip j l)))=- ((sgn (n+1+j)*cL n M (n+1) j)*(sgn (n+k)*cL n M n (skip j k)*det n λi l=>cL n M i (skip j (skip k l))));let b:cL n M (n+1)=M n:=by unfold cL;rw[if_neg (),if_pos rfl]
  let c:cL n M n=M (n+1):=by unfold cL;rw[if_pos rfl]
  let d:(det n λi l=>M i (skip (k+1) (skip j l)))=det n λi l=>cL n M i (skip j (skip k l)):=cX λi l hi _=>by
   show M i (skip (k+1) (skip j l))=cL n M i (skip j (skip k l));rw[Ak a];unfold cL;rw[if_neg (),if_neg ()]
  let e:skip (k+1) j=j:=by unfold skip;rw[if_pos ()]
  let f:skip j k=k+1:=by unfold skip;rw[if_neg ()]
  rw[b,c,d,e,f,rV,rV,show n+(k+1)=n+k+1 by lia,xJ];generalize (det n λi l=>cL n M i (skip j (skip k l)))=dd;generalize sgn (n+k)=g;generalize sgn (n+j)=h;grind
theorem nH:∀(n a:Nat)(M:Mat),a+1 < n->det n (cL a M)=- det n M
 |0,_,_,h=>absurd h ()
 |n+1,a,M,h=>by
  by_cases e:a+1=n
  .subst e;exact Ap a M
  .rw[gN,gN,<- pX];refine aX λj d=>?_;let b:cL a M n j=M n j:=by unfold cL;rw[if_neg (),if_neg ()]
   let c:(det n λi k=>cL a M i (skip j k))=- det n λi k=>M i (skip j k):=by
    rw[<- nH n a (λi k=>M i (skip j k)) ()];exact cX λi k _ _=>by
     show cL a M i (skip j k)=cL a (λi k=>M i (skip j k)) i k;unfold cL;split
     .rfl
     .split<;>rfl
   rw[b,c];grind
theorem Bb:∀(t n:Nat)(M:Mat)(i:Nat),i+t+1=n->(∀j,M i j=M n j)->det (n+1) M=0
 |0,n,M,i,h,e=>by
  let a:n=i+1:=by lia
  subst a;let s:=Ap i M;let c:det (i+2) (cL i M)=det (i+2) M:=cX λk j _ _=>by
   unfold cL
   by_cases k1:k=i
   .rw[if_pos k1,k1];exact(e j).symm
   .rw[if_neg k1]
    by_cases k2:k=i+1
    .rw[if_pos k2,k2];exact e j
    .rw[if_neg k2]
  rw[c] at s;grind
 |t+1,n,M,i,h,e=>by
  let s:=nH (n+1) i M ();let z:=Bb t n (cL i M) (i+1) () λj=>by
   let b:cL i M (i+1)=M i:=by unfold cL;rw[if_neg (),if_pos rfl]
   let d:cL i M n=M n:=by unfold cL;rw[if_neg (),if_neg ()]
   rw[b,d];exact e j
  rw[z] at s;grind
def Eb(n:Nat)(S:Mat)(x:Nat->Rat):Mat:=λi=>if i=n then x else S i
def F(n:Nat)(S:Mat)(c:Nat->Nat)(x:Nat->Rat):Rat:=det (n+1) (Eb n (λi j=>S i (c j)) λj=>x (c j))
theorem Pf(n:Nat)(S:Mat)(c:Nat->Nat)(x:Nat->Rat):F n S c x=rs (n+1) λj=>sgn (n+j)*x (c j)*det n λi k=>S i (c (skip j k)):=by
 unfold F;rw[gN];refine aX λj _=>?_;let a:Eb n (λi j=>S i (c j)) (λj=>x (c j)) n j=x (c j):=by unfold Eb;rw[if_pos rfl]
 rw[a,cX λi k hi _=>show Eb n (λi j=>S i (c j)) (λj=>x (c j)) i (skip j k)=S i (c (skip j k)) by unfold Eb;rw[if_neg ()]]
theorem qy8(n:Nat)(S:Mat)(c:Nat->Nat)(x y:Nat->Rat)(l:Rat):F n S c (λj=>x j+l*y j)=F n S c x+l*F n S c y:=by
 rw[Pf,Pf,Pf,<- gK,<- fE];exact aX λj _=>by grind
theorem Ml(n:Nat)(S:Mat)(c:Nat->Nat)(h:i < n):F n S c (S i)=0:=by
 unfold F;refine Bb (n - i - 1) n _ i () λj=>?_;unfold Eb;rw[if_neg (),if_pos rfl]
theorem Ck(n:Nat)(S:Mat)(c:Nat->Nat)(x:Nat->Rat)(h:∀j,j < n->x (c j)=0):F n S c x=x (c n)*det n λi j=>S i (c j):=by
 rw[Pf];show (rs n λj=>sgn (n+j)*x (c j)*det n λi k=>S i (c (skip j k)))+sgn (n+n)*x (c n)*(det n λi k=>S i (c (skip n k)))=_;let z:(rs n λj=>sgn (n+j)*x (c j)*det n λi k=>S i (c (skip j k)))=rs n λ_=>0:=aX λj a=>by rw[h j a];grind
 let s:sgn (n+n)=1:=by unfold sgn;rw[if_pos ()]
 let d:(det n λi k=>S i (c (skip n k)))=det n λi j=>S i (c j):=cX λi k _ b=>by show S i (c (skip n k))=_;unfold skip;rw[if_pos b]
 rw[z,eV,s,d];grind
theorem Gn{F:Nat->Rat}(h:∀i,i < n->∃z:Int,F i=(z:Rat)):∃z:Int,rs n F=(z:Rat):=by
 induction n with
 |zero=>exact⟨0,by simp[rs]⟩
 |succ n ih=>
  let⟨a,c⟩:=ih λi hi=>h i ();let⟨b,d⟩:=h n ();exists a+b,by simp only[rs];rw[c,d,Rat.intCast_add]
theorem Pw(n:Nat):∃z:Int,sgn n=(z:Rat):=by
 unfold sgn;split
 .exists 1,⋯
 .exists -1,by rw[Rat.intCast_neg];simp
theorem sQ(h:∃z:Int,a=(z:Rat))(k:∃z:Int,b=(z:Rat)):∃z:Int,a*b=(z:Rat):=by
 let⟨x,rfl⟩:=h;let⟨y,rfl⟩:=k;exists x*y,by rw[Rat.intCast_mul]
theorem Au:∀{n:Nat}{M:Mat},(∀i j,∃z:Int,M i j=(z:Rat))->∃z:Int,det n M=(z:Rat)
 |0,_,_=>⟨1,by simp[det]⟩
 |n+1,M,h=>by
  rw[gN];exact Gn λj _=>sQ (sQ (Pw _) (h n j)) (Au λi k=>h i _)
theorem Yx(h:∀i j,∃z:Int,S i j=(z:Rat))(a:∀j,∃z:Int,x j=(z:Rat)):∃z:Int,F n S c x=(z:Rat):=by
 unfold F;refine Au λi j=>?_;unfold Eb;split
 .exact a _
 .exact h i _
def Lin(Φ:(Nat->Rat)->Rat):Prop:=∀x y l,Φ (λj=>x j+l*y j)=Φ x+l*Φ y
theorem Lin.zero(h:Lin a):a (λ_=>0)=0:=by
 have:=h (λ_=>0) (λ_=>0) 1;let e:(λj:Nat=>(λ_=>(0:Rat)) j+1*(λ_=>(0:Rat)) j)=λ_=>0:=by funext j;show (0:Rat)+1*0=0;grind
 rw[e] at this;grind
theorem Lin.mul(h:Lin a)(l:Rat)(y:Nat->Rat):a (λj=>l*y j)=l*a y:=by
 have:=h (λ_=>0) y l;let e:(λj:Nat=>(λ_=>(0:Rat)) j+l*y j)=λj=>l*y j:=by funext j;show (0:Rat)+l*y j=_;grind
 rw[e,h.zero] at this;grind
theorem Lin.sum(h:Lin b)(a:Nat->Rat)(Y:Nat->Nat->Rat):∀n,b (λj=>rs n λk=>a k*Y k j)=rs n λk=>a k*b (Y k)
 |0=>h.zero
 |n+1=>by
  have:=h (λj=>rs n λk=>a k*Y k j) (Y n) (a n);simp only[rs];rw[this,Lin.sum h a Y n]
theorem Md(n:Nat)(S:Mat)(c:Nat->Nat):Lin (F n S c):=λx y l=>qy8 n S c x y l
def Wh(x:Rat):Prop:=∃z:Int,x=(z:Rat)
theorem Wh.mul(h:Wh a)(k:Wh b):Wh (a*b):=sQ h k
theorem Wh.neg(h:Wh a):Wh (-a):=by let⟨z,rfl⟩:=h;exists -z,by rw[Rat.intCast_neg]
theorem Wh.sub(h:Wh a)(k:Wh b):Wh (a - b):=by let⟨x,rfl⟩:=h;let⟨y,rfl⟩:=k;exists x - y,by rw[Rat.intCast_sub]
theorem Wh.one:Wh 1:=⟨1,⋯⟩
theorem Wh.nil:Wh 0:=⟨0,⋯⟩
structure Bar(m:Nat)(A E:Mat)(r col:Nat)(d:Rat)(c:Nat->Nat):Prop where
 dne:d≠0
 rm:r<=m
 rc:r<=col
 clt:∀j,j < r->c j < col
 cinj:∀i j,i < r->j < r->c i=c j->i=j
 wA:∀i j,Wh (A i j)
 wE:∀i j,i < m->Wh (E i j)
 i2:∀k j,k < r->j < r->E k (c j)=if j=k then d else 0
 i3:∀i x,r<=i->i < m->x < col->E i x=0
 i4:∀i x,i < m->d*A i x=(rs r λk=>A i (c k)*E k x)+if i < r then 0 else E i x
 i5:det r (λi j=>A i (c j))=d
 i6:∀Φ,Lin Φ->(∀s,s < r->Φ (A s)=0)->∀k,k < r->Φ (E k)=0
 full:r=col->∀j,j < r->c j=j
theorem Bar.start(wA:∀i j,Wh (A i j)):Bar m A A 0 0 1 id where
 dne:=by grind
 rm:=by lia
 rc:=by lia
 clt:=λj h=>absurd h ()
 cinj:=λi j h=>absurd h ()
 wA:=wA
 wE:=λi j _=>wA i j
 i2:=λk j h=>absurd h ()
 i3:=λi x _ _ h=>absurd h ()
 i4:=λi x _=>by simp only[rs];rw[if_neg ()];grind
 i5:=rfl
 i6:=λa _ _ k h=>absurd h ()
 full:=λ_ j h=>absurd h ()
section
variable {m:Nat} {A E:Mat} {r col:Nat} {d:Rat} {c:Nat->Nat}
theorem Bar.skip(h:Bar m A E r col d c)(f:∀i,r<=i->i < m->E i col=0):Bar m A E r (col+1) d c:=
 { h with
  rc:=by have:=h.rc;lia
  clt:=λj a=>by have:=h.clt j a;lia
  i3:=λi x hi hm b=>by
   by_cases e:x=col
   .rw[e];exact f i hi hm
   .exact h.i3 i x hi hm ()
  full:=λe=>by have:=h.rc;lia }
def sw(p r i:Nat):Nat:=if i=r then p else if i=p then r else i
theorem zN(hp:r<=p)(hi:i < r):sw p r i=i:=by unfold sw;rw[if_neg (),if_neg ()]
theorem qg2(hp:r<=p)(hi:r<=i):r<=sw p r i:=by unfold sw;split;exact hp;split<;>lia
theorem Ec(hp:p < m)(a:r < m)(hi:i < m):sw p r i < m:=by unfold sw;split;exact hp;split<;>lia
theorem Td(p r i:Nat):sw p r (sw p r i)=i:=by
 unfold sw
 by_cases h1:i=r
 .rw[if_pos h1]
  by_cases h2:p=r
  .rw[if_pos h2];lia
  .rw[if_neg h2,if_pos rfl];exact h1.symm
 .rw[if_neg h1]
  by_cases h2:i=p
  .rw[if_pos h2,if_pos rfl];exact h2.symm
  .rw[if_neg h2,if_neg h1,if_neg h2]
theorem Bar.swap(h:Bar m A E r col d c)(hp:r<=p)(n:p < m):Bar m (λi=>A (sw p r i)) (λi=>E (sw p r i)) r col d c:=
 { h with
  wA:=λi j=>h.wA _ j
  wE:=λi j hi=>h.wE _ j (Ec n () hi)
  i2:=λk j a f=>by
   show E (sw p r k) (c j)=_;rw[zN hp a];exact h.i2 k j a f
  i3:=λi x hi hm g=>h.i3 _ x (qg2 hp hi) (Ec n () hm) g
  i4:=λi x hm=>by
   let e:(rs r λk=>A (sw p r i) (c k)*E (sw p r k) x)=rs r λk=>A (sw p r i) (c k)*E k x:=aX λk a=>by rw[zN hp a]
   show d*A (sw p r i) x=(rs r λk=>A (sw p r i) (c k)*E (sw p r k) x)+_;rw[e,h.i4 _ x (Ec n () hm)];congr 1
   by_cases hi:i < r
   .rw[zN hp hi,if_pos hi]
   .have:=qg2 hp (show r<=i by lia);rw[if_neg (),if_neg hi]
  i5:=by
   rw[<- h.i5];exact cX λi j hi _=>by show A (sw p r i) (c j)=_;rw[zN hp hi]
  i6:=λo l hs k a=>by
   show o (E (sw p r k))=0;rw[zN hp a];exact h.i6 o l (λs b=>by have:=hs s b;rwa [zN hp b] at this) k a }
def clr(E:Mat)(r col:Nat)(d:Rat):Mat:=λk x=>if k=r then E r x else (E r col*E k x - E k col*E r x) / d
def c1(c:Nat->Nat)(r col:Nat):Nat->Nat:=λj=>if j=r then col else c j
theorem jT(c:Nat->Nat)(h:j < r):c1 c r col j=c j:=by unfold c1;rw[if_neg ()]
theorem pU(c:Nat->Nat)(r col:Nat):c1 c r col r=col:=by unfold c1;rw[if_pos rfl]
theorem Cw(E:Mat)(r col:Nat)(d:Rat):clr E r col d r=E r:=by funext x;unfold clr;rw[if_pos rfl]
theorem oQ(E:Mat)(h:k≠r)(x:Nat):clr E r col d k x=(E r col*E k x - E k col*E r x) / d:=by unfold clr;rw[if_neg h]
theorem Bar.j2(h:Bar m A E r col d c)(l:r < m):∀k j,k < r+1->j < r+1->clr E r col d k (c1 c r col j)=if j=k then E r col else 0:=λk j f g=>by
 let i:=h.dne
 by_cases b:k=r
 .subst b;rw[Cw]
  by_cases a:j=k
  .rw[if_pos a,a,pU]
  .rw[if_neg a,jT c ()];exact h.i3 k _ (Nat.le_refl _) l (h.clt j ())
 .rw[oQ E b]
  by_cases a:j=r
  .subst a;rw[pU,if_neg ()];grind
  .rw[jT c (),h.i2 k j () (),h.i3 r (c j) (Nat.le_refl _) l (h.clt j ())]
   by_cases e:j=k
   .rw[if_pos e,if_pos e];grind
   .rw[if_neg e,if_neg e];grind
theorem Bar.j4(h:Bar m A E r col d c)(o:r < m):∀i x,i < m->E r col*A i x=(rs (r+1) λk=>A i (c1 c r col k)*clr E r col d k x)+if i < r+1 then 0 else clr E r col d i x:=λi x hi=>by
 let n:=h.dne;let q:=h.i4 i x hi;let a:=h.i4 i col hi;show _=(rs r λk=>A i (c1 c r col k)*clr E r col d k x)+A i (c1 c r col r)*clr E r col d r x+_;rw[pU,Cw];let e:(rs r λk=>A i (c1 c r col k)*clr E r col d k x)=(E r col / d)*(rs r λk=>A i (c k)*E k x)+(-(E r x / d))*rs r λk=>A i (c k)*E k col:=by
  rw[<- gK,<- gK,<- fE];exact aX λk g=>by rw[jT c g,oQ E ()];grind
 rw[e];generalize (rs r λk=>A i (c k)*E k x)=b at q ⊢;generalize (rs r λk=>A i (c k)*E k col)=f at a ⊢
 by_cases h1:i < r
 .rw[if_pos h1] at q a;rw[if_pos ()];have:b=d*A i x:=by grind
  have:f=d*A i col:=by grind
  subst b f;grind
 .rw[if_neg h1] at q a;let j:b=d*A i x - E i x:=by grind
  let l:f=d*A i col - E i col:=by grind
  subst j l
  by_cases h2:i=r
  .subst h2;rw[if_pos ()];grind
  .rw[if_neg (),oQ E h2];grind
theorem Bar.j6(h:Bar m A E r col d c)(n:r < m):∀l,Lin l->(∀s,s < r+1->l (A s)=0)->∀k,k < r+1->l (clr E r col d k)=0:=λl a hs k b=>by
 let j:=h.dne;let z:=h.i6 l a λs i=>hs s ();let f:l (E r)=0:=by
  let e:E r=λx=>(λx=>d*A r x) x+(-1)*(λx=>rs r λk=>A r (c k)*E k x) x:=by
   funext x
   have:=h.i4 r x n;rw[if_neg ()] at this;show E r x=d*A r x+(-1)*(rs r λk=>A r (c k)*E k x)
   grind
  rw[e,a,a.mul,a.sum,hs r ()];have:(rs r λk=>A r (c k)*l (E k))=rs r λ_=>0:=aX λk b=>by rw[z k b];grind
  rw[this,eV];grind
 by_cases g:k=r
 .rw[g,Cw];exact f
 .let e:clr E r col d k=λx=>(λx=>(E r col / d)*E k x) x+(-(E k col / d))*E r x:=by
   funext x
   rw[oQ E g];show _=(E r col / d)*E k x+(-(E k col / d))*E r x;grind
  rw[e,a,a.mul,z k (),f];grind
theorem Bar.j5(h:Bar m A E r col d c)(n:r < m):det (r+1) (λi j=>A i (c1 c r col j))=E r col:=by
 let l:=h.dne;let b:det (r+1) (λi j=>A i (c1 c r col j))=F r A (c1 c r col) (A r):=by
  unfold F;exact cX λi j hi _=>by
   unfold Eb
   by_cases e:i=r
   .rw[if_pos e,e]
   .rw[if_neg e]
 have hΦ:=Md r A (c1 c r col);let z:=h.i6 _ hΦ λs hs=>Ml r A (c1 c r col) hs;let f:A r=λx=>(λx=>(1 / d)*E r x) x+(1 / d)*(λx=>rs r λk=>A r (c k)*E k x) x:=by
  funext x
  have:=h.i4 r x n;rw[if_neg ()] at this;show A r x=(1 / d)*E r x+(1 / d)*(rs r λk=>A r (c k)*E k x)
  grind
 let zs:(rs r λk=>A r (c k)*F r A (c1 c r col) (E k))=0:=by
  have:(rs r λk=>A r (c k)*F r A (c1 c r col) (E k))=rs r λ_=>0:=aX λk g=>by rw[z k g];grind
  rw[this,eV]
 let fb:=Ck r A (c1 c r col) (E r) λj a=>by rw[jT c a];exact h.i3 r _ (Nat.le_refl _) n (h.clt j a)
 let dd:(det r λi j=>A i (c1 c r col j))=d:=by rw[<- h.i5];exact cX λi j _ a=>by show A i (c1 c r col j)=_;rw[jT c a]
 rw[pU,dd] at fb;rw[b,f,hΦ,hΦ.mul,hΦ.sum,zs,fb];grind
theorem Bar.wV(h:Bar m A E r col d c)(w:r < m)(B:E r col≠0):∀i x,i < m->Wh (clr E r col d i x):=by
 let j2:=h.j2 w;let j4:=h.j4 w;let j5:=h.j5 w;let j6:=h.j6 w;let cin:∀i j,i < r+1->j < r+1->c1 c r col i=c1 c r col j->i=j:=λi j hi g e=>by
  by_cases a:i=r
  .by_cases b:j=r
   .lia
   .rw[a,pU,jT c ()] at e;have:=h.clt j ();lia
  .by_cases b:j=r
   .rw[b,pU,jT c ()] at e;have:=h.clt i ();lia
   .rw[jT c (),jT c ()] at e;exact h.cinj i j () () e
 let top:∀k x,k < r+1->Wh (clr E r col d k x):=λk x f=>by
  by_cases l:∃j,j < r+1/\x=c1 c r col j
  .let⟨j,g,rfl⟩:=l;rw[j2 k j f g];split
   .exact h.wE r col w
   .exact Wh.nil
  .let -zeta c2:Nat->Nat:=λj=>if j=r+1 then x else c1 c r col j
   let -zeta u:Nat->Rat:=λj=>if j=c1 c r col k then 1 else 0
   have hΦ:=Md (r+1) A c2;let z:=j6 _ hΦ (λs hs=>Ml (r+1) A c2 hs) k f;let o:u=λy=>(λy=>u y+(-(1 / E r col))*clr E r col d k y) y+(1 / E r col)*clr E r col d k y:=by
    funext y
    show u y=u y+(-(1 / E r col))*clr E r col d k y+(1 / E r col)*clr E r col d k y;grind
   let fb:=Ck (r+1) A c2 (λy=>u y+(-(1 / E r col))*clr E r col d k y) λj g=>by
    let p:c2 j=c1 c r col j:=by show (if j=r+1 then x else c1 c r col j)=_;rw[if_neg ()]
    rw[p];show u (c1 c r col j)+(-(1 / E r col))*clr E r col d k (c1 c r col j)=0;rw[j2 k j f g];show (if c1 c r col j=c1 c r col k then (1:Rat) else 0)+_=0
    by_cases e:j=k
    .rw[if_pos e,if_pos (by rw[e])];grind
    .rw[if_neg e,if_neg (λq=>e (cin j k g f q))];grind
   let dd:(det (r+1) λi j=>A i (c2 j))=E r col:=by
    rw[<- j5];exact cX λi j _ g=>by show A i (if j=r+1 then x else c1 c r col j)=_;rw[if_neg ()]
   let t:u x=0:=by show (if x=c1 c r col k then (1:Rat) else 0)=0;rw[if_neg (λq=>l ⟨k,f,q⟩)]
   let v:c2 (r+1)=x:=by show (if r+1=r+1 then x else _)=x;rw[if_pos rfl]
   rw[dd,v] at fb;let val:F (r+1) A c2 u=- clr E r col d k x:=by
    rw[o,hΦ,z,fb];show (u x+(-(1 / E r col))*clr E r col d k x)*E r col+_=_;rw[t];grind
   let n:Wh (F (r+1) A c2 u):=Yx h.wA λj=>by
    show Wh (if j=c1 c r col k then (1:Rat) else 0);split
    .exact Wh.one
    .exact Wh.nil
   rw[val] at n;have:=n.neg
   rwa [show - - clr E r col d k x=clr E r col d k x by grind] at this
 intro i x hi
 by_cases h1:i < r+1
 .exact top i x h1
 .let q:=j4 i x hi;rw[if_neg h1] at q;let e:clr E r col d i x=E r col*A i x - rs (r+1) λk=>A i (c1 c r col k)*clr E r col d k x:=by grind
  rw[e];exact Wh.sub (Wh.mul (h.wE r col w) (h.wA i x)) (Gn λk f=>Wh.mul (h.wA _ _) (top k x f))
theorem Bar.clear(h:Bar m A E r col d c)(k:r < m)(l:E r col≠0):Bar m A (clr E r col d) (r+1) (col+1) (E r col) (c1 c r col) where
 dne:=l
 rm:=k
 rc:=by have:=h.rc;lia
 clt:=λj f=>by
  by_cases e:j=r
  .rw[e,pU];lia
  .rw[jT c ()];have:=h.clt j ();lia
 cinj:=λi j hi f e=>by
  by_cases a:i=r
  .by_cases b:j=r
   .lia
   .rw[a,pU,jT c ()] at e;have:=h.clt j ();lia
  .by_cases b:j=r
   .rw[b,pU,jT c ()] at e;have:=h.clt i ();lia
   .rw[jT c (),jT c ()] at e;exact h.cinj i j () () e
 wA:=h.wA
 wE:=λi j hi=>h.wV k l i j hi
 i2:=h.j2 k
 i3:=λi x hi hm g=>by
  rw[oQ E ()]
  by_cases e:x=col
  .rw[e];grind
  .rw[h.i3 i x () hm (),h.i3 r x (Nat.le_refl _) k ()];grind
 i4:=h.j4 k
 i5:=h.j5 k
 i6:=h.j6 k
 full:=λe j f=>by
  by_cases a:j=r
  .rw[a,pU];lia
  .rw[jT c ()];exact h.full () j ()
end
def ent(R:List (List Int))(i x:Nat):Int:=(R.getD i []).getD x 0
def at2(R:List (List Int)):Mat:=λi x=>((ent R i x:Int):Rat)
theorem Bar.congr(h:Bar m A E r col d c)(e:∀i,i < m->E i=E' i):Bar m A E' r col d c:=
 { h with
  wE:=λi j hi=>by rw[<- e i hi];exact h.wE i j hi
  i2:=λk j a b=>by rw[<- e k (by have:=h.rm;lia)];exact h.i2 k j a b
  i3:=λi x hi hm f=>by rw[<- e i hm];exact h.i3 i x hi hm f
  i4:=λi x hm=>by
   rw[h.i4 i x hm];congr 1
   .exact aX λk a=>by rw[e k (by have:=h.rm;lia)]
   .rw[e i hm]
  i6:=λl g hs k a=>by rw[<- e k (by have:=h.rm;lia)];exact h.i6 l g hs k a }
theorem Sc(n:Nat):∀(t p r:Nat)(A:Mat),p=r+t+1->p < n->det n (λi=>A (sw p r i))=- det n A
 |0,p,r,A,h,hp=>by
  subst h;rw[<- nH n r A ()];exact cX λi j _ _=>by
   show A (sw (r+0+1) r i) j=cL r A i j;unfold sw cL
   by_cases h1:i=r
   .rw[if_pos h1,if_pos h1]
   .rw[if_neg h1,if_neg h1]
    by_cases h2:i=r+1
    .rw[if_pos (),if_pos h2]
    .rw[if_neg (),if_neg h2]
 |t+1,p,r,A,h,hp=>by
  let d:=Sc n t (r+t+1) r (cL (r+t+1) A) rfl ();let f:=nH n (r+t+1) A ();let g:=nH n (r+t+1) (λi=>cL (r+t+1) A (sw (r+t+1) r i)) ();let e:det n (λi=>A (sw p r i))=det n (cL (r+t+1) (λi=>cL (r+t+1) A (sw (r+t+1) r i))):=cX λi j _ _=>by
   subst h;show A (sw (r+(t+1)+1) r i) j=cL (r+t+1) (λi=>cL (r+t+1) A (sw (r+t+1) r i)) i j
   by_cases h1:i=r
   .let b:sw (r+(t+1)+1) r i=r+t+1+1:=by unfold sw;rw[if_pos h1];lia
    let a:sw (r+t+1) r i=r+t+1:=by unfold sw;rw[if_pos h1]
    rw[b];unfold cL;rw[if_neg (),if_neg ()];dsimp only;rw[a,if_pos rfl]
   .by_cases h2:i=r+t+1+1
    .let b:sw (r+(t+1)+1) r i=r:=by unfold sw;rw[if_neg h1,if_pos ()]
     let a:sw (r+t+1) r (r+t+1)=r:=by unfold sw;rw[if_neg (),if_pos rfl]
     rw[b];unfold cL;rw[if_neg (),if_pos h2];dsimp only;rw[a,if_neg (),if_neg ()]
    .let b:sw (r+(t+1)+1) r i=i:=by unfold sw;rw[if_neg h1,if_neg ()]
     rw[b]
     by_cases c:i=r+t+1
     .let a:sw (r+t+1) r (r+t+1+1)=r+t+1+1:=by unfold sw;rw[if_neg (),if_neg ()]
      unfold cL;rw[if_pos c];dsimp only;rw[a,if_neg (),if_pos rfl,c]
     .let a:sw (r+t+1) r i=i:=by unfold sw;rw[if_neg h1,if_neg c]
      unfold cL;rw[if_neg c,if_neg h2];dsimp only;rw[a,if_neg c,if_neg h2]
  rw[e,g,d,f];grind
def gJ(R:List (List Int))(p r:Nat):List (List Int):=(R.set p (R.getD r [])).set r (R.getD p [])
theorem qh6(R:List (List Int))(p r:Nat):(gJ R p r).length=R.length:=by unfold gJ;simp
theorem Ca(hp:p < R.length)(a:r < R.length)(i:Nat):(gJ R p r).getD i []=R.getD (sw p r i) []:=by
 unfold gJ sw;rw[getD_eq_getElem?_getD]
 by_cases h1:i=r
 .rw[if_pos h1,h1,getElem?_set_self (by simpa using a)];rfl
 .rw[if_neg h1,getElem?_set_ne (Ne.symm h1)]
  by_cases h2:i=p
  .rw[if_pos h2,h2,getElem?_set_self hp];rfl
  .rw[if_neg h2,getElem?_set_ne (Ne.symm h2),getD_eq_getElem?_getD]
def iL(upper row:List Int)(col:Nat)(dv:Int):List Int:=zipWith (λhere above=>Int.fdiv (upper.getD col 0*here - row.getD col 0*above) dv) row upper
def cN(R:List (List Int))(r col:Nat)(dv:Int):List (List Int):=R.mapIdx λi row=>if i=r then row else iL (R.getD r []) row col dv
theorem Nq(R:List (List Int))(r col:Nat)(a:Int):(cN R r col a).length=R.length:=by unfold cN;simp
theorem rG(hi:i < R.length)(r col:Nat)(a:Int):(cN R r col a).getD i []=if i=r then R.getD i [] else iL (R.getD r []) (R.getD i []) col a:=by
 unfold cN;rw[getD_eq_getElem?_getD,getElem?_mapIdx,getElem?_eq_getElem hi];have:R.getD i []=R[i]:=by rw[getD_eq_getElem?_getD,getElem?_eq_getElem hi];rfl
 rw[this];rfl
structure SI(m w:Nat)(A0:Mat)(R:List (List Int))(r col:Nat)(d sg:Int):Prop where
 len:R.length=m
 wid:∀i,i < m->(R.getD i []).length=w
 bar:∃A c,Bar m A (at2 R) r col (d:Rat) c/\det m A=(sg:Rat)*det m A0
 one:sg=1\/sg=-1
theorem SI.start(h:R.length=m)(hw:∀i,i < m->(R.getD i []).length=w):SI m w (at2 R) R 0 0 1 1:=
 ⟨h,hw,⟨at2 R,id,by
  have:=Bar.start (m:=m) (A:=at2 R) λi j=>⟨9⟩
  simpa using this,⋯⟩,.inl rfl⟩
theorem SI.skip(h:SI m w A0 R r col d sg)(a:∀i,r<=i->i < m->ent R i col=0):SI m w A0 R r (col+1) d sg:=by
 let⟨A,c,B,e⟩:=h.bar;exists h.len,h.wid,⟨A,c,B.skip λi h1 h2=>by unfold at2;rw[a i h1 h2];simp,e⟩,h.one
theorem SI.swap(h:SI m w A0 R r col d sg)(hp:r < p)(hm:p < m):SI m w A0 (gJ R p r) r col d (-sg):=by
 let⟨A,c,B,e⟩:=h.bar;let b:=h.len;let a:=λi=>Ca (R:=R) (p:=p) (r:=r) () () i;exists (qh6 R p r).trans b,λi hi=>?_,⟨_,c,(B.swap () hm).congr λi hi=>?_,7⟩,7
 .rw[a i];exact h.wid _ (Ec hm () hi)
 .funext x
  show (((R.getD (sw p r i) []).getD x 0:Int):Rat)=((((gJ R p r).getD i []).getD x 0:Int):Rat)
  rw[a i]
 .rw[Sc m (p - r - 1) p r A () hm,e,Rat.intCast_neg];grind
 .rcases h.one with z | z
  .right;lia
  .left;lia
theorem oA{l:List Int}(h:x < l.length):l[x]?=some (l.getD x 0):=by rw[getD_eq_getElem?_getD,getElem?_eq_getElem h];rfl
theorem yT{l:List Int}(h:l.length<=x):l.getD x 0=0:=by rw[getD_eq_getElem?_getD,getElem?_eq_none h];rfl
theorem Mw(h:SI m w A0 R r col d sg)(B:Bar m A (at2 R) r col (d:Rat) c)(s:r < m)(u:col < w)(t:ent R r col≠0)(hi:i < m)(q:i≠r)(x:Nat):
  ∃z:Int,(iL (R.getD r []) (R.getD i []) col d).getD x 0=z/\(z:Rat)=clr (at2 R) r col (d:Rat) i x/\(x < w->ent R r col*ent R i x - ent R i col*ent R r x=d*z):=by
 let dn:d≠0:=λz=>B.dne (by rw[z];simp);let p:=B.dne;let b:at2 R r col≠0:=λz=>t (Rat.intCast_inj.mp (by unfold at2 at z;simpa using z));let wi:=h.wid i hi;let f:=h.wid r s
 by_cases g:x < w
 .let⟨z,a⟩:=B.wV s b i x hi;let e:ent R r col*ent R i x - ent R i col*ent R r x=d*z:=by
   rw[oQ _ q] at a;have:((ent R r col*ent R i x - ent R i col*ent R r x:Int):Rat)=((d*z:Int):Rat):=by
    rw[Rat.intCast_sub,Rat.intCast_mul,Rat.intCast_mul,Rat.intCast_mul,<- a];show at2 R r col*at2 R i x - at2 R i col*at2 R r x=_;grind
   exact Rat.intCast_inj.mp this
  exists z,7,a.symm,λ_=>e;unfold iL;let j:(R.getD i [])[x]?=some ((R.getD i []).getD x 0):=oA ();let k:(R.getD r [])[x]?=some ((R.getD r []).getD x 0):=oA ();rw[getD_eq_getElem?_getD (l:=zipWith _ _ _),getElem?_zipWith,j,k];exact gQ dn e
 .exists 0,7,7,λh=>absurd h g
  .unfold iL;exact yT (by rw[length_zipWith,wi,f];lia)
  .rw[oQ _ q];let n:at2 R i x=0:=by unfold at2 ent;rw[yT ()];simp
   let o:at2 R r x=0:=by unfold at2 ent;rw[yT ()];simp
   rw[n,o];simp;grind
theorem SI.clear(h:SI m w A0 R r col d sg)(g:r < m)(k:col < w)(j:ent R r col≠0):SI m w A0 (cN R r col d) (r+1) (col+1) (ent R r col) sg:=by
 let⟨A,c,B,e⟩:=h.bar;let f:=h.len;let b:at2 R r col≠0:=λz=>j (Rat.intCast_inj.mp (by unfold at2 at z;simpa using z));exists (Nq R r col d).trans f,λi hi=>?_,⟨A,_,(B.clear g b).congr λi hi=>?_,e⟩,h.one
 .rw[rG ()];split
  .exact h.wid i hi
  .unfold iL;rw[length_zipWith,h.wid i hi,h.wid r g,Nat.min_self]
 .funext x
  show clr (at2 R) r col (d:Rat) i x=((((cN R r col d).getD i []).getD x 0:Int):Rat)
  rw[rG ()]
  by_cases a:i=r
  .rw[if_pos a,a,Cw];rfl
  .rw[if_neg a];let⟨z,h1,h2,_⟩:=Mw h B g k j hi a x;rw[h1,h2]
def BdR(n:Nat)(R:List (List Int)):Prop:=∀i x,B n (ent R i x)
theorem SI.whole(h:SI m w A0 R m m d sg):det m A0=(sg:Rat)*(d:Rat):=by
 let⟨A,c,B,e⟩:=h.bar;let f:=B.full rfl;let a:=B.i5;have:det m (λi j=>A i (c j))=det m A:=cX λi j _ b=>by show A i (c j)=A i j;rw[f j b]
 rw[this,e] at a;rcases h.one with z | z
 .rw[z] at a ⊢;simp at a ⊢;exact a
 .rw[z,Rat.intCast_neg] at a ⊢;simp at a ⊢;grind
theorem SI.lame(h:SI m w A0 R r m d sg)(p:r < m):det m A0=0:=by
 let⟨A,c,B,e⟩:=h.bar;obtain⟨n,rfl⟩:∃n,m=n+1:=⟨m - 1,6⟩
 let o:=B.dne;let a:det (n+1) A=F n A id (A n):=by
  unfold F;exact cX λi j hi _=>by
   unfold Eb
   by_cases z:i=n
   .rw[if_pos z,z];rfl
   .rw[if_neg z];rfl
 have hΦ:=Md n A id;let z:=B.i6 _ hΦ λs hs=>Ml n A id ();let b:A n=λx=>(λx=>(1 / (d:Rat))*at2 R n x) x+(1 / (d:Rat))*(λx=>rs r λk=>A n (c k)*at2 R k x) x:=by
  funext x
  have:=B.i4 n x ();rw[if_neg ()] at this;show A n x=(1 / (d:Rat))*at2 R n x+(1 / (d:Rat))*(rs r λk=>A n (c k)*at2 R k x)
  grind
 let zs:(rs r λk=>A n (c k)*F n A id (at2 R k))=0:=by
  have:(rs r λk=>A n (c k)*F n A id (at2 R k))=rs r λ_=>0:=aX λk f=>by rw[z k f];grind
  rw[this,eV]
 let g:F n A id (at2 R n)=0:=by
  rw[Pf];have:(rs (n+1) λj=>sgn (n+j)*at2 R n (id j)*det n λi k=>A i (id (Mq.skip j k)))=rs (n+1) λ_=>0:=aX λj l=>by
   rw[show at2 R n (id j)=0 from B.i3 n j () () l];grind
  rw[this,eV]
 have:det (n+1) A=0:=by
  rw[a,b,hΦ,hΦ.mul,hΦ.sum,zs,g];grind
 rw[this] at e;rcases h.one with q | q
 .rw[q] at e;simp at e;exact e.symm
 .rw[q,Rat.intCast_neg] at e;simp at e;grind
def Oy:Nat->(Nat->Rat)->Rat
 |0,_=>1
 |n+1,b=>Oy n b*b n
theorem uJ:∀(n:Nat)(b:Nat->Rat)(Q:Mat),det n (λi j=>b i*Q i j)=Oy n b*det n Q
 |0,_,_=>by simp[det,Oy]
 |n+1,b,Q=>by
  rw[gN,gN,<- gK];refine aX λj _=>?_;have:=uJ n b (λi k=>Q i (Mq.skip j k));show sgn (n+j)*(b n*Q n j)*det n (λi k=>b i*Q i (Mq.skip j k))=Oy n b*b n*_;rw[this];grind
end Mq
open Mq (BdR Ca Mat Oy SI cN cX ent gJ iL oA rG uJ xO)
namespace Shp
open PySem L2
inductive Imx(D:Addr)(H:Hp):vk->List (List Int)->Prop where
 |nil:Imx D H [] []
 |cons {u:Addr} {r:List Int} {us:vk} {R:List (List Int)} (ne:u≠D) (h:H u=some (.lst (r.map V.int))) (q:Imx D H us R):Imx D H (.ref u :: us) (r :: R)
theorem Imx.same(e:aS H H'):∀{xs:vk}{R:List (List Int)},Imx D H xs R->Imx D H' xs R
 |_,_,.nil=>.nil
 |_,_,.cons n h q=>.cons n (e _ _ h) (q.same e)
theorem Imx.upd:∀{xs:vk}{R:List (List Int)},Imx D H xs R->Imx D (L2.upd H D o) xs R
 |_,_,.nil=>.nil
 |_,_,.cons n h q=>.cons n (by rw[aQ n];exact h) q.upd
theorem Imx.length:∀{xs:vk}{R:List (List Int)},Imx D H xs R->xs.length=R.length
 |_,_,.nil=>rfl
 |_,_,.cons _ _ q=>by rw[length_cons,length_cons,q.length]
theorem Imx.get:∀{xs:vk}{R:List (List Int)}{i:Nat}{x:V},Imx D H xs R->xs[i]?=some x->∃u r,x=.ref u/\R[i]?=some r/\u≠D/\H u=some (.lst (r.map V.int))
 |_,_,0,_,.cons n h q,e=>by simp at e;exists _,_,e.symm,8,n,h
 |_,_,i+1,_,.cons n h q,e=>by simp at e;exact q.get e
theorem Imx.at(h:Imx D H xs R)(hi:i < R.length):∃u,xs[i]?=some (.ref u)/\u≠D/\H u=some (.lst ((R.getD i []).map V.int)):=by
 let a:i < xs.length:=by rw[h.length];exact hi
 let⟨u,r,b,c,d,e4⟩:=h.get (getElem?_eq_getElem a);exists u,by rw[getElem?_eq_getElem a,b],d,7;rw[getD_eq_getElem?_getD,c];exact e4
theorem Imx.app:∀{xs ys:vk}{R S:List (List Int)},Imx D H xs R->Imx D H ys S->Imx D H (xs++ys) (R++S)
 |_,_,_,_,.nil,k=>k
 |_,_,_,_,.cons n h q,k=>.cons n h (q.app k)
theorem Imx.set(a:u≠D)(b:H u=some (.lst (r.map V.int))):∀{xs:vk}{R:List (List Int)}(i:Nat),Imx D H xs R->Imx D H (xs.set i (.ref u)) (R.set i r)
 |_,_,_,.nil=>by simp;exact .nil
 |_,_,0,.cons n h q=>.cons a b q
 |_,_,i+1,.cons n h q=>.cons n h (q.set a b i)
theorem Imx.other(a:H D'=none):∀{xs:vk}{R:List (List Int)},Imx D H xs R->Imx D' H xs R
 |_,_,.nil=>.nil
 |_,_,.cons n h q=>.cons (λz=>by rw[z,a] at h;cases h) h (q.other a)
theorem mB{l:List Int}(h:i < l.length):(l.map V.int)[i]?=some (.int (l.getD i 0)):=by
 rw[getElem?_map,oA h];rfl
inductive Tw(K:Frag)(vs:vk)(H:Hp)(Q:VK)(E:XK):Prop where
 |mk (a:Addr) (xs:vk) (ps:List Mq.Q2) (n:Nat):vs=[.ref a]->SqL K H a xs->Fqs K H xs ps->Mq.Pos ps->(∀p∈ps,Mq.Bd n p)->ps.length<=100->10+n+n*ps.length<=8000->(∀t l H',aS H H'->H l=none->SqT K H' t [.ref l,.int (fB ps)]->H' l=some (.lst ((iw ps).map V.int))->Q (.ref t) H')->Tw K vs H Q E
inductive Se(K:Frag)(vs:vk)(H:Hp)(Q:VK)(E:XK):Prop where
 |mk (l D:Addr) (zs:vk) (R:List (List Int)) (r c m w:Nat):vs=[.ref l,.int (r:Int),.int (c:Int)]->SqL K H l zs->Imx D H zs R->R.length=m->(∀i,i < m->(R.getD i []).length=w)->c < w->r<=m->m<=100->(∀p,r<=p->p < m->ent R p c≠0->Q (.int (p:Int)) H)->((∀i,r<=i->i < m->ent R i c=0)->Q .non H)->Se K vs H Q E
inductive uH(K:Frag)(vs:vk)(H:Hp)(Q:VK)(E:XK):Prop where
 |mk (u v:Addr) (row upper:List Int) (c n:Nat) (dv:Int):vs=[.ref u,.ref v,.int (c:Int),.int dv]->SqL K H u (row.map V.int)->SqL K H v (upper.map V.int)->row.length=upper.length->row.length<=100->c < row.length->dv≠0->(∀i,Mq.B n (row.getD i 0))->(∀i,Mq.B n (upper.getD i 0))->Mq.B n dv->n<=9000->(∀l H',aS H H'->H l=none->H' l=some (.lst ((iL upper row c dv).map V.int))->Q (.ref l) H')->uH K vs H Q E
inductive tD(K:Frag)(vs:vk)(H:Hp)(Q:VK)(E:XK):Prop where
 |mk (l D:Addr) (zs:vk) (R:List (List Int)) (r c m w n:Nat) (dv:Int):vs=[.ref l,.int (r:Int),.int (c:Int),.int dv]->SqL K H l zs->Imx D H zs R->R.length=m->(∀i,i < m->(R.getD i []).length=w)->c < w->w<=100->r < m->m<=100->dv≠0->BdR n R->Mq.B n dv->n<=9000->(∀l' zs' H',aS H H'->H l'=none->H' l'=some (.lst zs')->Imx l' H' zs' (cN R r c dv)->Q (.ref l') H')->tD K vs H Q E
def Sq(l:Addr)(rank:Nat)(pivot sign:Int):HO:=.dK (kE [] [(.inr "rows",.ref l),(.inr "rank",.int (rank:Int)),(.inr "pivot",.int pivot),(.inr "sign",.int sign)])
def wgt(X:List (List Mq.Q2)):Rat:=Mq.det X.length λi j=>Mq.val ((X.getD i []).getD j Mq.z0)
theorem Hj(h:H d=some (Sq l rank pivot sign)):kY H d (.str "rows") (some (.ref l))/\kY H d (.str "rank") (some (.int (rank:Int)))/\kY H d (.str "pivot") (some (.int pivot))/\kY H d (.str "sign") (some (.int sign)):=by
 exists 7,7,7,7
 .exact kY.k (k:=(Sum.inr "rows":Key)) h
 .exact kY.k (k:=(Sum.inr "rank":Key)) h
 .exact kY.k (k:=(Sum.inr "pivot":Key)) h
 .exact kY.k (k:=(Sum.inr "sign":Key)) h
def uW(X:List (List Mq.Q2)):Int:=X.foldl (λb row=>b*fB row) 1
theorem zL{X:List (List Mq.Q2)}(h:X[i]?=some row):uW (X.take (i+1))=uW (X.take i)*fB row:=by
 unfold uW;rw[take_add_one,h,foldl_append];rfl
theorem sS(X:List (List Mq.Q2)):∀i,i<=X.length->((uW (X.take i):Int):Rat)=Oy i λk=>((fB (X.getD k []):Int):Rat)
 |0,_=>by simp[uW,Oy]
 |i+1,h=>by
  let e:X[i]?=some (X.getD i []):=by rw[getD_eq_getElem?_getD,getElem?_eq_getElem ()];rfl
  rw[zL e,Rat.intCast_mul,sS X i ()];rfl
theorem Eg(a:gM X):∀i,i<=X.length->1<=uW (X.take i)
 |0,_=>by show (1:Int)<=1;lia
 |i+1,h=>by
  let e:X[i]?=some (X.getD i []):=by rw[getD_eq_getElem?_getD,getElem?_eq_getElem ()];rfl
  rw[zL e];let h1:=Eg a i ();let h2:=vS (a _ (mem_of_getElem? e));have:=Int.mul_pos (show 0 < uW (X.take i) by lia) (show 0 < fB (X.getD i []) by lia);lia
theorem Ty(hp:Mq.Pos row)(e:j < row.length):(((iw row).getD j 0:Int):Rat)=((fB row:Int):Rat)*Mq.val (row.getD j Mq.z0):=by
 let b:row[j]?=some (row.getD j Mq.z0):=by rw[getD_eq_getElem?_getD,getElem?_eq_getElem e];rfl
 let a:row.getD j Mq.z0∈row:=mem_of_getElem? b;let⟨k,c⟩:=Hd hp _ a;let d:(iw row).getD j 0=Fe (fB row) (row.getD j Mq.z0):=by
  unfold iw;rw[getD_eq_getElem?_getD,getElem?_map,b];rfl
 rw[d,Mq.Wa (hp _ a) c];grind
theorem yW(row:List Mq.Q2):(iw row).length=row.length:=by unfold iw;simp
end Shp
namespace Mq
theorem oN(m a:Nat)(v:Rat)(h:a < m):(rs m λi=>if i=a then v else 0)=v:=by
 induction m with
 |zero=>lia
 |succ m ih=>
  simp only[rs]
  by_cases e:m=a
  .subst e;rw[if_pos rfl];have:(rs m λi=>if i=m then v else 0)=rs m λ_=>0:=aX λi hi=>by rw[if_neg ()]
   rw[this,eV];grind
  .rw[if_neg e,ih ()];grind
theorem qu4(m p r:Nat)(hp:p < m)(a:r < m)(F:Nat->Rat):(rs m λi=>F (sw p r i))=rs m F:=by
 by_cases e:p=r
 .subst e;exact aX λi _=>by
   congr 1;unfold sw
   by_cases h:i=p
   .rw[if_pos h,h]
   .rw[if_neg h,if_neg h]
 have:(rs m λi=>F (sw p r i))=rs m λi=>F i+((if i=r then F p - F r else 0)+(if i=p then F r - F p else 0)):=aX λi _=>by
  unfold sw
  by_cases h1:i=r
  .rw[if_pos h1,if_pos h1,if_neg (),h1];grind
  .rw[if_neg h1,if_neg h1]
   by_cases h2:i=p
   .rw[if_pos h2,if_pos h2,h2];grind
   .rw[if_neg h2,if_neg h2];grind
 rw[this,fE,fE,oN m r _ a,oN m p _ hp];grind
structure LI(m:Nat)(Aq:Mat)(R:List (List Int)):Prop where
 lin:∀i x,i < m->x < m->at2 R i x=rs m λk=>at2 R i (m+k)*Aq k x
 ind:∀lam:Nat->Rat,(∀j,j < m->(rs m λi=>lam i*at2 R i (m+j))=0)->∀i,i < m->lam i=0
theorem uB(hp:p < R.length)(a:r < R.length)(i x:Nat):at2 (gJ R p r) i x=at2 R (sw p r i) x:=by
 show ((((gJ R p r).getD i []).getD x 0:Int):Rat)=_;rw[Ca hp a];rfl
theorem LI.swap(h:LI m Aq R)(g:R.length=m)(hp:p < m)(f:r < m):LI m Aq (gJ R p r) where
 lin:=λi x hi b=>by
  rw[uB () (),h.lin _ x (Ec hp f hi) b];exact aX λk _=>by rw[uB () ()]
 ind:=λa c i hi=>by
  have:=h.ind (λi=>a (sw p r i)) (λj d=>by
   rw[<- c j d,<- qu4 m p r hp f];exact aX λi _=>by
    show a (sw p r (sw p r i))*_=_;rw[Td,uB () ()]) (sw p r i) (Ec hp f hi)
  let e:a (sw p r (sw p r i))=0:=this
  rwa [Td] at e
theorem vI(h:SI m w A0 R r col d sg)(f:r < m)(g:col < w)(j:ent R r col≠0)(hi:i < m)(x:Nat):
  at2 (cN R r col d) i x=if i=r then at2 R i x else (at2 R r col*at2 R i x - at2 R i col*at2 R r x) / (d:Rat):=by
 let⟨A,c,B,e⟩:=h.bar;let b:=h.len;show ((((cN R r col d).getD i []).getD x 0:Int):Rat)=_;rw[rG ()]
 by_cases a:i=r
 .rw[if_pos a,if_pos a];rfl
 .rw[if_neg a,if_neg a];let⟨z,h1,h2,_⟩:=Mw h B f g j hi a x;rw[h1,h2,oQ _ a]
theorem SI.dne(h:SI m w A0 R r col d sg):(d:Rat)≠0:=by
 let⟨A,c,B,e⟩:=h.bar;exact B.dne
theorem LI.clear(h:LI m Aq R)(s:SI m w A0 R r col d sg)(u:r < m)(y:col < w)(v:ent R r col≠0):LI m Aq (cN R r col d):=by
 let dn:=s.dne;let g:at2 R r col≠0:=λz=>v (Rat.intCast_inj.mp (by unfold at2 at z;simpa using z));let cl:=λ(i:Nat)(hi:i < m)(x:Nat)=>vI s u y v hi x;exists λi x hi c=>?_,λa l i hi=>?_
 .rw[cl i hi x]
  by_cases e:i=r
  .rw[if_pos e,h.lin i x hi c];exact aX λk _=>by rw[cl i hi,if_pos e]
  .rw[if_neg e,h.lin i x hi c,h.lin r x u c];have:(rs m λk=>at2 (cN R r col d) i (m+k)*Aq k x)=rs m λk=>(at2 R r col / (d:Rat))*(at2 R i (m+k)*Aq k x)+(-(at2 R i col / (d:Rat)))*(at2 R r (m+k)*Aq k x):=aX λk _=>by rw[cl i hi,if_neg e];grind
   rw[this,fE,gK,gK];grind
 .-- the factors of the rows as they were
  let b:=h.ind (λi=>if i=r then a r - (rs m λk=>if k=r then 0 else a k*(at2 R k col / (d:Rat))) else a i*(at2 R r col / (d:Rat))) (λj n=>by
   let o:=l j n;let p:(rs m λi=>a i*at2 (cN R r col d) i (m+j))=rs m λi=>(if i=r then a r*at2 R r (m+j) else 0)+((if i=r then 0 else a i*(at2 R r col / (d:Rat))*at2 R i (m+j))+(-(at2 R r (m+j)))*(if i=r then 0 else a i*(at2 R i col / (d:Rat)))):=aX λi hi=>by
    rw[cl i hi]
    by_cases e:i=r
    .rw[if_pos e,if_pos e,if_pos e,if_pos e,e];grind
    .rw[if_neg e,if_neg e,if_neg e,if_neg e];grind
   rw[p,fE,fE,gK,oN m r _ u] at o;let q:(rs m λi=>(if i=r then a r - (rs m λk=>if k=r then 0 else a k*(at2 R k col / (d:Rat))) else a i*(at2 R r col / (d:Rat)))*at2 R i (m+j))=rs m λi=>(if i=r then (a r - (rs m λk=>if k=r then 0 else a k*(at2 R k col / (d:Rat))))*at2 R r (m+j) else 0)+(if i=r then 0 else a i*(at2 R r col / (d:Rat))*at2 R i (m+j)):=aX λi _=>by
    by_cases e:i=r
    .rw[if_pos e,if_pos e,if_pos e,e];grind
    .rw[if_neg e,if_neg e,if_neg e];grind
   rw[q,fE,oN m r _ u];grind)
  let other:∀k,k < m->k≠r->a k=0:=λk f e=>by
   have:=b k f;rw[if_neg e] at this;let t:at2 R r col / (d:Rat)≠0:=λz=>g (by grind);grind
  by_cases e:i=r
  .have:=b r u;rw[if_pos rfl] at this;let z:(rs m λk=>if k=r then 0 else a k*(at2 R k col / (d:Rat)))=rs m λ_=>0:=aX λk f=>by
    by_cases e:k=r
    .rw[if_pos e]
    .rw[if_neg e,other k f e];grind
   rw[z,eV] at this;rw[e];grind
  .exact other i hi e
theorem LI.lame(h:LI m Aq R)(s:SI m w A0 R r m d sg)(f:r < m):(∃k,k < m/\ent R (m - 1) (m+k)≠0)/\∀x,x < m->(rs m λk=>at2 R (m - 1) (m+k)*Aq k x)=0:=by
 let⟨A,c,B,e⟩:=s.bar;exists Classical.byContradiction λn=>?_,λx hx=>?_
 .let all:∀k,k < m->ent R (m - 1) (m+k)=0:=λk a=>Classical.byContradiction λz=>n ⟨k,a,z⟩;have:=h.ind (λi=>if i=m - 1 then 1 else 0) (λj b=>by
   have:(rs m λi=>(if i=m - 1 then (1:Rat) else 0)*at2 R i (m+j))=rs m λ_=>0:=aX λi _=>by
    by_cases e:i=m - 1
    .rw[if_pos e,e];have:at2 R (m - 1) (m+j)=0:=by unfold at2;rw[all j b];simp
     rw[this];grind
    .rw[if_neg e];grind
   rw[this,eV]) (m - 1) ()
  rw[if_pos rfl] at this;grind
 .rw[<- h.lin (m - 1) x () hx];exact B.i3 (m - 1) x () () hx
end Mq
namespace PySem
open Sem (wp)
section
variable {prog:Program} {w:World} {A:Around} {E:Value->Shared->Prop} {h:Heap} {g:Array GenState} {d:Drawn} {t:Nat} {os:OsState}
variable {nm q:Str} {C N f:Addr} {bs bm bmB:List Value} {hdct:Bool} {sn:List Str} {sub:List Value} {ab:Bool} {col:Option Bool} {dd:Option Addr} {k0 k1 k2 k3 k5:Option Value} {B Bn newId nid initId inN:String} {bmN:List Value}
abbrev gL(h:Heap)(C:Addr)(rest:List Value):Heap:=(h.push { cls:=.type "tuple",data:=.seq rest.toArray }).push { cls:=.ref C,data:=.fields #[.ref h.objs.size,.none,.none,.none,.bool false,.none] }
theorem yP(m:ExcBaseFacts Bn newId inN bmN)(l:bmB.contains (.type Bn)=true)(F:ExcBaseFacts B nid initId bmB)(T:OwnTail h bmB bm)(i:h.get? C=some (excClassObj nm q C N bs bm hdct sn sub ab col dd k0 k1 k2 k3 k5 newId))(n:W.Looks (model prog w) h (typeLookup (.ref C) "__init__") (some (.ref f)))(p:∀self,W.Looks (model prog w) h (bindSpecial (.ref f) self) (.ref f,[self]))(s:wpAny (model prog w) A (call (.ref f) (.ref (h.objs.size+1) :: rest)) (λr s'=>r=.none/\Q (.done (.ret (.ref (h.objs.size+1)))) s') E ⟨gL h C rest,g,d,t,os⟩)(j:rest.length<=sizeLine):
  wpAny (model prog w) A (Builtin.«type.__call__» ⟨.ref C :: rest,[]⟩) Q E ⟨h,g,d,t,os⟩:=by
 repeat (first | with_reducible refine wpAny_loadPart_at i ?_ | with_reducible refine wpAny_madeBy_exc i ?_ | wp_step)
 refine codeAny_call_builtin_code (Code.quiet_builtin _ m.quiet) (wpAny_check_new_subU m l T i ?_);refine codeAny_exc_new_subU m l F T i ?_ j;show wpAny _ _ _ _ _ _;let k:∀b o,h.get? b=some o->(gL h C rest).get? b=some o:=λb o e=>Heap.get?_push_of_some _ (Heap.get?_push_of_some _ e);have hC₁:=k _ _ i;let a:(gL h C rest).get? (h.objs.size+1)=some { cls:=.ref C,data:=.fields #[.ref h.objs.size,.none,.none,.none,.bool false,.none] }:=by
  have:=Heap.get?_push_size (h.push { cls:=.type "tuple",data:=.seq rest.toArray }) (o:={ cls:=.ref C,data:=.fields #[.ref h.objs.size,.none,.none,.none,.bool false,.none] }) rfl
  rwa [Heap.size_push] at this
 let c:(Value.ref C :: bm).contains (.ref C)=true:=by simp
 unfold isInstance
 repeat (first | with_reducible refine wpAny_loadPart_at a ?_ | (with_reducible refine wpAny_isSubtype_exc hC₁ ?_;rw[c]) | wp_step)
 show wpAny _ _ (typeLookup (.ref C) _) _ _ _;refine(n.keeps k).here ?_;refine wpAny_holding (wpAny_bind (((p _).keeps k).here ?_));refine wpAny_bind (wpAny_mono s (λr s' z=>?_) λ_ _ z=>z);let⟨rfl,z⟩:=z;refine wpAny_pure ?_;exact wpAny_pure z
theorem Oo(k:ExcBaseFacts Bn newId inN bmN)(j:bmB.contains (.type Bn)=true)(F:ExcBaseFacts B nid initId bmB)(T:OwnTail h bmB bm)(e:h.get? C=some (excClassObj nm q C N bs bm hdct sn sub ab col dd k0 k1 k2 k3 k5 newId))(l:W.Looks (model prog w) h (typeLookup (.ref C) "__init__") (some (.ref f)))(m:∀self,W.Looks (model prog w) h (bindSpecial (.ref f) self) (.ref f,[self]))(hq:wpAny (model prog w) (A.under (.builtin "type.__call__" ⟨.ref C :: rest,[]⟩)) (call (.ref f) (.ref (h.objs.size+1) :: rest)) (λr s'=>r=.none/\Q (.ref (h.objs.size+1)) s') E ⟨gL h C rest,g,d,t,os⟩)(i:rest.length<=sizeLine):
  wpAny (model prog w) A (call (.ref C) rest) Q E ⟨h,g,d,t,os⟩:=by
 let a:=tc_lookup;let b:=tc_bind (.ref C);let c:(⟨h,g,d,t,os⟩:Shared).TypeIs (.ref C) "type":=⟨_,e,8⟩
 refine wpAny_call (codeAny_of_tree ?_);show wpAny _ _ (callAny (.ref C) _) _ _ _
 repeat (any_goals (first | assumption | with_reducible refine wpAny_loadPart_at e ?_ | wp_step))
 exists 8,7;refine codeAny_call_builtin_at (Code.quiet_builtin _ ∅) entry_typeCall (wpAny_check_type_call_sub e (yP k j F T e l m ?_ i));exact hq
end
section
variable {M:Model} {A:Around} {E:Value->Shared->Prop} {env:Env}
variable {nm q:Str} {C N:Addr} {bs bm:List Value} {hdct:Bool} {sn:List Str} {sub:List Value} {ab:Bool} {col:Option Bool} {dd:Option Addr} {k0 k1 k2 k3 k5:Option Value} {newId:String}
theorem iP(j:bm.contains (.type "BaseException")=true)(k:A.handled=none)(h:wpAny M A x (λv i=>∃e t dx,v=.ref e/\i.heap.get? C=some (excClassObj nm q C N bs bm hdct sn sub ab col dd k0 k1 k2 k3 k5 newId)/\
   i.heap.get? e=some { cls:=.ref C,dict:=dx,data:=.fields #[.ref t,.none,.none,.none,.bool false,.none] }/\E (.ref e) i) E s):
  wpAny M A (raiseStmt env (some x) none) Q E s:=by
 let a:(Value.ref C :: bm).contains (.type "BaseException")=true:=by rw[contains_cons,j,Bool.or_true]
 unfold raiseStmt;refine wpAny_bind (wpAny_mono h (λv i c=>?_) λ_ _ x=>x);let⟨e,t,dx,rfl,b,f,hE⟩:=c;let⟨hp,g,d,tk,os⟩:=i
 repeat (first | with_reducible refine wpAny_loadPart_at f ?_ | with_reducible refine wpAny_loadPart_at b ?_ | (with_reducible refine wpAny_isSubtype_exc b ?_;rw[a]) | wp_step)
 exact wpAny_raiseNew_none k hE
end
section
variable {prog:Program} {w:World} {A:Around} {E:Value->Shared->Prop} {s:Shared} {env:Env}
variable {nm q:Str} {C N f:Addr} {bs bm bmB:List Value} {hdct:Bool} {sn:List Str} {sub:List Value} {ab:Bool} {col:Option Bool} {dd:Option Addr} {k0 k1 k2 k3 k5:Option Value} {B Bn newId nid initId inN:String} {bmN:List Value}
theorem Jk(L:ExcBaseFacts Bn newId inN bmN)(K:bmB.contains (.type Bn)=true)(F:ExcBaseFacts B nid initId bmB)(G:bm.contains (.type "BaseException")=true)(J:A.handled=none)(H:(backTo cpos (starEach args env)).any (·.1)=false)(h:wpAny (model prog w) A (eval (.Name x np) env) (λM I=>M=.ref C/\wpAny (model prog w) A (evalArgs (.ref C) true (backTo cpos (starEach args env)) [])
   (λa D=>a.kw=[]/\a.pos.length<=sizeLine/\D.heap.get? C=some (excClassObj nm q C N bs bm hdct sn sub ab col dd k0 k1 k2 k3 k5 newId)/\OwnTail D.heap bmB bm/\
    W.Looks (model prog w) D.heap (typeLookup (.ref C) "__init__") (some (.ref f))/\(∀self,W.Looks (model prog w) D.heap (bindSpecial (.ref f) self) (.ref f,[self]))/\
    wpAny (model prog w) (A.under (.builtin "type.__call__" ⟨.ref C :: a.pos,[]⟩)) (call (.ref f) (.ref (D.heap.objs.size+1) :: a.pos)) (λr s'=>r=.none/\∃t dx,s'.heap.get? C=some (excClassObj nm q C N bs bm hdct sn sub ab col dd k0 k1 k2 k3 k5 newId)/\
     s'.heap.get? (D.heap.objs.size+1)=some { cls:=.ref C,dict:=dx,data:=.fields #[.ref t,.none,.none,.none,.bool false,.none] }/\E (.ref (D.heap.objs.size+1)) s') E { D with heap:=gL D.heap C a.pos }) E I) E s):
  wpAny (model prog w) A (exec (.Raise (some (.Call (.Name x np) args [] cpos)) none pos) env) Q E s:=by
 rw[arm_exec_Raise]
 first
  |refine wpAny_bind (wpAny_standAt (iP (C:=C) (nm:=nm) (q:=q) (N:=N) (bs:=bs) (bm:=bm) (hdct:=hdct) (sn:=sn) (sub:=sub) (ab:=ab) (col:=col) (dd:=dd) (k0:=k0) (k1:=k1) (k2:=k2) (k3:=k3) (k5:=k5) (newId:=newId) G J (wpAny_bind (wpAny_mono (wpAny_Call_ofName (wpAny_mono h (λf I b=>?_) λ_ _ x=>x)) (λv j c=>wpAny_bind (wpAny_standAt (wpAny_pure c))) λ_ _ x=>x))))
  | (simp only[evalOpt,Option.map];refine wpAny_bind (wpAny_standAt (iP (C:=C) (nm:=nm) (q:=q) (N:=N) (bs:=bs) (bm:=bm) (hdct:=hdct) (sn:=sn) (sub:=sub) (ab:=ab) (col:=col) (dd:=dd) (k0:=k0) (k1:=k1) (k2:=k2) (k3:=k3) (k5:=k5) (newId:=newId) G J (wpAny_bind (wpAny_mono (wpAny_Call_ofName (wpAny_mono h (λf I b=>?_) λ_ _ x=>x)) (λv j c=>wpAny_bind (wpAny_standAt (wpAny_pure c))) λ_ _ x=>x)))))
  | (refine wpAny_bind (wpAny_standAt (iP (C:=C) (nm:=nm) (q:=q) (N:=N) (bs:=bs) (bm:=bm) (hdct:=hdct) (sn:=sn) (sub:=sub) (ab:=ab) (col:=col) (dd:=dd) (k0:=k0) (k1:=k1) (k2:=k2) (k3:=k3) (k5:=k5) (newId:=newId) G J ?_));refine wpAny_bind (wpAny_mono (wpAny_Call_ofName (wpAny_mono h (λf I b=>?_) λ_ _ x=>x)) (λv j c=>wpAny_bind (wpAny_standAt (wpAny_pure c))) λ_ _ x=>x))
 let⟨rfl,b⟩:=b;unfold callWith;refine wpAny_bind (wpAny_holding (wpAny_mono b (λa D e=>wpAny_bind (wpAny_standAt ?_)) λ_ _ x=>x));let⟨apos,k⟩:=a;let⟨l,i,m,T,n,o,e⟩:=e;obtain rfl:k=[]:=l;let⟨hp,g,d,tk,os⟩:=D;simp only[H];refine wpAny_bind (wpAny_keeperOf_exc m ?_);refine wpAny_bind (Oo L K F T m n o (wpAny_mono e (λr s' z=>?_) λ_ _ z=>z) i);let⟨rfl,t,dx,p,u,y⟩:=z;exists 8,wpAny_bind (wpAny_holding (wpAny_point (wpAny_pure ⟨_,t,dx,8,p,u,y⟩)))
end
end PySem
namespace L2
open PySem PySem.Spec PyProof.Rows
def iI(a:Addr)(C:Value)(d:Option Addr):HO:=.ext λh=>∃t,h.get? a=some { cls:=C,dict:=d,data:=.fields #[.ref t,.none,.none,.none,.bool false,.none] }
theorem rK(e:h.get? a=some { cls:=C,dict:=d,data:=.fields #[.ref t,.none,.none,.none,.bool false,.none] }):cP P w H h a (iI a C d):=
 ⟨⟨t,e⟩,⟨_,e⟩,λh1 h2 ⟨t',b⟩ k=>⟨t',k _ b⟩⟩
def pL(H:Hp)(x:Addr):Hp:=λb=>if b=x then none else H b
theorem jO(h:b≠x):pL H x b=H b:=by unfold pL;rw[if_neg h]
theorem Gk(H:Hp)(x:Addr):pL H x x=none:=by unfold pL;rw[if_pos rfl]
section
variable {X:Cx} {pins:List (Addr × Obj)} {σ:List (Option V)} {H:Hp} {s:Shared}
theorem Inv.forget(I:Inv X pins σ H s)(m:H x=some (.ext r)):Inv X pins σ (pL H x) s:=by
 let non:∀b,H b=none->pL H x b=none:=λb e=>by unfold pL;split;rfl;exact e
 let a:∀b u,H b=some u->u≠.ext r->pL H x b=some u:=λb u e n=>by
  have:b≠x:=λz=>by rw[z,m] at e;cases e;exact n rfl
  rw[jO this];exact e
 exists I.ok,I.os,I.bare,⟨I.base.keep,I.base.slot,λb o f g h=>non b (I.base.free b o f g h),I.base.there,λb xs e=>a b _ (I.base.tups b xs e) (λz=>by cases z),λb o u e=>a b _ (I.base.frzs b o u e) (λz=>by cases z),λb ps e=>?_⟩,I.loc,I.cell,non _ I.free,λy c e=>non _ (I.freeC y c e),λp hp=>?_,λb u e=>?_,I.len
 .let⟨d,q⟩:=I.base.tbls b ps e;exists d,a b _ q (λz=>by cases z)
 .let⟨i,j,k⟩:=I.pin p hp;exists i,non _ j,k
 .let l:b≠x:=λz=>by rw[z,Gk] at e;cases e
  rw[jO l] at e;exact(I.hok b u e).stay (λc v _ q=>q) (λc q=>a c _ q (λz=>by cases z)) λc xs q=>a c _ q (λz=>by cases z)
end
structure lH(K:Frag)(C C0 f:Addr):Prop where
 cls:∃(nm q:Str)(N:Addr)(bs:List Value)(sn:List Str)(sub:List Value)(ab:Bool)(col:Option Bool)(dd:Option Addr)(k0 k1 k2 k3 k5:Option Value),K.lookup C=some (excClassObj nm q C N bs (.ref C0 :: uV) true sn sub ab col dd k0 k1 k2 k3 k5 "ValueError.__new__")
 base:∃(nm q:Str)(N:Addr)(bs:List Value)(hdct:Bool)(sn:List Str)(sub:List Value)(ab:Bool)(col:Option Bool)(dd:Option Addr)(k0 k1 k2 k3 k5:Option Value),K.lookup C0=some (excClassObj nm q C0 N bs uV hdct sn sub ab col dd k0 k1 k2 k3 k5 "ValueError.__new__")
 exc:qd4 K C0
 ini:W.findIn K (.ref C) "__init__"=some (some (.ref f))
 fn:W.typeIn K (.ref f)=some (.type "function")
theorem lH.tail{K:Frag}(e:lH K C C0 f)(X:K.In h):OwnTail h uV (.ref C0 :: uV):=by
 let⟨nm,q,N,bs,hdct,sn,sub,ab,col,dd,k0,k1,k2,k3,k5,l⟩:=e.base;let z:=e.exc;unfold qd4 W.excIn at z;rw[l] at z;simp only[Bool.and_eq_true,beq_iff_eq,Bool.not_eq_true'] at z;let⟨⟨⟨⟨_,_⟩,c⟩,a⟩,b⟩:=z;exact .own (X _ _ l) (.of_isNs (W.isNs_of_in X a)) (W.nsMap_none_of_in X a b) .base
section
variable {X:Cx} {pins:List (Addr × Obj)} {σ:List (Option V)} {H:Hp} {s:Shared} {k:Nat} {f C C0:Addr} {fd:FuncData} {ps:List Str} {sp:Sp}
def qa5(C:Addr)(sp:Sp)(E:XK)(ta:TA):TS:=λ_ σ H=>ta σ H λvs H1=>vs.length<=sizeLine/\∀x,H1 x=none->sp (.ref x :: vs) (upd H1 x (iI x (.ref C) none)) (λv H2=>v=.non/\∃dx,H2 x=some (iI x (.ref C) dx)/\E (.ref C) dx (pL H2 x)) E0
theorem Bf(fm:Frm X)(xo:Xr X E)(hc:X.calm=true)(hg:Gl X x)(hm:X.mg x=some (.ref C))(q:lH X.K C C0 f)(F:aK X.prog X.w X.K X.mg X.base CX0 k f fd ps sp)(hr:hV (k+1) X.A)(hb:aL X.K fd ps [])(ha:PA X (a0 :: es) ta)(a1:(x == ("__debug__":Str))=false:=by decide)(he:starEach (a0 :: es) X.env=(false,eval a0 X.env) :: starEach es X.env:=by rfl)(a2:(backTo cpos (starEach es X.env)).any (·.1)=false:=by rfl):
  PS X (.Raise (some (.Call (.Name x np) (a0 :: es) [] cpos)) none pos) (qa5 C sp E ta):=by
 intro pins s σ H D I h;let⟨nm,S,N,bs,sn,sub,ab,col,dd,k0,k1,k2,k3,k5,B⟩:=q.cls;let i:=PySem.F.excBase_ValueError;let T:=q.tail I.mod.kin;refine Jk (C:=C) (f:=f) (nm:=nm) (q:=S) (N:=N) (bs:=bs) (bm:=.ref C0 :: uV) (hdct:=true) (sn:=sn) (sub:=sub) (ab:=ab) (col:=col) (dd:=dd) (k0:=k0) (k1:=k1) (k2:=k2) (k3:=k3) (k5:=k5)
  i ∅ i (T.hasType i.hasBase) (I.ok.hd hc) (by rw[he];show (false || (backTo cpos (starEach es X.env)).any (·.1))=false;rw[a2];rfl) (jG I hg hm ⟨8,7⟩ a1)
 let g:=ha cpos pins s σ H _ I h;rw[he] at g ⊢;refine Calls.evalArgs_plain (wpAny_mono g (λc a h2=>?_) λ_ _ y=>y);let⟨vs,H1,d,r,U,Y⟩:=h2;let kIn:=d.kIn;exists 8,by rw[<- r.length];exact U,kIn _ _ B,q.tail kIn,W.looks_findIn kIn q.ini,λj=>W.bind_fn kIn j q.fn,?_;dsimp only;let G:∀b o,a.heap.get? b=some o->(gL a.heap C c).get? b=some o:=λb o e=>Heap.get?_push_of_some _ (Heap.get?_push_of_some _ e);let l:(gL a.heap C c).get? (a.heap.objs.size+1)=some { cls:=.ref C,data:=.fields #[.ref a.heap.objs.size,.none,.none,.none,.bool false,.none] }:=by
  have:=Heap.get?_push_size (a.heap.push { cls:=.type "tuple",data:=.seq c.toArray }) (o:={ cls:=.ref C,data:=.fields #[.ref a.heap.objs.size,.none,.none,.none,.bool false,.none] }) rfl
  rwa [Heap.size_push] at this
 let fr:H1 (a.heap.objs.size+1)=none:=d.hok.fresh (Nat.le_succ _);let m:Inv X pins σ (upd H1 (a.heap.objs.size+1) (iI (a.heap.objs.size+1) (.ref C) none)) { a with heap:=gL a.heap C c }:=
  d.laid (t':=a.toks) G (Nat.le_succ _) (rK l)
 let L:=Y _ fr;let M:cB (V.ref (a.heap.objs.size+1) :: vs) (Value.ref (a.heap.objs.size+1) :: c):=.cons rfl r;let Z:(Value.ref (a.heap.objs.size+1) :: c++[]).length=ps.length:=by
  let e:=M.length;rw[F.len _ _ _ _ L] at e;rw[append_nil];exact e.symm
 refine wpAny_call (codeAny_mono (F.run _ X.stack _ _ ⟨Value.ref (a.heap.objs.size+1) :: c,[]⟩ (Value.ref (a.heap.objs.size+1) :: c) _ _ E0 (hr.make C c []) (m.env0.make C c []) (by have:=hb _ (Value.ref (a.heap.objs.size+1) :: c) m.kIn Z;rwa [append_nil] at this) M L) λO s' hq'=>?_)
 cases O with
 |error e=>exact(show False from hq').elim
 |ok fl=>
  cases fl with
  |ret u=>
   let⟨v,H',os,n,un,P,Q,ev,dx,ex,q3⟩:=hq';subst ev;let J:Inv X pins σ H' s':=m.call' (ch:=[]) os un P n λb z=>absurd z ⋯;let⟨⟨t,R⟩,_⟩:=(show cP X.prog X.w H' s'.heap _ (iI _ (.ref C) dx) from J.hok _ _ ex)
   exists Q,t,dx,J.kIn _ _ B,R,7;refine xo pins σ _ s' _ (.ref C) dx ⟨J.forget ex,a.heap,λp hp z=>?_,λb o e=>d.base.there b o e (by rw[fm.ex];simp),λb o e=>un.there b o (G b o e) ⋯,⟨Nr (Nat.le_succ _),Gk _ _,_,_,.none,R,8,8,8,8,.inl rfl⟩⟩ q3;rw[(d.pin p hp).1] at z;cases z
  |next=>exact False.elim hq'
  |brk=>exact False.elim hq'
  |cont=>exact False.elim hq'
end
theorem Tx(h:H a=some o):upd H a o=H:=by
 funext b
 by_cases e:b=a
 .rw[e,aB,h]
 .rw[aQ e]
section
variable {X:Cx} {C C0 f:Addr}
theorem Dl:jF X (.builtin "ValueError.__init__") (λxs H Q=>∃a C C0 f d v,xs=[.ref a,v]/\H a=some (iI a (.ref C) d)/\lH X.K C C0 f/\Q .non H):=by
 intro pins s σ H xs A Q I r h;let⟨a,C,C0,f,d,v,rfl,j,q,B⟩:=h;obtain⟨i,c,rfl,D,E⟩:∃i c,A=i :: c/\cE (.ref a) i/\cB [v] c:=by cases r with | cons p q=>exact⟨_,9,p,q⟩
 obtain rfl:i=Value.ref a:=D;let⟨⟨t,k⟩,_⟩:=(show cP X.prog X.w H s.heap a (iI a (.ref C) d) from I.hok a _ j)
 let⟨nm,P,N,bs,sn,sub,ab,col,dd,k0,k1,k2,k3,k5,G⟩:=q.cls;let l:=PySem.F.excBase_ValueError;let T:=q.tail I.kIn;let J:c.length=1:=E.length.symm;let L:=I.kIn _ _ G;let m:∀s',s'={ s with heap:=(s.heap.push { cls:=.type "tuple",data:=.seq c.toArray }).update a (Obj.mapFields (·.setIfInBounds 0 (.ref s.heap.objs.size))) }->EP X pins σ Q .none s':=by
  rintro s' rfl;let M:Inv X pins σ H { s with heap:=s.heap.push { cls:=.type "tuple",data:=.seq c.toArray } }:=I.kept (t':=s.toks) λb o e=>Heap.get?_push_of_some _ e;let n:=Heap.get?_push_of_some (h:=s.heap) { cls:=.type "tuple",data:=.seq c.toArray } k;let y:=Heap.get?_update_self (Obj.mapFields (·.setIfInBounds 0 (.ref s.heap.objs.size))) n rfl;let z:=M.write (x:=a) (e:=a) (t':=s.toks) (o:=iI a (.ref C) d) (by rw[j];exact True.intro) (.inl rfl) (λb u O e=>(Heap.get?_update_other _ _ (Ne.symm O)).trans e) ⟨_,y⟩ (rK (t:=s.heap.objs.size) y);rw[Tx j] at z;exists .non,H,z,8,B
 let⟨hp,g,R,tk,os⟩:=s;refine wpAny_call (codeAny_call_builtin l.init.plain l.initEntry (wpAny_check_init_subU l T L k rfl ?_));unfold Builtin.«BaseException.__init__»;dsimp only;rw[if_neg ⋯];unfold newTuple Builtin.BaseException.bexcPut;have he₁:=Heap.get?_push_of_some (h:=hp) { cls:=.type "tuple",data:=.seq c.toArray } k;refine wpAny_bind (wpAny_newObj_type (wpAny_bind (wpAny_bind (wpAny_field he₁ rfl rfl (wpAny_bind (wpAny_setField he₁ rfl (show 0 < 6 by decide) ?_))))) (by show c.toArray.size<=sizeLine;rw[size_toArray,J];decide));exact wpAny_letGo (wpAny_pure (m _ rfl))
structure Wy(K:Frag)(C0:Addr):Prop where
 sp:W.specialIn K (.ref C0) "__getattribute__"=some (some (.builtin "type.__getattribute__"))
 rd:W.readsIn K C0 (.type "type")=true
 fi:W.findCls K (.ref C0) (.type "type") "__init__"=some (.val (.builtin "ValueError.__init__"))
def Rk(K:Frag)(ta:TA):TE:=λσ H Q=>ta σ H λvs H1=>∃a C C0 f d v,vs=[.ref a,v]/\H1 a=some (iI a (.ref C) d)/\lH K C C0 f/\Q .non H1
theorem Im(m:Gl X x)(hm:X.mg x=some (.ref C0))(c:Wy X.K C0)(n:PA X (e :: es) t)(k:(x == ("__debug__":Str))=false:=by decide)(l:starEach (e :: es) X.env=(false,eval e X.env) :: starEach es X.env:=by rfl)(hpl:(backTo pos (starEach es X.env)).any (·.1)=false:=by rfl)(o:eval (.Call (.Attribute (.Name x np) "__init__" apos) (e :: es) [] pos) X.env=(do
   let ov <- eval (.Name x np) X.env
   standAt apos.atName
   let (f,first) <- holding [ov] (getMethod ov "__init__" pl)
   callWith pos f first (backTo pos (starEach (e :: es) X.env)) (backToKw pos (keywordEach [] X.env))):=by rfl):
  PE X (.Call (.Attribute (.Name x np) "__init__" apos) (e :: es) [] pos) (Rk X.K t):=by
 intro pins s σ H Q I h;refine W.methodCall_KW (pl:=pl) (jG I m hm ?_ k) o;refine W.method_cls I.kIn c.sp (W.cls_value I.kIn c.rd c.fi rfl ?_);let a:Inv X pins σ H { s with toks:=s.toks+1 }:=I.tok _;exact PyProof.Rows.callWith_builtin1 (thn (n pos pins _ σ H _ a h) λb d ⟨vs,H1,g,i,j⟩=>Dl pins d σ H1 vs b Q g i j) l hpl
end
section
variable {prog:Program} {w:World} {A:Around} {E:Value->Shared->Prop} {s:Shared} {K:Frag} {x C C0 f:Addr} {name:Str} {v:Value} {vs:Array Value}
theorem lH.cin(q:lH K C C0 f):∃a,W.clsIn K C=some a/\a.mro=.ref C :: .ref C0 :: uV/\a.hasDict=true:=by
 let⟨nm,c,N,bs,sn,sub,ab,col,dd,k0,k1,k2,k3,k5,b⟩:=q.cls;unfold W.clsIn;rw[b];exists 9,8,8
theorem Lz(X:K.In s.heap)(q:lH K C C0 f)(H:s.heap.get? x=some { cls:=.ref C,data:=.fields vs })(hs:W.findIn K (.ref C) "__setattr__"=some (some (.builtin "object.__setattr__")))(I:W.findIn K (.ref C) name=some none)(h:∀h',h'.get? x=some { cls:=.ref C,dict:=some s.heap.objs.size,data:=.fields vs }->h'.Ns1 s.heap.objs.size (λy=>if y=name then some v else none)->(∀b o,b≠x->s.heap.get? b=some o->h'.get? b=some o)->∀tk,Q .unit { s with heap:=h',toks:=tk }):
  wpAny (model prog w) A (setAttr (.ref x) name v) Q E s:=by
 let J:W.InstAt s.heap x { cls:=.ref C,data:=.fields vs } C none:=⟨H,8,8,trivial⟩
 let a:=PySem.F.store_object;let p:=PySem.F.store_ValueError;let⟨r,g,hm,t⟩:=q.cin;refine W.set_plain X J hs ?_;let sub:W.Looks (model prog w) s.heap (isInstance (.ref x) (.type "object")) true:=J.type.andThen (W.looks_mroIn X (by unfold W.mroIn;rw[g,Option.bind_some,hm];rfl));refine codeAny_call_builtin a.slot.plain a.entry (@W.check_slot (model prog w) _ _ { s with toks:=s.toks+1 } "object.__setattr__" "object" "__setattr__" (.ref x) [.str name s.toks,v] [] _ a.kind a.split sub (a.args (.ref x) (.str name s.toks) v) ?_);let i:W.Looks (model prog w) s.heap (mroOf (.ref C)) r.mro:=(W.looks_clsIn X g).andThen .now;rw[W.osa_eq,refuse_eq];refine wpAny_bind (wpAny_bind (W.Looks.here (s:={ s with toks:=s.toks+1 }) J.type (wpAny_bind (W.Looks.here (s:={ s with toks:=s.toks+1 }) i ?_))));rw[hm,refuseLoop_ref,refuseLoop_ref,p.passes];refine wpAny_pure (wpAny_bind (W.Looks.here (s:={ s with toks:=s.toks+1 }) J.type (wpAny_bind (W.Looks.here (s:={ s with toks:=s.toks+1 }) (W.looks_findIn X I) (wpAny_bind (wpAny_pure ?_))))));dsimp only;refine wpAny_bind (wpAny_pure (wpAny_bind (wpAny_bind (wpAny_loadPart H (wpAny_bind (W.Looks.here (s:={ s with toks:=s.toks+1 }) (W.looks_clsIn X g) ?_))))));rw[t,if_neg ∅];dsimp only;rw[if_neg (by simp[typeHasDict])];have hx₁:(s.heap.push { cls:=.type "dict",data:=.dict #[] }).get? x=some { cls:=.ref C,data:=.fields vs }:=Heap.get?_push_of_some _ H;let c:x≠s.heap.objs.size:=Nat.ne_of_lt (Heap.lt_size H);refine wpAny_bind (wpAny_alloc' ?_);refine wpAny_bind (wpAny_update' hx₁ ?_);refine wpAny_pure ?_;let j:((s.heap.push { cls:=.type "dict",data:=.dict #[] }).update x λo=>{ cls:=o.cls,dict:=some s.heap.objs.size,data:=o.data,slots:=o.slots }).get? s.heap.objs.size
   = some { cls:=.type "dict",data:=.dict #[] }:=
  (Heap.get?_update_ne _ _ _ _ c.symm).trans (Heap.get?_push_at rfl rfl)
 let k:((s.heap.push { cls:=.type "dict",data:=.dict #[] }).update x λo=>{ cls:=o.cls,dict:=some s.heap.objs.size,data:=o.data,slots:=o.slots }).Ns s.heap.objs.size (λ_=>none):=
  ⟨_,#[],_,j,8,λe u=>absurd u ⋯,λ_=>rfl⟩
 show wpAny _ _ (Builtin.ObjectAttr.storeInDict s.heap.objs.size (.str name s.toks) name v) _ _ _;unfold Builtin.ObjectAttr.storeInDict Builtin.ObjectAttr.newKeyGuard;refine wpAny_bind (wpAny_pure (wpAny_bind (wpAny_nsSet1 (Heap.Ns1.of_empty k) λh' hn' d=>?_)));let⟨G,B,D,l,m,n⟩:=hn'.count (Within.cons name v Within.nil);refine wpAny_bind (wpAny_lookBehind l (by rw[m];exact pastItsLine_dict (Nat.le_trans n (by rw[length_cons,length_nil,sizeLine_eq];lia))) ?_);refine wpAny_pure ?_;refine h h' ?_ ?_ (λb o z e=>(d.2 b (Nat.ne_of_lt (Heap.lt_size e))).trans ((Heap.get?_update_ne _ _ _ _ z).trans (Heap.get?_push_of_some _ e))) _
 .exact(d.2 x c).trans (Heap.get?_update_self _ hx₁ rfl)
 .exact hn'
end
section
variable {X:Cx} {o value:Expr} {nm:Str} {pos pos':Pos} {ta tv:TE}
structure Ci(K:Frag)(C:Addr)(nm:Str):Prop where
 sa:W.findIn K (.ref C) "__setattr__"=some (some (.builtin "object.__setattr__"))
 no:W.findIn K (.ref C) nm=some none
def qv9(K:Frag)(ta tv:TE)(nm:Str):TS:=λD σ H=>tv σ H λy H1=>ta σ H1 λx H2=>∃a C C0 f,x=.ref a/\H2 a=some (iI a (.ref C) none)/\lH K C C0 f/\Ci K C nm/\
 ∀dx,H2 dx=none->D.nx σ (upd (upd H2 dx (.xd [(nm,y)])) a (iI a (.ref C) (some dx)))
theorem Yp(U:PE X o ta)(V:PE X value tv)(hs:swapsWith value (some (.Attribute o nm pos')) pos.line X.env=pure false):PS X (.Assign [.Attribute o nm pos'] value pos) (qv9 X.K ta tv nm):=by
 intro pins s σ H D I h;refine plainObj_wpAny_Assign_Attribute (thn (V pins s σ H _ I h) λu B ⟨y,H1,E,F,q⟩=>thn (U pins B σ H1 _ E q) λG c ⟨x,H2,i,J,a,C,C0,f,ex,n,L,p,M⟩=>?_) hs;subst ex;obtain rfl:G=Value.ref a:=J;let⟨⟨t,k⟩,_⟩:=(show cP X.prog X.w H2 c.heap a (iI a (.ref C) none) from i.hok a _ n)
 refine Lz i.kIn L k p.sa p.no λh' l N O tk=>?_;let fr:H2 c.heap.objs.size=none:=i.hok.fresh (Nat.le_refl _);exists σ,_,7,M _ fr;let r:a≠c.heap.objs.size:=Nat.ne_of_lt (Heap.lt_size k);let v:=Heap.get?_update_self (λ_:Obj=>({ cls:=.ref C,data:=.fields #[.ref t,.none,.none,.none,.bool false,.none] }:Obj)) l rfl;let j:∀b,b≠a->(h'.update a λ_:Obj=>({ cls:=.ref C,data:=.fields #[.ref t,.none,.none,.none,.bool false,.none] }:Obj)).get? b=h'.get? b:=λb d=>Heap.get?_update_other _ _ (Ne.symm d);generalize h'.update a (λ_:Obj=>({ cls:=.ref C,data:=.fields #[.ref t,.none,.none,.none,.bool false,.none] }:Obj))=h1 at v j;let P:Inv X pins σ (upd H2 c.heap.objs.size (.xd [(nm,y)])) { c with heap:=h1,toks:=c.toks }:=by
  refine i.laid (a:=c.heap.objs.size) (o:=.xd [(nm,y)]) (h':=h1) (t':=c.toks) (λb u e=>?_) (Nat.le_refl _) ?_
  .by_cases d:b=a
   .subst d;rw[k] at e;cases e;exact v
   .rw[j b d];exact O b u d e
  .let⟨Q,es,R,S,T⟩:=N;exists _,⟨Q,es,R,(j _ (Ne.symm r)).trans S,T⟩,λg=>?_
   by_cases m:g=nm
   .subst m;rw[if_pos rfl,lookup_cons,beq_self_eq_true];exact F
   .have:(g == nm)=false:=beq_eq_false_iff_ne.mpr m;rw[if_neg m,lookup_cons,this];exact True.intro
 let A:upd H2 c.heap.objs.size (.xd [(nm,y)]) a=some (iI a (.ref C) none):=by rw[aQ r];exact n
 exact P.write (x:=a) (e:=a) (h':=h') (t':=tk) (by rw[A];exact True.intro) (.inl rfl) (λb u d z=>by rw[<- j b d];exact z) ⟨_,l⟩ (rK l)
end
section
variable {X:Cx} {o:Expr} {nm:Str} {pos:Pos} {ta:TE}
inductive Vh(K:Frag)(nm:Str)(Q:VK)(x:V)(H1:Hp):Prop where
 |mk (a C dx fs v):x=.ref a->H1 a=some (kT a (.ref C) (some dx))->H1 dx=some (.xd fs)->tX K C->W.hasDictIn K C=true->W.findIn K (.ref C) nm=some none->fs.lookup nm=some v->Q v H1->Vh K nm Q x H1
def qz2(K:Frag)(ta:TE)(nm:Str):TE:=λσ H Q=>ta σ H λx H1=>Vh K nm Q x H1
theorem pE(A:PE X o ta)(B:attributeBase o nm X.env (eval o X.env)=eval o X.env):PE X (.Attribute o nm pos) (qz2 X.K ta nm):=by
 intro pins s σ H Q I h;refine Nh B (thn (A pins s σ H _ I h) λu b ⟨x,H1,c,e,a,C,dx,fs,v,ex,f,g,k,i,j,l,q⟩=>?_);subst ex;obtain rfl:u=Value.ref a:=e;let⟨⟨m,vs,h1,h2,n,h4⟩,_⟩:=(show cP X.prog X.w H1 b.heap a (kT a (.ref C) (some dx)) from c.hok a _ f)
 let⟨mA,p,r⟩:=(show cP X.prog X.w H1 b.heap dx (.xd fs) from c.hok dx _ g)
 let⟨z,hw,d⟩:=kK.some_of (v:=v) (o:=mA nm) (by rw[<- l];exact r nm);let⟨t,ho,y⟩:=uO p;let J:W.InstAt b.heap a m C (some t):=⟨h1,h2,by unfold W.notCls;rw[h4],by rw[n];exact ho⟩
 unfold getAttr;refine wpAny_bind (wpAny_mkText (Ud (s:={ b with toks:=b.toks+1 }) k c.kIn J (zX d) (.inl (W.findObj_own i j rfl (by rw[y,hw]))) ?_));exists v,H1,c.tok _,d,q
end
end L2
namespace Shp
open PySem L2
inductive Fmd(K:Frag)(H0:Hp)(D:Addr)(H:Hp):vk->List (List Mq.Q2)->Prop where
 |nil:Fmd K H0 D H [] []
 |cons {u:Addr} {xs:vk} {ps:List Mq.Q2} {us:vk} {X:List (List Mq.Q2)} (n0:H0 u=none) (ne:u≠D) (h:H u=some (.lst xs)) (f:Fqs K H xs ps) (q:Fmd K H0 D H us X):Fmd K H0 D H (.ref u :: us) (ps :: X)
theorem Fmd.length:∀{xs:vk}{X:List (List Mq.Q2)},Fmd K H0 D H xs X->xs.length=X.length
 |_,_,.nil=>rfl
 |_,_,.cons _ _ _ _ q=>by rw[length_cons,length_cons,q.length]
def tY(X:List (List Mq.Q2)):Mat:=λi j=>Mq.val ((X.getD i []).getD j Mq.z0)
def oZ(m i:Nat)(row:List Mq.Q2):List Int:=iw row++(List.range m).map λc=>if c=i then fB row else 0
def kW(X:List (List Mq.Q2)):List (List Int):=X.mapIdx λi row=>oZ X.length i row
theorem Vp(X:List (List Mq.Q2)):(kW X).length=X.length:=by unfold kW;simp
theorem xV(h:i < X.length):(kW X).getD i []=oZ X.length i (X.getD i []):=by
 unfold kW;rw[getD_eq_getElem?_getD,getElem?_mapIdx,getD_eq_getElem?_getD,getElem?_eq_getElem h];rfl
theorem zI{X:List (List Mq.Q2)}(h:i < X.length):X[i]?=some (X.getD i []):=by rw[getD_eq_getElem?_getD,getElem?_eq_getElem h];rfl
theorem Hv(m i:Nat)(row:List Mq.Q2):(oZ m i row).length=row.length+m:=by unfold oZ;simp[yW]
theorem Aa(b:gM X)(hw:∀row∈X,row.length=X.length)(hi:i < X.length)(c:x < X.length):Mq.at2 (kW X) i x=((fB (X.getD i []):Int):Rat)*tY X i x:=by
 let a:=mem_of_getElem? (zI hi);show ((((kW X).getD i []).getD x 0:Int):Rat)=_;rw[xV hi];unfold oZ;let l:=hw _ a;rw[getD_eq_getElem?_getD,getElem?_append_left (by rw[yW];lia),<- getD_eq_getElem?_getD];exact Ty (b _ a) ()
theorem xU(hw:∀row∈X,row.length=X.length)(hi:i < X.length)(b:k < X.length):ent (kW X) i (X.length+k)=if k=i then fB (X.getD i []) else 0:=by
 let a:=mem_of_getElem? (zI hi);unfold ent;rw[xV hi];unfold oZ;let l:=hw _ a;rw[getD_eq_getElem?_getD,getElem?_append_right (by rw[yW];lia),yW,l,Nat.add_sub_cancel_left,getElem?_map,getElem?_range b];rfl
theorem qc1(f:gM X)(hw:∀row∈X,row.length=X.length):Mq.LI X.length (tY X) (kW X) where
 lin:=λi x hi c=>by
  rw[Aa f hw hi c];have:(Mq.rs X.length λk=>Mq.at2 (kW X) i (X.length+k)*tY X k x)=Mq.rs X.length λk=>if k=i then ((fB (X.getD i []):Int):Rat)*tY X i x else 0:=aX λk b=>by
   show ((ent (kW X) i (X.length+k):Int):Rat)*_=_;rw[xU hw hi b]
   by_cases e:k=i
   .rw[if_pos e,if_pos e,e]
   .rw[if_neg e,if_neg e];simp
  rw[this,Mq.oN _ _ _ hi]
 ind:=λa d i hi=>by
  let e:=d i hi;have:(Mq.rs X.length λj=>a j*Mq.at2 (kW X) j (X.length+i))=Mq.rs X.length λj=>if j=i then a i*((fB (X.getD i []):Int):Rat) else 0:=aX λk b=>by
   show _*((ent (kW X) k (X.length+i):Int):Rat)=_;rw[xU hw b hi]
   by_cases e:k=i
   .rw[if_pos e,if_pos e.symm,e]
   .rw[if_neg e,if_neg (Ne.symm e)];simp
  rw[this,Mq.oN _ _ _ hi] at e;let g:=vS (f _ (mem_of_getElem? (zI hi)));let n:=dW (show fB (X.getD i [])≠0 by lia);grind
theorem qa1(h:∀i j,i < X.length->j < X.length->Mq.at2 R i j=((fB (X.getD i []):Int):Rat)*tY X i j):Mq.det X.length (Mq.at2 R)=((uW X:Int):Rat)*wgt X:=by
 unfold wgt;let a:=sS X X.length (Nat.le_refl _);rw[take_length] at a;rw[a,<- uJ];exact cX λi j hi hj=>h i j hi hj
theorem Sj(j:gM X)(i:Mq.det X.length (Mq.at2 R)=((uW X:Int):Rat)*wgt X)(h:SI X.length w (Mq.at2 R) R' r X.length d sg):(r < X.length/\wgt X=0)\/(r=X.length/\wgt X≠0):=by
 let b1:=Eg j X.length (Nat.le_refl _);rw[take_length] at b1;let f:=dW (show uW X≠0 by lia);let⟨A,c,B,e⟩:=h.bar;let g:=B.rm;let dn:=B.dne;clear B
 by_cases a:r < X.length
 .left
  let e:=h.lame a;rw[i] at e;exists a,by grind
 .right
  let b:r=X.length:=by lia
  subst b;exists 8,λz=>?_;let e:=h.whole;rw[i,z] at e;rcases h.one with q | q
  .rw[q] at e;simp at e;grind
  .rw[q,Rat.intCast_neg] at e;simp at e;grind
structure Stp(m w:Nat)(A0:Mat)(Pr:List (List Int)->Prop):Prop where
 sw:∀R r col d sg p,SI m w A0 R r col d sg->r < p->p < m->Pr R->Pr (gJ R p r)
 cl:∀R r col d sg,SI m w A0 R r col d sg->r < m->col < w->ent R r col≠0->Pr R->Pr (cN R r col d)
theorem qk0:Stp m w A0 (Mq.LI m Aq):=
 ⟨λR r col d a p s h1 h2 h=>h.swap s.len h2 (),λR r col d a s h1 h2 b h=>h.clear s h1 h2 b⟩
end Shp
namespace Mq
theorem Ub{row:List Q2}(h:j < row.length):row[j]?=some (row.getD j z0):=by rw[getD_eq_getElem?_getD,getElem?_eq_getElem h];rfl
end Mq
namespace Shp
open PySem L2
theorem Fmd.get:∀{xs:vk}{X:List (List Mq.Q2)}{i:Nat}{x:V},Fmd K H0 D H xs X->xs[i]?=some x->∃u ys ps,x=.ref u/\X[i]?=some ps/\H0 u=none/\u≠D/\H u=some (.lst ys)/\Fqs K H ys ps
 |_,_,0,_,.cons n0 n h f q,e=>by simp at e;exists _,_,_,e.symm,8,n0,n,h,f
 |_,_,i+1,_,.cons n0 n h f q,e=>by simp at e;exact q.get e
end Shp
namespace Mq
def KI(m:Nat)(A0:Mat)(R:List (List Int)):Prop:=∀Φ,Lin Φ->(∀k,k < m->Φ (at2 R k)=0)->∀i,i < m->Φ (A0 i)=0
theorem KI.swap(h:KI m A0 R)(f:R.length=m)(hp:p < m)(d:r < m):KI m A0 (gJ R p r):=λg a b=>by
 refine h g a λk c=>?_;let e:at2 R k=at2 (gJ R p r) (sw p r k):=by
  funext x
  rw[uB () (),Td]
 rw[e];exact b _ (Ec hp d c)
theorem KI.clear(h:KI m A1 R)(s:SI m w A0 R r col d sg)(l:r < m)(o:col < w)(n:ent R r col≠0):KI m A1 (cN R r col d):=λp a b=>by
 let dn:=s.dne;let j:at2 R r col≠0:=λz=>n (Rat.intCast_inj.mp (by unfold at2 at z;simpa using z));let cl:=λ(i:Nat)(hi:i < m)(x:Nat)=>vI s l o n hi x;let c:p (at2 R r)=0:=by
  let e:at2 R r=at2 (cN R r col d) r:=by funext x;rw[cl r l x,if_pos rfl]
  rw[e];exact b r l
 refine h p a λk f=>?_
 by_cases e:k=r
 .rw[e];exact c
 .let g:at2 R k=λx=>(λx=>((d:Rat) / at2 R r col)*at2 (cN R r col d) k x) x+(at2 R k col / at2 R r col)*at2 R r x:=by
   funext x
   show _=((d:Rat) / at2 R r col)*at2 (cN R r col d) k x+_;rw[cl k f x,if_neg e];grind
  rw[g,a,a.mul,b k f,c];grind
theorem KI.whole(h:KI m A1 R)(s:SI m w A0 R m m d sg)(hi:i < m):(rs m λk=>A1 i k*(at2 R k m / (d:Rat)))=A1 i m:=by
 let⟨A,c,B,e⟩:=s.bar;let dn:=B.dne;have:=h (λf=>(rs m λk=>f k*(at2 R k m / (d:Rat))) - f m) (λx y l=>by
  have:(rs m λk=>(x k+l*y k)*(at2 R k m / (d:Rat)))=(rs m λk=>x k*(at2 R k m / (d:Rat))+l*(y k*(at2 R k m / (d:Rat)))):=aX λk _=>by grind
  show (rs m λk=>(x k+l*y k)*(at2 R k m / (d:Rat))) - (x m+l*y m)=((rs m λk=>x k*(at2 R k m / (d:Rat))) - x m)+l*((rs m λk=>y k*(at2 R k m / (d:Rat))) - y m)
  rw[this,fE,gK];grind) (λk a=>by
  have:(rs m λj=>at2 R k j*(at2 R j m / (d:Rat)))=rs m λj=>if j=k then (d:Rat)*(at2 R k m / (d:Rat)) else 0:=aX λj b=>by
   let g:=B.i2 k j a b;rw[B.full rfl j b] at g;rw[g]
   by_cases z:j=k
   .rw[if_pos z,if_pos z,z]
   .rw[if_neg z,if_neg z];grind
  show (rs m λj=>at2 R k j*(at2 R j m / (d:Rat))) - at2 R k m=0;rw[this,oN m k _ a];grind) i hi
 let n:(rs m λk=>A1 i k*(at2 R k m / (d:Rat))) - A1 i m=0:=this;grind
end Mq
namespace Shp
open PySem L2
def nU(X:List (List Mq.Q2))(qs:List Mq.Q2):List (List Mq.Q2):=zipWith (λrow q=>row++[q]) X qs
def jA(X:List (List Mq.Q2))(qs:List Mq.Q2):List (List Int):=(nU X qs).map iw
section
variable {X:List (List Mq.Q2)} {qs:List Mq.Q2}
theorem rZ(a:qs.length=X.length):(nU X qs).length=X.length:=by unfold nU;simp[a]
theorem Gy(a:qs.length=X.length):(jA X qs).length=X.length:=by unfold jA;rw[length_map,rZ a]
theorem rY(a:qs.length=X.length)(hi:i < X.length):(nU X qs).getD i []=X.getD i []++[qs.getD i Mq.z0]:=by
 unfold nU;rw[getD_eq_getElem?_getD,getElem?_zipWith,zI hi,Mq.Ub (show i < qs.length by lia)];rfl
theorem wT(a:qs.length=X.length)(hi:i < X.length):(jA X qs).getD i []=iw (X.getD i []++[qs.getD i Mq.z0]):=by
 unfold jA;rw[getD_eq_getElem?_getD,getElem?_map,zI (X:=nU X qs) (by rw[rZ a];exact hi),rY a hi];rfl
theorem vC(a:gM X)(b:Mq.Pos qs)(c:qs.length=X.length)(hi:i < X.length):Mq.Pos (X.getD i []++[qs.getD i Mq.z0]):=λp hp=>by
 rcases mem_append.mp hp with z | z
 .exact a _ (mem_of_getElem? (zI hi)) p z
 .let e:p=qs.getD i Mq.z0:=by simpa using z
  rw[e];exact Mq.Rh b i
theorem Jh(d:gM X)(f:Mq.Pos qs)(c:qs.length=X.length):gM (nU X qs):=λrow a=>by
 let⟨i,hi,rfl⟩:=getElem_of_mem a;let hi':i < X.length:=by rw[rZ c] at hi;exact hi
 let e:=rY c hi';rw[getD_eq_getElem?_getD,getElem?_eq_getElem hi] at e;let b:(nU X qs)[i]=X.getD i []++[qs.getD i Mq.z0]:=e;rw[b];exact vC d f c hi'
theorem yC(b:gM X)(c:Mq.Pos qs)(a:qs.length=X.length)(hw:∀row∈X,row.length=X.length)(hi:i < X.length)(d:x < X.length+1):
  Mq.at2 (jA X qs) i x=((fB ((nU X qs).getD i []):Int):Rat)*if x < X.length then tY X i x else Mq.val (qs.getD i Mq.z0):=by
 let l:=hw _ (mem_of_getElem? (zI hi));show ((((jA X qs).getD i []).getD x 0:Int):Rat)=_;rw[wT a hi,rY a hi,Ty (vC b c a hi) (by rw[wq,l];simpa using d)];congr 1
 by_cases h:x < X.length
 .rw[if_pos h,getD_eq_getElem?_getD,getElem?_append_left (by rw[l];exact h),<- getD_eq_getElem?_getD];rfl
 .let ex:x=X.length:=by lia
  rw[if_neg h,getD_eq_getElem?_getD,getElem?_append_right (by rw[l];lia),l,ex,Nat.sub_self];rfl
theorem Yv(d:gM X)(e:Mq.Pos qs)(c:qs.length=X.length)(hw:∀row∈X,row.length=X.length):Mq.det X.length (Mq.at2 (jA X qs))=((uW (nU X qs):Int):Rat)*wgt X:=by
 unfold wgt;let a:=sS (nU X qs) (nU X qs).length (Nat.le_refl _);rw[take_length,rZ c] at a;rw[a,<- uJ];refine cX λi j hi b=>?_;rw[yC d e c hw hi (),if_pos b];rfl
theorem Ou(fn:f≠0)(i:Mq.det X.length (Mq.at2 R)=f*wgt X)(h:SI X.length w (Mq.at2 R) R' r X.length d sg):(r < X.length/\wgt X=0)\/(r=X.length/\wgt X≠0):=by
 let⟨A,c,B,e⟩:=h.bar;let g:=B.rm;let dn:=B.dne;clear B
 by_cases a:r < X.length
 .left
  let e:=h.lame a;rw[i] at e;exists a,by grind
 .right
  let b:r=X.length:=by lia
  subst b;exists 8,λz=>?_;let e:=h.whole;rw[i,z] at e;rcases h.one with q | q
  .rw[q] at e;simp at e;grind
  .rw[q,Rat.intCast_neg] at e;simp at e;grind
theorem Tk(a:gM X)(b:Mq.Pos qs)(c:qs.length=X.length)(hw:∀row∈X,row.length=X.length)(h:SI X.length w (Mq.at2 (jA X qs)) R' r X.length d sg):(r < X.length/\wgt X=0)\/(r=X.length/\wgt X≠0):=by
 let b1:=Eg (Jh a b c) (nU X qs).length (Nat.le_refl _);rw[take_length] at b1;exact Ou (dW (show uW (nU X qs)≠0 by lia)) (Yv a b c hw) h
end
structure Slv(X:List (List Mq.Q2))(qs ps:List Mq.Q2):Prop where
 len:ps.length=X.length
 low:dP ps
 bd:∀p∈ps,Mq.Bd 9000 p
 sum:∀i,i < X.length->(Mq.rs X.length λj=>tY X i j*Mq.val (ps.getD j Mq.z0))=Mq.val (qs.getD i Mq.z0)
theorem ql3(f:gM X)(l:Mq.Pos qs)(c:qs.length=X.length)(hw:∀row∈X,row.length=X.length)(h:Mq.KI X.length (Mq.at2 (jA X qs)) R)(s:SI X.length w (Mq.at2 (jA X qs)) R X.length X.length d sg)(hi:i < X.length):(Mq.rs X.length λj=>tY X i j*(Mq.at2 R j X.length / (d:Rat)))=Mq.val (qs.getD i Mq.z0):=by
 let e:=h.whole s hi;rw[yC f l c hw hi (),if_neg ()] at e;let a:(Mq.rs X.length λk=>Mq.at2 (jA X qs) i k*(Mq.at2 R k X.length / (d:Rat)))=((fB ((nU X qs).getD i []):Int):Rat)*Mq.rs X.length λk=>tY X i k*(Mq.at2 R k X.length / (d:Rat)):=by
  rw[<- gK];refine aX λk b=>?_;rw[yC f l c hw hi (),if_pos b];grind
 rw[a] at e;let g:=vS (vC f l c hi);let n:=dW (show fB ((nU X qs).getD i [])≠0 by rw[rY c hi];lia);grind
end Shp
namespace Mq
def Wb(n:Nat)(x:Rat):Prop:=∃z:Int,x=(z:Rat)/\B n z
theorem Wb.mono(h:Wb n x)(l:n<=m):Wb m x:=by let⟨z,e,b⟩:=h;exists z,e,b.mono l
theorem Wb.mul(h:Wb n x)(k:Wb m y):Wb (n+m) (x*y):=by
 let⟨a,rfl,b⟩:=h;let⟨c,rfl,d⟩:=k;exists a*c,by rw[Rat.intCast_mul],b.mul d
theorem Wb.sub(h:Wb n x)(k:Wb n y):Wb (n+1) (x - y):=by
 let⟨a,rfl,b⟩:=h;let⟨c,rfl,d⟩:=k;exists a - c,by rw[Rat.intCast_sub],b.sub d
theorem Wb.neg(h:Wb n x):Wb n (-x):=by
 let⟨a,rfl,b⟩:=h;exists -a,by rw[Rat.intCast_neg],b.neg
theorem Wb.zero(n:Nat):Wb n 0:=⟨0,⋯,Nat.two_pow_pos _⟩
theorem Wb.one:Wb 1 1:=⟨1,⋯,show (1:Nat) < 2 ^ 1 by decide⟩
theorem Wb.sgn(h:Wb n x)(k:Nat):Wb n (Mq.sgn k*x):=by
 unfold Mq.sgn;split
 .rw[show (1:Rat)*x=x by grind];exact h
 .rw[show (-1:Rat)*x=-x by grind];exact h.neg
theorem qe1:∀K,(∀k,k < K->Wb n (f k))->∃z:Int,rs K f=(z:Rat)/\z.natAbs+K<=K*2 ^ n
 |0,_=>⟨0,by simp only[rs];simp,⋯⟩
 |K+1,h=>by
  let⟨z,e,b⟩:=qe1 K λk c=>h k ();let⟨y,a,b2⟩:=h K ();exists z+y,by simp only[rs];rw[e,a,Rat.intCast_add],?_;have:y.natAbs < 2 ^ n:=b2;rw[Nat.succ_mul];lia
def SB(n m:Nat)(R:List (List Int))(r col:Nat)(d:Int):Prop:=∃A c,Bar m A (at2 R) r col (d:Rat) c/\∀i x,i < m->Wb n (A i x)
theorem SB.start(a:BdR n R):SB n m R 0 0 1:=
 ⟨at2 R,id,by
  have:=Bar.start (m:=m) (A:=at2 R) λi j=>⟨9⟩
  simpa using this,λi x _=>⟨ent R i x,8,a i x⟩⟩
theorem SB.skip(h:SB n m R r col d)(a:∀i,r<=i->i < m->ent R i col=0):SB n m R r (col+1) d:=by
 let⟨A,c,B,q⟩:=h;exists A,c,B.skip λi h1 h2=>by unfold at2;rw[a i h1 h2];simp,q
theorem SB.swap(h:SB n m R r col d)(s:SI m w A0 R r col d sg)(hp:r < p)(hm:p < m):SB n m (gJ R p r) r col d:=by
 let⟨A,c,B,q⟩:=h;let a:=s.len;exists _,c,(B.swap () hm).congr λi hi=>?_,λi x hi=>q _ x (Ec hm () hi)
 funext x
 rw[uB () ()]
theorem SB.clear(h:SB n m R r col d)(s:SI m w A0 R r col d sg)(b:r < m)(g:col < w)(f:ent R r col≠0):SB n m (cN R r col d) (r+1) (col+1) (ent R r col):=by
 let⟨A,c,B,q⟩:=h;let a:at2 R r col≠0:=λz=>f (Rat.intCast_inj.mp (by unfold at2 at z;simpa using z));exists A,_,(B.clear b a).congr λi hi=>?_,q
 funext x
 rw[vI s b g f hi x];unfold clr
 by_cases e:i=r
 .rw[if_pos e,if_pos e,e]
 .rw[if_neg e,if_neg e]
end Mq
namespace Shp
open PySem L2
abbrev bq(n m:Nat):Nat:=(n+4)*(m+1)+7
end Shp
namespace L2
open PySem PyProof.Rows
theorem aK.calm{K:Frag}(F:aK P w K mg base (CX1 P w) k f fd ps sp):
  aK P w K mg base CX0 k f fd ps (λvs H Q _=>sp vs H Q (λ_ _ _=>False)):=
 ⟨λvs H Q E q=>F.len vs H Q _ q,λA b s H c g vs Q E i j l m hs=>codeAny_mono (F.run A b s H c g vs Q _ i j l m hs) λr s' h=>by
  cases r with
  |ok fl=>cases fl<;>exact h
  |error e=>
   let⟨a,C,d,H',_,_,_,_,_,_,z⟩:=h;exact z.elim⟩
open PySem.Spec
theorem aK.weak{K:Frag}(F:aK P w K mg base CX k f fd ps sp)(h:∀vs H Q E,sp' vs H Q E->sp vs H Q E):aK P w K mg base CX k f fd ps sp':=
 ⟨λvs H Q E q=>F.len vs H Q E (h _ _ _ _ q),λA a s H b c vs Q E d e g i hs=>F.run A a s H b c vs Q E d e g i (h _ _ _ _ hs)⟩
abbrev cO(m i j:Int):Prop:=0<=i/\i < m/\0<=j/\j < m
inductive Zv(K:Frag)(H:Hp):V->Option Mq.Q2->Prop where
 |fr {u:Addr} {p:Mq.Q2} (h:Fq K H u p) (l:Mq.Low p):Zv K H (.ref u) (some p)
 |ty {v:V} {t:Value} (h:TyQ K H v t) (n:W.kitOne K t (.type "tuple")=some false):Zv K H v none
 |len {u:Addr} {x y z:V} (h:SqT K H u [x,y,z]):Zv K H (.ref u) none
 |n0 {u:Addr} {x y:V} {t:Value} (h:SqT K H u [x,y]) (ty:lW K H x t) (n:wS t):Zv K H (.ref u) none
 |n1 {u:Addr} {i:Int} {y:V} {t:Value} (h:SqT K H u [.int i,y]) (ty:lW K H y t) (n:wS t):Zv K H (.ref u) none
 |fb {u:Addr} {p:Mq.Q2} (h:Fq K H u p) (c:p.2 < 1\/(1<=p.2/\gc p.1 p.2≠1)):Zv K H (.ref u) none
abbrev Bz(o:Option Mq.Q2):Prop:=∀p,o=some p->Mq.Bd 1000 p
inductive Jn(K:Frag)(vs:vk)(H:Hp)(Q:VK)(E:XK):Prop where
 |mk (v:V) (o:Option Mq.Q2):vs=[v]->Zv K H v o->Q (.bl o.isSome) H->Jn K vs H Q E
inductive gZ(CK:Kd->Addr)(K:Frag)(H:Hp):vk->List RD->Prop where
 |nil:gZ CK K H [] []
 |cons {x z:Addr} {k:Kd} {i j:Int} {p:Mq.Q2} {xs:vk} {ds:List RD} (h:Rw CK H x k (.int i) (.int j) (.ref z)) (f:Fq K H z p) (q:gZ CK K H xs ds):gZ CK K H (.ref x :: xs) ((k,i,j,p) :: ds)
section
variable {CK:Kd->Addr} {K:Frag} {H H':Hp}
theorem gZ.same(e:aS H H'):∀{xs:vk}{ds:List RD},gZ CK K H xs ds->gZ CK K H' xs ds
 |_,_,.nil=>.nil
 |_,_,.cons h f q=>.cons (h.same e) (e.fq f) (gZ.same e q)
theorem gZ.length:∀{xs:vk}{ds:List RD},gZ CK K H xs ds->xs.length=ds.length
 |_,_,.nil=>rfl
 |_,_,.cons _ _ q=>by simp[gZ.length q]
theorem gZ.app:∀{xs ys:vk}{ds es:List RD},gZ CK K H xs ds->gZ CK K H ys es->gZ CK K H (xs++ys) (ds++es)
 |_,_,_,_,.nil,r=>r
 |_,_,_,_,.cons h f q,r=>.cons h f (gZ.app q r)
theorem gZ.at:∀{xs:vk}{ds:List RD}{q:Nat}{d:RD},gZ CK K H xs ds->ds[q]?=some d->∃x z,xs[q]?=some (.ref x)/\Rw CK H x d.1 (.int d.2.1) (.int d.2.2.1) (.ref z)/\Fq K H z d.2.2.2
 |_,_,_,_,.nil,h=>by simp at h
 |_,_,0,_,.cons h f _,e=>by simp at e;subst e;exists _,9,h,f
 |_,_,i+1,_,.cons _ _ q,e=>by simpa using gZ.at q (by simpa using e)
theorem gZ.upd(a:H l=some (.lst ys)):∀{xs:vk}{ds:List RD},gZ CK K H xs ds->gZ CK K (L2.upd H l o) xs ds
 |_,_,.nil=>.nil
 |_,_,.cons (h:=h) f q=>by
  let⟨dx,e⟩:=h;exact .cons ⟨dx,by rw[aQ (gV e a (λz=>by cases z))];exact e⟩ (f.upd a) (gZ.upd a q)
end
inductive kI(CN:Addr)(K:Frag)(CK:Kd->Addr)(vs:vk)(H:Hp)(Q:VK)(E:XK):Prop where
 |mk (n l:Addr) (m:Int) (ds:List RD):vs=[.ref n]->dB CN K H n l m ds->ds.length<=100->(∀a xs H',aS H H'->H a=none->H' a=some (.lst xs)->gZ CK K H' xs ds->Q (.ref a) H')->kI CN K CK vs H Q E
end L2
namespace Mq
inductive Wt:List Q2->Nat->Prop where
 |nil:Wt [] 0
 |cons {p:Q2} {ps:List Q2} {n w:Nat} (h:Bd n p) (q:Wt ps w):Wt (p :: ps) (n+1+w)
theorem Wt.at:∀{ps:List Q2}{w i:Nat}{p:Q2},Wt ps w->ps[i]?=some p->∃f n,Wt (ps.take i) f/\Bd n p/\f + n+1<=w
 |_,_,_,_,.nil,h=>by simp at h
 |_,_,0,_,.cons (n:=n) h q,e=>by
  simp at e;subst e;exists 0,n,.nil,h,6
 |_,_,i+1,_,.cons (n:=n) h q,e=>by
  let⟨f,d,a,b,c⟩:=Wt.at q (by simpa using e);exists n+1+f,d,.cons h a,b,6
theorem Wt.fold:∀{ps:List Q2}{w k:Nat}{p:Q2},Wt ps w->Pos ps->1<=p.2->Bd k p->Bd (k+w) (ps.foldl plus p)
 |_,_,_,_,.nil,_,_,h=>h
 |_,_,k,p,.cons (p:=q) (n:=n) (w:=w) h r,hp,p1,b=>by
  let a:=hp q ⋯;have:=Wt.fold r (λx c=>hp x (mem_cons_of_mem _ c)) (iW p1 a).pos (Bs b h p1 a);exact this.mono ()
theorem Wt.tot(h:Wt ps w)(hp:Pos ps):Bd (1+w) (tot ps):=h.fold hp ∅ ⟨show (0:Nat) < 2 ^ 1 by decide,show (1:Nat) < 2 ^ 1 by decide⟩
end Mq
namespace L2
open PySem PySem.Spec PyProof.Rows
abbrev RE:=RD × Mq.Q2
def flF(hp:List Mq.Q2)(d:RD):Mq.Q2:=Mq.minus (hp.getD d.2.1.toNat (0,1)) (hp.getD d.2.2.1.toNat (0,1))
def gH(e:RE):Mq.Q2:=mU e.1.2.2.2 e.2
def gP(hp:List Mq.Q2)(d:RD):Mq.Q2:=mU d.2.2.2 (flF hp d)
def pJ(k:Kd)(l:List RE):List RE:=l.filter λe=>decide (e.1.1=k)
def fP(k:Kd)(l:List RD):List RD:=l.filter λd=>decide (d.1=k)
def qs8(hp:List Mq.Q2)(ds:List RD):Mq.Q2:=Mq.minus (0,1) (tot ((fP .pu ds).map (gP hp)))
theorem Bk(k:Kd)(l:List RE)(e:RE):pJ k (l++[e])=if e.1.1=k then pJ k l++[e] else pJ k l:=by
 unfold pJ;rw[filter_append]
 by_cases h:e.1.1=k
 .rw[if_pos h];simp[h]
 .rw[if_neg h];simp[h]
theorem tJ(k:Kd)(l:List RD)(e:RD):fP k (l++[e])=if e.1=k then fP k l++[e] else fP k l:=by
 unfold fP;rw[filter_append]
 by_cases h:e.1=k
 .rw[if_pos h];simp[h]
 .rw[if_neg h];simp[h]
inductive Rss(CK:Kd->Addr)(K:Frag)(H:Hp):vk->List RE->Prop where
 |nil:Rss CK K H [] []
 |cons {t x z s:Addr} {k:Kd} {i j:Int} {p q:Mq.Q2} {xs:vk} {es:List RE} (ht:SqT K H t [.ref x,.ref s]) (h:Rw CK H x k (.int i) (.int j) (.ref z)) (f:Fq K H z p) (fs:Fq K H s q) (r:Rss CK K H xs es):Rss CK K H (.ref t :: xs) (((k,i,j,p),q) :: es)
section
variable {CK:Kd->Addr} {K:Frag} {H H':Hp}
theorem Rss.same(e:aS H H'):∀{xs:vk}{es:List RE},Rss CK K H xs es->Rss CK K H' xs es
 |_,_,.nil=>.nil
 |_,_,.cons ht h f fs r=>.cons (e.seqT ht) (h.same e) (e.fq f) (e.fq fs) (Rss.same e r)
theorem Rss.length:∀{xs:vk}{es:List RE},Rss CK K H xs es->xs.length=es.length
 |_,_,.nil=>rfl
 |_,_,.cons _ _ _ _ r=>by simp[Rss.length r]
theorem Rss.app:∀{xs ys:vk}{es fs:List RE},Rss CK K H xs es->Rss CK K H ys fs->Rss CK K H (xs++ys) (es++fs)
 |_,_,_,_,.nil,r=>r
 |_,_,_,_,.cons a b c d q,r=>.cons a b c d (Rss.app q r)
theorem Rss.get:∀{xs:vk}{es:List RE}{i:Nat}{x:V},Rss CK K H xs es->xs[i]?=some x->∃(t y z s:Addr)(e:RE),x=.ref t/\es[i]?=some e/\SqT K H t [.ref y,.ref s]/\Rw CK H y e.1.1 (.int e.1.2.1) (.int e.1.2.2.1) (.ref z)/\Fq K H z e.1.2.2.2/\Fq K H s e.2
 |_,_,_,_,.nil,h=>by simp at h
 |_,_,0,_,.cons ht h f fs _,e=>by simp at e;exists _,_,_,_,_,e.symm,8,ht,h,f,fs
 |_,_,i+1,_,.cons _ _ _ _ r,e=>by simpa using Rss.get r (by simpa using e)
theorem Rss.upd(a:H l=some (.lst ys)):∀{xs:vk}{es:List RE},Rss CK K H xs es->Rss CK K (L2.upd H l o) xs es
 |_,_,.nil=>.nil
 |_,_,.cons ht h f fs r=>.cons (ht.upd a) (h.upd a) (SqT.upd f a) (SqT.upd fs a) (Rss.upd a r)
end
inductive Co(K:Frag)(vs:vk)(H:Hp)(Q:VK)(E:XK):Prop where
 |mk (a b:Addr) (p q:Mq.Q2) (n m:Nat):vs=[.ref a,.ref b]->Fq K H a p->Fq K H b q->1<=p.2->1<=q.2->0 < q.1->Mq.Bd n p->Mq.Bd m q->n+m+1<=9000->mH H Q (rE p q)->Co K vs H Q E
inductive tK(CN:Addr)(K:Frag)(CK:Kd->Addr)(vs:vk)(H:Hp)(Q:VK)(E:XK):Prop where
 |mk (n l:Addr) (m:Int) (ds:List RD) (k:Kd):vs=[.ref n,.str k.wd]->dB CN K H n l m ds->ds.length<=100->(∀a xs H',aS H H'->H' a=some (.lst xs)->gZ CK K H' xs (fP k ds)->Q (.ref a) H')->tK CN K CK vs H Q E
section
variable {m n:Nat} {hp:List Mq.Q2} {d:RD} {e:RE}
theorem lQ{ps:List Mq.Q2}(h:j < ps.length):ps[j]?=some (ps.getD j (0,1)):=by rw[getD_eq_getElem?_getD,getElem?_eq_getElem h];rfl
theorem qr4(g:∀s∈hp,Mq.Low s/\Mq.Bd B s)(i:hp.length=m)(h:cO (m:Int) d.2.1 d.2.2.1):Mq.Low (flF hp d)/\Mq.Bd (2*B+1) (flF hp d):=by
 let⟨c,i1,e,f⟩:=h;let a:=g _ (mem_of_getElem? (lQ (ps:=hp) (j:=d.2.1.toNat) ()));let b:=g _ (mem_of_getElem? (lQ (ps:=hp) (j:=d.2.2.1.toNat) ()));exists Mq.cH a.1.pos b.1.pos,(rX a.2 b.2 a.1.pos b.1.pos).mono ()
theorem qu9(h1:Mq.Low d.2.2.2)(b1:Mq.Bd A d.2.2.2)(h2:Mq.Low (flF hp d))(b2:Mq.Bd F (flF hp d)):Mq.Low (gP hp d)/\Mq.Bd (A+F) (gP hp d):=⟨lK h1.pos h2.pos,Fw b1 b2 h1.pos h2.pos⟩
end
theorem Gu(h:e∈pJ k l):e∈l/\e.1.1=k:=by
 let⟨a,b⟩:=mem_filter.mp h;exists a,of_decide_eq_true b
theorem Gs(h:e∈fP k l):e∈l/\e.1=k:=by
 let⟨a,b⟩:=mem_filter.mp h;exists a,of_decide_eq_true b
theorem Xe{α:Type}{l:List α}{g:α->Mq.Q2}(h:∀x∈l,Mq.Low (g x)):Mq.Pos (l.map g):=λp hp=>by
 let⟨x,a,rfl⟩:=mem_map.mp hp;exact(h x a).pos
def rzl(ps:List Mq.Q2)(j:Nat)(a:Mq.Q2):List Mq.Q2:=ps.set j (Mq.plus (ps.getD j (0,1)) a)
def kQ(M:List (List Mq.Q2))(i j:Nat):Mq.Q2:=(M.getD i []).getD j (0,1)
def rz(M:List (List Mq.Q2))(i j:Nat)(a:Mq.Q2):List (List Mq.Q2):=M.set i (rzl (M.getD i []) j a)
structure MxB(M:List (List Mq.Q2))(h w n:Nat):Prop where
 h:M.length=h
 w:∀ps∈M,ps.length=w
 l:∀ps∈M,∀p∈ps,Mq.Low p/\Mq.Bd n p
theorem MxB.mono{h w n c:Nat}(b:MxB M h w n)(le:n<=c):MxB M h w c:=⟨b.h,b.w,λps hp p a=>⟨(b.l ps hp p a).1,(b.l ps hp p a).2.mono le⟩⟩
theorem MxB.row{h w n i:Nat}(b:MxB M h w n)(hi:i < h):M[i]?=some (M.getD i [])/\M.getD i []∈M/\(M.getD i []).length=w:=by
 let a:i < M.length:=by rw[b.h];exact hi
 let e:M.getD i []=M[i]:=by rw[getD_eq_getElem?_getD,getElem?_eq_getElem a];rfl
 rw[e];exists getElem?_eq_getElem a,getElem_mem a,b.w _ (getElem_mem a)
theorem MxB.at{h w n i j:Nat}(b:MxB M h w n)(hi:i < h)(c:j < w):(M.getD i [])[j]?=some (kQ M i j)/\Mq.Low (kQ M i j)/\Mq.Bd n (kQ M i j):=by
 let⟨e,m,l⟩:=b.row hi;let a:j < (M.getD i []).length:=by rw[l];exact c
 have:=lQ a;exists this,b.l _ m _ (mem_of_getElem? this)
theorem MxB.rz{h w n k i j:Nat}(b:MxB M h w n)(hi:i < h)(o:j < w)(g:Mq.Low a)(q:Mq.Bd k a):MxB (L2.rz M i j a) h w (n+k+1):=by
 let⟨e,m,l⟩:=b.row hi;let⟨f,d,b2⟩:=b.at hi o;exists by unfold L2.rz;rw[length_set];exact b.h,λps hp=>?_,λps hp p c=>?_
 .rcases mem_or_eq_of_mem_set hp with z | z
  .exact b.w ps z
  .rw[z];unfold rzl;rw[length_set];exact l
 .rcases mem_or_eq_of_mem_set hp with z | z
  .have:=b.l ps z p c;exists this.1,this.2.mono ()
  .rw[z] at c;unfold rzl at c;rcases mem_or_eq_of_mem_set c with y | y
   .have:=b.l _ m p y;exists this.1,this.2.mono ()
   .rw[y];exists Mq.iW d.pos g.pos,Bs b2 q d.pos g.pos
theorem Cm(b:MxB M h w n)(hi:i < h)(q:j < w)(r:Mq.Low a)(x y:Nat):Mq.val (kQ (L2.rz M i j a) x y)=Mq.val (kQ M x y)+if i=x/\j=y then Mq.val a else 0:=by
 let⟨e,m,l⟩:=b.row hi;let⟨p,k,b2⟩:=b.at hi q;let o:i < M.length:=by rw[b.h];exact hi
 unfold kQ L2.rz
 by_cases c:i=x
 .subst c;let f:(M.set i (rzl (M.getD i []) j a)).getD i []=rzl (M.getD i []) j a:=by rw[getD_eq_getElem?_getD,getElem?_set,if_pos rfl,if_pos o];rfl
  rw[f];unfold rzl
  by_cases d:j=y
  .subst d;let g:((M.getD i []).set j (Mq.plus ((M.getD i []).getD j (0,1)) a)).getD j (0,1)=Mq.plus ((M.getD i []).getD j (0,1)) a:=by rw[getD_eq_getElem?_getD,getElem?_set,if_pos rfl,if_pos (by rw[l];exact q)];rfl
   rw[g,if_pos ⟨8,8⟩];exact Mq.iF k.pos r.pos
  .let g:((M.getD i []).set j (Mq.plus ((M.getD i []).getD j (0,1)) a)).getD y (0,1)=(M.getD i []).getD y (0,1):=by rw[getD_eq_getElem?_getD,getElem?_set,if_neg d,<- getD_eq_getElem?_getD]
   rw[g,if_neg (λz=>d z.2),Rat.add_zero]
 .let f:(M.set i (rzl (M.getD i []) j a)).getD x []=M.getD x []:=by rw[getD_eq_getElem?_getD,getElem?_set,if_neg c,<- getD_eq_getElem?_getD]
  rw[f,if_neg (λz=>c z.1),Rat.add_zero]
structure LnB(R:List Mq.Q2)(w n:Nat):Prop where
 w:R.length=w
 l:∀p∈R,Mq.Low p/\Mq.Bd n p
theorem LnB.mono{w n a:Nat}(b:LnB R w n)(le:n<=a):LnB R w a:=⟨b.w,λp hp=>⟨(b.l p hp).1,(b.l p hp).2.mono le⟩⟩
theorem LnB.at{w n j:Nat}(b:LnB R w n)(c:j < w):R[j]?=some (R.getD j (0,1))/\Mq.Low (R.getD j (0,1))/\Mq.Bd n (R.getD j (0,1)):=by
 let a:j < R.length:=by rw[b.w];exact c
 have:=lQ a;exists this,b.l _ (mem_of_getElem? this)
theorem LnB.set{w n j:Nat}(b:LnB R w n)(a:Mq.Low q)(bq:Mq.Bd n q):LnB (R.set j q) w n:=⟨by rw[length_set];exact b.w,λp hp=>by
 rcases mem_or_eq_of_mem_set hp with z | z
 .exact b.l p z
 .rw[z];exact⟨a,bq⟩⟩
theorem LnB.rz{w n k j:Nat}(b:LnB R w n)(e:j < w)(c:Mq.Low a)(f:Mq.Bd k a):LnB (rzl R j a) w (n+k+1):=by
 let⟨_,d,b2⟩:=b.at e;exact(b.mono ()).set (Mq.iW d.pos c.pos) (Bs b2 f d.pos c.pos)
theorem Bj{R:List Mq.Q2}(a:j < R.length):(R.set j q).getD y (0,1)=if j=y then q else R.getD y (0,1):=by
 rw[getD_eq_getElem?_getD,getElem?_set]
 by_cases e:j=y
 .rw[if_pos e,if_pos e,if_pos ()];rfl
 .rw[if_neg e,if_neg e,<- getD_eq_getElem?_getD]
theorem Lw(b:LnB R w n)(e:j < w)(f:Mq.Low a)(y:Nat):Mq.val ((rzl R j a).getD y (0,1))=Mq.val (R.getD y (0,1))+if j=y then Mq.val a else 0:=by
 let⟨_,c,b2⟩:=b.at e;unfold rzl;rw[Bj (by rw[b.w];exact e)]
 by_cases d:j=y
 .subst d;rw[if_pos rfl,if_pos rfl];exact Mq.iF c.pos f.pos
 .rw[if_neg d,if_neg d,Rat.add_zero]
def SX(as:List Addr)(H H':Hp):Prop:=∀b o,H b=some o->b∉as->H' b=some o
theorem aS.sx(s:aS H H'):SX as H H':=λb o e _=>s b o e
theorem SX.trans(a:SX as H H1)(b:SX as H1 H2):SX as H H2:=λc o h n=>b c o (a c o h n) n
theorem SX.write(a:SX as H H1)(b:l∈as):SX as H (upd H1 l o):=λc u h n=>by rw[aQ (λz=>n (by rw[z];exact b))];exact a c u h n
theorem SX.mono(a:SX as H H')(h:∀x∈as,x∈bs):SX bs H H':=λc o e n=>a c o e λz=>n (h c z)
theorem SX.same(s:aS H0 H)(a:SX as H H')(h:∀x∈as,H0 x=none):aS H0 H':=λc o e=>a c o (s c o e) λz=>by rw[h c z] at e;cases e
def Ku(as:List Addr)(H:Hp):Prop:=∀a∈as,∃xs,H a=some (.lst xs)
theorem SX.seqT{K:Frag}(d:Ku as H)(e:SX as H H')(h:SqT K H a xs):SqT K H' a xs:=by
 let b:∀{o:HO},H a=some o->(∀ys,o≠.lst ys)->a∉as:=λho n z=>by
  let⟨ys,c⟩:=d a z;rw[c] at ho;exact n ys (Option.some.inj ho).symm
 rcases h with (h | ⟨u,h⟩) | h
 .exact .inl (.inl (e _ _ h (b h λys z=>by cases z)))
 .exact .inl (.inr ⟨u,e _ _ h (b h λys z=>by cases z)⟩)
 .exact .inr h
theorem SX.rw(a:Ku as H)(e:SX as H H')(h:Rw CK H x k s g z):Rw CK H' x k s g z:=by
 let⟨dx,q⟩:=h;exists dx,e _ _ q λy=>?_;let⟨ys,b⟩:=a x y;rw[b] at q;cases q
theorem SX.fqs{K:Frag}(a:Ku as H)(e:SX as H H'):∀{xs:vk}{ps:List Mq.Q2},Fqs K H xs ps->Fqs K H' xs ps
 |_,_,.nil=>.nil
 |_,_,.cons f q=>.cons (e.seqT a f) (SX.fqs a e q)
structure Mx(K:Frag)(H:Hp)(D:Addr)(as:List Addr)(M:List (List Mq.Q2)):Prop where
 d:H D=some (.lst (as.map V.ref))
 n:as.Nodup
 nd:D∉as
 la:as.length=M.length
 r:∀(i:Nat)(a:Addr)(ps:List Mq.Q2),as[i]?=some a->M[i]?=some ps->∃xs,H a=some (.lst xs)/\Fqs K H xs ps
theorem Mx.lsts{K:Frag}(m:Mx K H D as M):Ku as H:=λa c=>by
 let⟨i,hi⟩:=getElem?_of_mem c;let d:=(wk.mp hi).1;let b:i < M.length:=by rw[<- m.la];exact d
 let⟨xs,h,_⟩:=m.r i a M[i] hi (getElem?_eq_getElem b);exists xs,h
theorem Mx.same{K:Frag}(s:aS H H')(m:Mx K H D as M):Mx K H' D as M:=⟨s _ _ m.d,m.n,m.nd,m.la,λi a ps h1 h2=>by
 let⟨xs,h,f⟩:=m.r i a ps h1 h2;exact⟨xs,s _ _ h,f.same s⟩⟩
theorem Mx.other{K:Frag}(m:Mx K H D as M)(b:H l=some (.lst ys))(n1:l≠D)(c:l∉as):Mx K (upd H l o) D as M:=⟨by rw[aQ (Ne.symm n1)];exact m.d,m.n,m.nd,m.la,λi a ps h1 h2=>by
 let⟨xs,h,f⟩:=m.r i a ps h1 h2;exact⟨xs,by rw[aQ (λz=>c (by rw[<- z];exact mem_of_getElem? h1))];exact h,f.upd b⟩⟩
theorem Mx.set{K:Frag}(m:Mx K H D as M)(u:as[i]?=some a)(hp:M[i]?=some ps)(w:H a=some (.lst xs))(x:Fqs K H xs ps)(s:aS H H1)(y:Fq K H1 v q):Mx K (upd H1 a (.lst (xs.set j (.ref v)))) D as (M.set i (ps.set j q))/\SX as H (upd H1 a (.lst (xs.set j (.ref v)))):=by
 let e:=mem_of_getElem? u;let hx1:=s _ _ w;let f:=(wk.mp u).1;exists ⟨7,m.n,m.nd,by rw[length_set];exact m.la,λk b qs h1 h2=>?_⟩,s.sx.write e
 .rw[aQ (λz=>m.nd (by rw[z];exact e))];exact s _ _ m.d
 .rw[getElem?_set] at h2
  by_cases c:i=k
  .subst c;rw[u] at h1;let h1:a=b:=Option.some.inj h1;subst h1;rw[if_pos rfl] at h2;split at h2
   .let h2:ps.set j q=qs:=Option.some.inj h2;rw[<- h2];exists _,aB,(Fqs.set y j (x.same s)).upd hx1
   .cases h2
  .rw[if_neg c] at h2;let⟨ys,g,h⟩:=m.r k b qs h1 h2;let l:b≠a:=λz=>by
    subst z;let o:=(wk.mp h1).1;let p:as[i]'f=b:=(wk.mp u).2;let t:as[k]'o=b:=(wk.mp h1).2;exact c ((getElem_inj m.n).mp (p.trans t.symm))
   exists ys,by rw[aQ l];exact s _ _ g,(h.same s).upd hx1
def cT(k:Kd):Nat:=if k=.ho then 1 else 0
def en(M:List (List Mq.Q2))(d:RD)(c:Nat)(a:Mq.Q2):List (List Mq.Q2):=rz (rz M d.2.1.toNat c a) d.2.2.1.toNat c (Mq.minus (0,1) a)
def dl(s g x:Nat):Rat:=(if s=x then 1 else 0) - (if g=x then 1 else 0)
def cM(d:RD)(h x y:Nat):Rat:=match d.1 with
 | .pc=>dl d.2.1.toNat d.2.2.1.toNat x*dl d.2.1.toNat d.2.2.1.toNat y*(1 / Mq.val d.2.2.2)
 | .pu=>0
 | .ho=>dl d.2.1.toNat d.2.2.1.toNat x*(if h=y then 1 else 0)+(if h=x then 1 else 0)*dl d.2.1.toNat d.2.2.1.toNat y
def cR(d:RD)(h x:Nat):Rat:=match d.1 with
 | .pc=>0
 | .pu=>- dl d.2.1.toNat d.2.2.1.toNat x*Mq.val d.2.2.2
 | .ho=>if h=x then Mq.val d.2.2.2 else 0
def eqM:Nat->List RD->Nat->Nat->Rat
 |_,[],_,_=>0
 |h,d :: ds,x,y=>cM d h x y+eqM (h+cT d.1) ds x y
def eqR:Nat->List RD->Nat->Rat
 |_,[],_=>0
 |h,d :: ds,x=>cR d h x+eqR (h+cT d.1) ds x
def bZ(ds:List RD):Nat:=(fP .ho ds).length
theorem iK(ds:List RD)(d:RD):bZ (ds++[d])=bZ ds+cT d.1:=by
 unfold bZ cT;rw[tJ];split
 .rw[wq];rfl
 .rfl
theorem gO(d:RD)(ds:List RD):bZ (d :: ds)=cT d.1+bZ ds:=by
 unfold bZ cT fP
 by_cases h:d.1=.ho
 .rw[filter_cons_of_pos (by exact decide_eq_true h),if_pos h,length_cons];lia
 .rw[filter_cons_of_neg (by simp[h]),if_neg h];lia
theorem Fv(d:RD)(x y:Nat):∀(ds:List RD)(h:Nat),eqM h (ds++[d]) x y=eqM h ds x y+cM d (h+bZ ds) x y
 | [],h=>by show cM d h x y+0=0+cM d (h+0) x y;rw[Nat.add_zero];grind
 |e :: ds,h=>by
  show cM e h x y+eqM (h+cT e.1) (ds++[d]) x y=cM e h x y+eqM (h+cT e.1) ds x y+_;rw[Fv d x y ds,gO,Nat.add_assoc];grind
theorem Hs(d:RD)(x:Nat):∀(ds:List RD)(h:Nat),eqR h (ds++[d]) x=eqR h ds x+cR d (h+bZ ds) x
 | [],h=>by show cR d h x+0=0+cR d (h+0) x;rw[Nat.add_zero];grind
 |e :: ds,h=>by
  show cR e h x+eqR (h+cT e.1) (ds++[d]) x=cR e h x+eqR (h+cT e.1) ds x+_;rw[Hs d x ds,gO,Nat.add_assoc];grind
theorem kA:Mq.Low (1,1):=⟨∅,∅⟩
theorem oB(d:Mq.Low a)(e:Mq.Bd k a):Mq.Low (Mq.minus (0,1) a)/\Mq.Bd (k+2) (Mq.minus (0,1) a)/\Mq.val (Mq.minus (0,1) a)=- Mq.val a:=by
 let b:1<=((0,1):Mq.Q2).2:=by decide
 let c:Mq.Bd 1 (0,1):=⟨show (0:Nat) < 2 ^ 1 by decide,show (1:Nat) < 2 ^ 1 by decide⟩
 exists Mq.cH b d.pos,(rX c e b d.pos).mono (),7;rw[Mq.dS b d.pos,Mq.mQ];grind
theorem Ho(b:MxB M h w n)(pt:cO (h:Int) d.2.1 d.2.2.1)(q:c < w)(r:Mq.Low a)(s:Mq.Bd k a):MxB (en M d c a) h w (n+2*k+4)/\∀x y,Mq.val (kQ (en M d c a) x y)=Mq.val (kQ M x y)+dl d.2.1.toNat d.2.2.1.toNat x*(if c=y then 1 else 0)*Mq.val a:=by
 let⟨m,i1,o,p⟩:=pt;let⟨e,f,g⟩:=oB r s;let b1:=b.rz (i:=d.2.1.toNat) () q r s;let b2:=b1.rz (i:=d.2.2.1.toNat) () q e f;exists b2.mono (),λx y=>?_;unfold en;rw[Cm b1 () q e,Cm b () q r,g];unfold dl
 by_cases c1:d.2.1.toNat=x<;>by_cases j:d.2.2.1.toNat=x<;>by_cases l:c=y<;>simp only[c1,j,l,true_and,and_true,false_and,and_false,and_self,if_true,if_false]<;>grind
def hM(M:List (List Mq.Q2))(d:RD)(c:Nat):List (List Mq.Q2):=rz (rz (en M d c (1,1)) c d.2.1.toNat (1,1)) c d.2.2.1.toNat (Mq.minus (0,1) (1,1))
def pM(M:List (List Mq.Q2))(d:RD):List (List Mq.Q2):=en (en M d d.2.1.toNat (rE (1,1) d.2.2.2)) d d.2.2.1.toNat (Mq.minus (0,1) (rE (1,1) d.2.2.2))
def pR(rs:List Mq.Q2)(d:RD):List Mq.Q2:=rzl (rzl rs d.2.1.toNat (Mq.minus (0,1) d.2.2.2)) d.2.2.1.toNat d.2.2.2
theorem jU:Mq.Bd 1 (1,1):=⟨show (1:Nat) < 2 ^ 1 by decide,show (1:Nat) < 2 ^ 1 by decide⟩
theorem h11:1<=((1,1):Mq.Q2).2:=by decide
theorem Gp(l:Mq.Low p)(a:0 < p.1)(b:Mq.Bd k p):Mq.Low (rE (1,1) p)/\Mq.Bd (k+1) (rE (1,1) p)/\Mq.val (rE (1,1) p)=1 / Mq.val p:=by
 exists Hl h11 (),(Nb jU b h11 ()).mono (),7;rw[Mq.Rl h11 l.pos (),qf2]
theorem qs0{w n k m h:Nat}(b:MxB M w w n)(pt:cO (m:Int) d.2.1 d.2.2.1)(hm:m<=w)(s:d.1=.pc)(l:Mq.Low d.2.2.2)(t:0 < d.2.2.2.1)(bk:Mq.Bd k d.2.2.2):MxB (pM M d) w w (n+4*k+20)/\∀x y,Mq.val (kQ (pM M d) x y)=Mq.val (kQ M x y)+cM d h x y:=by
 let⟨e,i1,f,r⟩:=pt;let⟨ls,bs,vs⟩:=Gp l t bk;let⟨g,i,j⟩:=oB ls bs;let a:cO (w:Int) d.2.1 d.2.2.1:=⟨e,6,f,6⟩
 let⟨b1,o⟩:=Ho b a (c:=d.2.1.toNat) () ls bs;let⟨b2,p⟩:=Ho b1 a (c:=d.2.2.1.toNat) () g i;exists b2.mono (),λx y=>?_;unfold pM;rw[p,o,j,vs];unfold cM;rw[s];show _=_+dl d.2.1.toNat d.2.2.1.toNat x*dl d.2.1.toNat d.2.2.1.toNat y*(1 / Mq.val d.2.2.2)
 generalize 1 / Mq.val d.2.2.2=v;generalize dl d.2.1.toNat d.2.2.1.toNat x=u;unfold dl
 by_cases c1:d.2.1.toNat=y<;>by_cases q:d.2.2.1.toNat=y<;>simp only[c1,q,if_true,if_false]<;>grind
theorem qx6{w n m c:Nat}(b:MxB M w w n)(pt:cO (m:Int) d.2.1 d.2.2.1)(hm:m<=w)(s:c < w)(t:d.1=.ho):MxB (hM M d c) w w (n+20)/\∀x y,Mq.val (kQ (hM M d c) x y)=Mq.val (kQ M x y)+cM d c x y:=by
 let⟨f,i1,g,r⟩:=pt;let a:cO (w:Int) d.2.1 d.2.2.1:=⟨f,6,g,6⟩
 let⟨e,h,k⟩:=oB kA jU;let⟨b1,l⟩:=Ho b a s kA jU;let b2:=b1.rz (i:=c) (j:=d.2.1.toNat) s () kA jU;let b3:=b2.rz (i:=c) (j:=d.2.2.1.toNat) s () e h;exists b3.mono (),λx y=>?_;unfold hM;rw[Cm b2 s () e,Cm b1 s () kA,l,k,qf2];unfold cM;rw[t];show _=_+(dl d.2.1.toNat d.2.2.1.toNat x*(if c=y then 1 else 0)+(if c=x then 1 else 0)*dl d.2.1.toNat d.2.2.1.toNat y)
 generalize dl d.2.1.toNat d.2.2.1.toNat x=u;unfold dl
 by_cases c1:d.2.1.toNat=y<;>by_cases o:d.2.2.1.toNat=y<;>by_cases p:c=x<;>by_cases q:c=y<;>simp only[c1,o,p,q,true_and,and_true,false_and,and_false,and_self,if_true,if_false]<;>grind
theorem qx7{w n k m h:Nat}(b:LnB rs w n)(pt:cO (m:Int) d.2.1 d.2.2.1)(hm:m<=w)(p:d.1=.pu)(l:Mq.Low d.2.2.2)(bk:Mq.Bd k d.2.2.2):LnB (pR rs d) w (n+4*k+20)/\∀x,Mq.val ((pR rs d).getD x (0,1))=Mq.val (rs.getD x (0,1))+cR d h x:=by
 let⟨g,i1,i,o⟩:=pt;let⟨a,c,e⟩:=oB l bk;let b1:=b.rz (j:=d.2.1.toNat) () a c;let b2:=b1.rz (j:=d.2.2.1.toNat) () l bk;exists b2.mono (),λx=>?_;unfold pR;rw[Lw b1 () l,Lw b () a,e];unfold cR;rw[p];show _=_ + - dl d.2.1.toNat d.2.2.1.toNat x*Mq.val d.2.2.2;unfold dl
 by_cases c1:d.2.1.toNat=x<;>by_cases f:d.2.2.1.toNat=x<;>simp only[c1,f,if_true,if_false]<;>grind
theorem zR{m:Nat}:∀(ds:List RD)(h x:Nat),(∀d∈ds,cO (m:Int) d.2.1 d.2.2.1)->m<=h->h+bZ ds<=x->eqR h ds x=0
 | [],_,_,_,_,_=>rfl
 |d :: ds,h,x,pt,hm,hx=>by
  rw[gO] at hx;let a:=zR ds (h+cT d.1) x (λe b=>pt e (mem_cons_of_mem _ b)) () ();let⟨c,i1,f,g⟩:=pt d ⋯;show cR d h x+eqR (h+cT d.1) ds x=0;rw[a];let z:dl d.2.1.toNat d.2.2.1.toNat x=0:=by unfold dl;rw[if_neg (),if_neg ()];grind
  unfold cR
  cases hk:d.1 with
  |pc=>show (0:Rat)+0=0;grind
  |pu=>show - dl d.2.1.toNat d.2.2.1.toNat x*Mq.val d.2.2.2+0=0;rw[z];grind
  |ho=>
   have:cT d.1=1:=by unfold cT;rw[if_pos hk]
   show (if h=x then Mq.val d.2.2.2 else 0)+0=0;rw[if_neg ()];grind
theorem qw2{rs:List Mq.Q2}{w n k m c:Nat}{d:RD}(b:LnB rs w n)(a:c < w)(f:d.1=.ho)(l:Mq.Low d.2.2.2)(bk:Mq.Bd k d.2.2.2)(g:Mq.val (rs.getD c (0,1))=0):LnB (rs.set c d.2.2.2) w (n+k)/\∀x,Mq.val ((rs.set c d.2.2.2).getD x (0,1))=Mq.val (rs.getD x (0,1))+cR d c x:=by
 exists (b.mono ()).set l (bk.mono ()),λx=>?_;rw[Bj (by rw[b.w];exact a)];unfold cR;rw[f];show _=_+if c=x then Mq.val d.2.2.2 else 0
 by_cases e:c=x
 .subst e;rw[if_pos rfl,if_pos rfl,g];grind
 .rw[if_neg e,if_neg e];grind
inductive rD(K:Frag)(vs:vk)(H:Hp)(Q:VK)(E:XK):Prop where
 |mk (l z:Addr) (j:Nat) (xs:vk) (ps:List Mq.Q2) (a:Mq.Q2) (n m:Nat):vs=[.ref l,.int (j:Int),.ref z]->H l=some (.lst xs)->Fqs K H xs ps->j < ps.length->1<=(ps.getD j (0,1)).2->Mq.Bd n (ps.getD j (0,1))->Fq K H z a->1<=a.2->Mq.Bd m a->n+m+1<=9000->(∀v H1,aS H H1->Fq K H1 v (Mq.plus (ps.getD j (0,1)) a)->Q .non (upd H1 l (.lst (xs.set j (.ref v)))))->rD K vs H Q E
inductive vB(K:Frag)(CK:Kd->Addr)(vs:vk)(H:Hp)(Q:VK)(E:XK):Prop where
 |mk (D x z:Addr) (zz:V) (as:List Addr) (M:List (List Mq.Q2)) (d:RD) (w n k c:Nat) (a:Mq.Q2):vs=[.ref D,.ref x,.int (c:Int),.ref z]->Mx K H D as M->MxB M w w n->Rw CK H x d.1 (.int d.2.1) (.int d.2.2.1) zz->cO (w:Int) d.2.1 d.2.2.1->c < w->Fq K H z a->Mq.Low a->Mq.Bd k a->n+2*k+4<=9000->(∀H',SX as H H'->Mx K H' D as (en M d c a)->Q .non H')->vB K CK vs H Q E
inductive vX(K:Frag)(CK:Kd->Addr)(vs:vk)(H:Hp)(Q:VK)(E:XK):Prop where
 |mk (D x zz:Addr) (as:List Addr) (M:List (List Mq.Q2)) (d:RD) (w n k:Nat):vs=[.ref D,.ref x]->Mx K H D as M->MxB M w w n->Rw CK H x d.1 (.int d.2.1) (.int d.2.2.1) (.ref zz)->Fq K H zz d.2.2.2->cO (w:Int) d.2.1 d.2.2.1->Mq.Low d.2.2.2->0 < d.2.2.2.1->Mq.Bd k d.2.2.2->n+4*k+20<=9000->(∀H',SX as H H'->Mx K H' D as (pM M d)->Q .non H')->vX K CK vs H Q E
inductive yA(K:Frag)(CK:Kd->Addr)(vs:vk)(H:Hp)(Q:VK)(E:XK):Prop where
 |mk (R x zz:Addr) (ys:vk) (rs:List Mq.Q2) (d:RD) (w n k:Nat):vs=[.ref R,.ref x]->H R=some (.lst ys)->Fqs K H ys rs->LnB rs w n->Rw CK H x d.1 (.int d.2.1) (.int d.2.2.1) (.ref zz)->Fq K H zz d.2.2.2->cO (w:Int) d.2.1 d.2.2.1->Mq.Low d.2.2.2->Mq.Bd k d.2.2.2->n+4*k+20<=9000->(∀ys' H',SX [R] H H'->H' R=some (.lst ys')->Fqs K H' ys' (pR rs d)->Q .non H')->yA K CK vs H Q E
inductive wW(K:Frag)(CK:Kd->Addr)(vs:vk)(H:Hp)(Q:VK)(E:XK):Prop where
 |mk (D R x zz:Addr) (as:List Addr) (M:List (List Mq.Q2)) (ys:vk) (rs:List Mq.Q2) (d:RD) (w n c:Nat):vs=[.ref D,.ref R,.ref x,.int (c:Int)]->Mx K H D as M->MxB M w w n->H R=some (.lst ys)->Fqs K H ys rs->rs.length=w->R≠D->R∉as->Rw CK H x d.1 (.int d.2.1) (.int d.2.2.1) (.ref zz)->Fq K H zz d.2.2.2->cO (w:Int) d.2.1 d.2.2.1->c < w->n+20<=9000->(∀ys' H',SX (R :: as) H H'->Mx K H' D as (hM M d c)->H' R=some (.lst ys')->Fqs K H' ys' (rs.set c d.2.2.2)->Q .non H')->wW K CK vs H Q E
structure Fms(K:Frag)(H0 H:Hp)(us:vk)(X:List (List Mq.Q2)):Prop where
 l:us.length=X.length
 r:∀(i:Nat)(x:V)(ps:List Mq.Q2),us[i]?=some x->X[i]?=some ps->∃(a:Addr)(xs:vk),x=.ref a/\H0 a=none/\H a=some (.lst xs)/\Fqs K H xs ps
structure Hc(m:Nat)(ds:List RD)(N:Nat)(X:List (List Mq.Q2))(Y:List Mq.Q2):Prop where
 x:MxB X (m - 1+bZ ds) (m - 1+bZ ds) N
 y:LnB Y (m - 1+bZ ds) N
 vx:∀i j,Mq.val (kQ X i j)=eqM m ds (i+1) (j+1)
 vy:∀i,Mq.val (Y.getD i (0,1))=eqR m ds (i+1)
def mL(kb:Nat->Nat):Nat->Nat
 |0=>0
 |i+1=>mL kb i+(4*kb i+20)
theorem zP(a:Nat->Nat):∀{j:Nat},i<=j->mL a i<=mL a j
 |0,h=>by rw[Nat.le_zero.mp h];exact Nat.le_refl _
 |j+1,h=>by
  rcases Nat.eq_or_lt_of_le h with z | z
  .rw[z];exact Nat.le_refl _
  .have:=zP a (i:=i) (j:=j) ();show _<=mL a j+(4*a j+20)
   lia
inductive Kh(CN:Addr)(K:Frag)(vs:vk)(H:Hp)(Q:VK)(E:XK):Prop where
 |mk (n l:Addr) (m:Nat) (kb:Nat->Nat) (ds:List RD):vs=[.ref n]->dB CN K H n l (m:Int) ds->(∀i d,ds[i]?=some d->yE (m:Int) d/\Mq.Bd (kb i) d.2.2.2)->1<=m->m<=20->ds.length<=40->mL kb ds.length+30<=8900->(∀t p r us ys X Y H',aS H H'->H' t=some (.tup [.ref p,.ref r])->H p=none->H r=none->H' p=some (.lst us)->H' r=some (.lst ys)->Fms K H H' us X->Fqs K H' ys Y->(∀x∈us,x≠.ref p/\x≠.ref r)->Hc m ds (mL kb ds.length+1) X Y->Q (.ref t) H')->Kh CN K vs H Q E
def Xm(ta:TA):TE:=λσ H Q=>ta σ H λvs H1=>∃n:Nat,vs=[.int (n:Int)]/\n<=1000/\∀l,H1 l=none->Q (.ref l) (upd H1 l (.lst ((List.range n).map λ(i:Nat)=>V.int (i:Int))))
theorem wO:∀{n:Nat}{d:List Value},d.length=n->(∀(j:Nat)(v:Value),d[j]?=some v->∃t,v=Value.int (j:Int) t)->cB ((List.range n).map λ(i:Nat)=>V.int (i:Int)) d
 |0,[],_,_=>.nil
 |n+1,d,hl,h=>by
  let e:d=d.take n++[d[n]'()]:=by
   let h1:d.take (n+1)=d:=take_of_length_le ();let h2:d.take (n+1)=d.take n++[d[n]'()]:=by rw[take_add_one,getElem?_eq_getElem ()];rfl
   rw[h1] at h2;exact h2
  rw[range_succ,map_append,e];refine cB.append (wO (by rw[length_take];lia) λj v a=>?_) (.cons ?_ .nil)
  .let b:j < n:=by
    have:=(wk.mp a).1;rw[length_take] at this;lia
   rw[getElem?_take,if_pos b] at a;exact h j v a
  .let⟨t,c⟩:=h n _ (getElem?_eq_getElem ());rw[c];exists t,8
section
variable {X:Cx} {a:Expr} {p p2 pos pos2:Pos} {ta:TA}
theorem mE(L:X.calm=true)(F:Gl X "list")(G:X.mg "list"=none)(M:Gl X "range")(hm:X.mg "range"=none)(N:PA X [a] ta)(hs:starEach [a] X.env=[(false,eval a X.env)]:=by rfl)(J:starEach [.Call (.Name "range" p2) [a] [] pos2] X.env=(false,eval (.Call (.Name "range" p2) [a] [] pos2) X.env) :: starEach [] X.env:=by rfl)(K:(backTo pos (starEach [] X.env)).any (·.1)=false:=by rfl) :
  PE X (.Call (.Name "list" p) [.Call (.Name "range" p2) [a] [] pos2] [] pos) (Xm ta):=by
 intro pins s σ H Q I h;refine wpAny_Call_Name_kw (kJ I F G PyProof.Rows.boot_list ?_);refine PyProof.Rows.callWith_type1 ?_ J K;rw[J];show wpAny _ _ (spliced ((false,eval (.Call (.Name "range" p2) [a] [] pos2) X.env) :: backTo pos (starEach [] X.env))) _ _ s;refine Calls.spliced_cons ?_;refine wpAny_Call_Name_kw (kJ I M hm boot_range (PyProof.Rows.callWith_type1 (thn (N pos2 pins s σ H _ I h) λD k ⟨vs,H1,l,o,u⟩=>?_) hs rfl));let⟨n,e,E,q⟩:=u;subst e
 cases o with
 |cons r rr=>
  cases rr
  let⟨t,rfl⟩:=r;refine call_range_1 ?_;refine Calls.spliced_nil ?_;let m:∀(f:Obj)(tk:Nat),Inv X pins σ H1 { k with heap:=k.heap.push f,toks:=tk }:=λf tk=>l.kept (t':=tk) (λb f e=>Heap.get?_push_of_some _ e);let g:(n:Nat)<=2 ^ 24:=by lia
  refine call_list_range (n:=n) (l.ok.hd L) (IsRange.new ..) (small_one () () () ()) (by rw[rangeSize_one];split<;>lia) g (λh' tk d x y e c=>?_);let z:cB ((List.range n).map λ(i:Nat)=>V.int (i:Int)) d.toList:=wO (by rw[Array.length_toList];exact c.1) (λj v A=>by
   let⟨t,B⟩:=c.2 j v (by rw[<- Array.getElem?_toList];exact A);exact⟨t,by rw[B];congr 1;lia⟩)
  let C:((List.range n).map λ(i:Nat)=>V.int (i:Int)).length<=sizeLine:=by rw[length_map,length_range,sizeLine_eq];lia
  exists .ref _,_,(m _ _).laid (t':=tk) y (Nat.le_refl _) (show cP X.prog X.w _ h' _ (.lst ((List.range n).map λ(i:Nat)=>V.int (i:Int))) from ⟨C,d.toList,x,z,e⟩),8,q _ ((m _ _).hok.fresh (Nat.le_refl _))
end
def jn(ms:List Int)(s g:Nat):List Int:=ms.map λx=>if x=ms.getD g 0 then ms.getD s 0 else x
def Pg(m:Nat):List Int:=(List.range m).map λ(i:Nat)=>(i:Int)
def iM(ms:List Int)(d:RD):List Int:=if d.1=.pu then ms else jn ms d.2.1.toNat d.2.2.1.toNat
def mks(m:Nat)(ds:List RD):List Int:=ds.foldl iM (Pg m)
def mk(m:Nat)(ds:List RD)(p:Nat):Int:=(mks m ds).getD p 0
theorem lL(m:Nat)(ds:List RD)(d:RD):mks m (ds++[d])=iM (mks m ds) d:=by unfold mks;rw[foldl_append];rfl
theorem Os(ms:List Int)(d:RD):(iM ms d).length=ms.length:=by
 unfold iM;split
 .rfl
 .unfold jn;rw[length_map]
theorem Ba:∀(ds:List RD)(ms:List Int),(ds.foldl iM ms).length=ms.length
 | [],_=>rfl
 |d :: ds,ms=>by show (ds.foldl iM (iM ms d)).length=_;rw[Ba ds,Os]
theorem hJ(m:Nat)(ds:List RD):(mks m ds).length=m:=by unfold mks Pg;rw[Ba,length_map,length_range]
theorem Ti{ms:List Int}{f:Int->Int}(h:p < ms.length):(ms.map f).getD p 0=f (ms.getD p 0):=by
 rw[getD_eq_getElem?_getD,getElem?_map,getD_eq_getElem?_getD,getElem?_eq_getElem h];rfl
theorem Sd(h:p < m):mk m [] p=(p:Int):=by
 show (Pg m).getD p 0=_;unfold Pg;rw[getD_eq_getElem?_getD,getElem?_map,getElem?_range h];rfl
theorem vW(a:d.1=.pu)(p:Nat):mk m (ds++[d]) p=mk m ds p:=by
 unfold mk;rw[lL];unfold iM;rw[if_pos a]
theorem vA(a:d.1≠.pu)(hp:p < m):mk m (ds++[d]) p=if mk m ds p=mk m ds d.2.2.1.toNat then mk m ds d.2.1.toNat else mk m ds p:=by
 unfold mk;rw[lL];unfold iM;rw[if_neg a];unfold jn;rw[Ti (by rw[hJ];exact hp)]
inductive Cn(ds:List RD):Nat->Nat->Prop where
 |refl (p:Nat):Cn ds p p
 |row {d:RD} (h:d∈ds) (hk:d.1≠.pu):Cn ds d.2.1.toNat d.2.2.1.toNat
 |symm {p q:Nat} (h:Cn ds p q):Cn ds q p
 |trans {p q r:Nat} (h:Cn ds p q) (g:Cn ds q r):Cn ds p r
theorem Cn.mono(h:∀d∈ds,d∈es)(c:Cn ds p q):Cn es p q:=by
 induction c with
 |refl p=>exact .refl p
 |row hd hk=>exact .row (h _ hd) hk
 |symm _ ih=>exact .symm ih
 |trans _ _ a b=>exact .trans a b
theorem Gv{m:Nat}:∀(n:Nat)(ds:List RD),ds.length=n->(∀d∈ds,cO (m:Int) d.2.1 d.2.2.1)->∀p q,p < m->q < m->mk m ds p=mk m ds q->Cn ds p q
 |0,ds,hl,_,p,q,hp,hq,e=>by
  have:ds=[]:=length_eq_zero_iff.mp hl;subst this;rw[Sd hp,Sd hq] at e;have:p=q:=by lia
  subst this;exact .refl p
 |n+1,ds,hl,pt,p,q,hp,hq,e=>by
  obtain⟨es,d,rfl⟩:∃es d,ds=es++[d]:=⟨ds.dropLast,ds.getLast (by intro z;rw[z] at hl;cases hl),(dropLast_concat_getLast _).symm⟩
  let le:es.length=n:=by rw[wq] at hl;simpa using hl
  let f:=Gv n es le (λx j=>pt x (mem_append_left _ j));let g:∀{a b:Nat},Cn es a b->Cn (es++[d]) a b:=λc=>c.mono λx j=>mem_append_left _ j
  by_cases h:d.1=.pu
  .rw[vW h,vW h] at e;exact g (f p q hp hq e)
  .let⟨o,i1,r,s⟩:=pt d ⋯;let hs:d.2.1.toNat < m:=by lia
   let k:d.2.2.1.toNat < m:=by lia
   let i:Cn (es++[d]) d.2.1.toNat d.2.2.1.toNat:=.row ⋯ h;rw[vA h hp,vA h hq] at e
   by_cases a:mk m es p=mk m es d.2.2.1.toNat
   .let l:=g (f _ _ hp k a);rw[if_pos a] at e
    by_cases b:mk m es q=mk m es d.2.2.1.toNat
    .exact l.trans (g (f _ _ hq k b)).symm
    .rw[if_neg b] at e;exact l.trans (i.symm.trans (g (f _ _ hs hq e)))
   .rw[if_neg a] at e
    by_cases b:mk m es q=mk m es d.2.2.1.toNat
    .rw[if_pos b] at e;exact(g (f _ _ hp hs e)).trans (i.trans (g (f _ _ hq k b)).symm)
    .rw[if_neg b] at e;exact g (f _ _ hp hq e)
theorem qW{m:Nat}:∀(n:Nat)(ds:List RD),ds.length=n->(∀d∈ds,cO (m:Int) d.2.1 d.2.2.1)->∀d∈ds,d.1≠.pu->mk m ds d.2.1.toNat=mk m ds d.2.2.1.toNat
 |0,ds,hl,_,d,hd,_=>by
  have:ds=[]:=length_eq_zero_iff.mp hl;rw[this] at hd;cases hd
 |n+1,ds,hl,pt,x,hx,hkx=>by
  obtain⟨es,d,rfl⟩:∃es d,ds=es++[d]:=⟨ds.dropLast,ds.getLast (by intro z;rw[z] at hl;cases hl),(dropLast_concat_getLast _).symm⟩
  let le:es.length=n:=by rw[wq] at hl;simpa using hl
  let⟨g,i1,h,i⟩:=pt x hx;let hs:x.2.1.toNat < m:=by lia
  let e:x.2.2.1.toNat < m:=by lia
  by_cases a:d.1=.pu
  .rw[vW a,vW a];rcases mem_append.mp hx with z | z
   .exact qW n es le (λy b=>pt y (mem_append_left _ b)) x z hkx
   .have:x=d:=by simpa using z
    rw[this] at hkx;exact absurd a hkx
  .rw[vA a hs,vA a e];rcases mem_append.mp hx with z | z
   .let f:=qW n es le (λy b=>pt y (mem_append_left _ b)) x z hkx;rw[f]
   .have:x=d:=by simpa using z
    subst this;rw[if_pos rfl]
    by_cases c:mk m es x.2.1.toNat=mk m es x.2.2.1.toNat
    .rw[if_pos c]
    .rw[if_neg c]
theorem Cn.ind{R:Nat->Nat->Prop}(r:∀p,R p p)(s:∀p q,R p q->R q p)(t:∀p q x,R p q->R q x->R p x)(h:∀d∈ds,d.1≠.pu->R d.2.1.toNat d.2.2.1.toNat)(c:Cn ds p q):R p q:=by
 induction c with
 |refl p=>exact r p
 |row hd hk=>exact h _ hd hk
 |symm _ ih=>exact s _ _ ih
 |trans _ _ a b=>exact t _ _ _ a b
theorem yI{m:Nat}(pt:∀d∈ds,cO (m:Int) d.2.1 d.2.2.1)(hp:p < m)(h:q < m):mk m ds p=mk m ds q↔Cn ds p q:=
 ⟨Gv _ ds rfl pt p q hp h,λc=>Cn.ind (R:=λa b=>mk m ds a=mk m ds b) (λ_=>rfl) (λ_ _ e=>e.symm) (λ_ _ _ a b=>a.trans b) (λd f g=>qW _ ds rfl pt d f g) c⟩
theorem Oe:∀{m:Nat}{S:List Nat},S.Nodup->(∀p∈S,p < m)->S.length<=m
 |0,[],_,_=>Nat.le_refl _
 |0,p :: S,_,h=>absurd (h p (mem_cons_self ..)) (Nat.not_lt_zero _)
 |m+1,S,nd,h=>by
  let e:=Oe (m:=m) (S:=S.erase m) (nd.erase m) (λp hp=>by
   let h1:=h p (mem_of_mem_erase hp);let h2:p≠m:=λz=>by rw[z] at hp;exact(Nodup.not_mem_erase nd) hp
   lia)
  have:=length_erase_le (a:=m) (l:=S);let b:S.length<=(S.erase m).length+1:=by
   rw[length_erase];split<;>lia
  lia
theorem Pz{m:Nat}{S:List Nat}(pt:∀d∈ds,cO (m:Int) d.2.1 d.2.2.1)(c:f < m)(h1:f∈S)(h2:∀p∈S,p < m/\mk m ds p=mk m ds f)(g:∀d∈ds,d.1≠.pu->(d.2.1.toNat∈S↔d.2.2.1.toNat∈S))(hp:p < m):p∈S↔mk m ds p=mk m ds f:=by
 exists λh=>(h2 p h).2,λh=>?_;exact(Cn.ind (R:=λa b=>a∈S↔b∈S) (λ_=>Iff.rfl) (λ_ _ e=>e.symm) (λ_ _ _ a b=>a.trans b) g ((yI pt c hp).mp h.symm)).mp h1
abbrev Stp:=Nat × Int
abbrev Br:=Nat × Nat × Nat
def stF(es:List Br)(p:Nat):List (Stp × Nat):=es.filterMap λe=>if e.2.1=p then some ((e.1,1),e.2.2) else if e.2.2=p then some ((e.1,-1),e.2.1) else none
abbrev WS:=List (Nat × List Stp)
def cJ(w:WS):List Nat:=w.map (·.1)
def rQ:WS->Nat->Option (List Stp)
 | [],_=>none
 |e :: w,p=>if e.1=p then some e.2 else rQ w p
theorem gS{st:List Stp}:∀{w:WS},rQ w p=some st->(p,st)∈w
 | [],h=>by cases h
 |e :: w,h=>by
  unfold rQ at h
  by_cases c:e.1=p
  .rw[if_pos c] at h
   cases h
   let⟨a,b⟩:=e;let c:a=p:=c;subst c;exact mem_cons_self ..
  .rw[if_neg c] at h;exact mem_cons_of_mem _ (gS h)
theorem qK:∀{w:WS},p∈cJ w->∃st,rQ w p=some st
 | [],h=>by cases h
 |e :: w,h=>by
  unfold rQ
  by_cases c:e.1=p
  .rw[if_pos c];exists 9
  .rw[if_neg c];rcases mem_cons.mp h with z | z
   .exact absurd z.symm c
   .exact qK z
theorem sV:∀{w:WS},p∉cJ w->rQ w p=none
 | [],_=>rfl
 |e :: w,h=>by
  unfold rQ;rw[if_neg (λz=>h (by rw[<- z];exact mem_cons_self ..))];exact sV λz=>h (mem_cons_of_mem _ z)
theorem Vc:(rQ w p).isSome=true↔p∈cJ w:=by
 by_cases c:p∈cJ w
 .let⟨st,e⟩:=qK c;rw[e];exists λ_=>c,λ_=>rfl
 .rw[sV c];exists λz=>(by cases z),λz=>absurd z c
def inF(p:Nat)(s:WS × List Nat)(t:Stp × Nat):WS × List Nat:=if t.2∈cJ s.1 then s else (s.1++[(t.2,(rQ s.1 p).getD []++[t.1])],s.2++[t.2])
def mX(es:List Br)(s:WS × List Nat):WS × List Nat:=if s.2=[] then s else (stF es (s.2.getLastD 0)).foldl (inF (s.2.getLastD 0)) (s.1,s.2.dropLast)
def cK(es:List Br)(b:Nat):Nat->WS × List Nat
 |0=>([(b,[])],[b])
 |n+1=>mX es (cK es b n)
def jI(es:List Br)(b e:Nat):Option (List Stp):=rQ (cK es b 60).1 e
def rO(es:List Br)(s:Stp)(p q:Nat):Prop:=∃u v,(s.1,u,v)∈es/\((s.2=1/\p=u/\q=v)\/(s.2=-1/\p=v/\q=u))
inductive Pt(es:List Br)(b:Nat):List Stp->Nat->List Nat->Prop where
 |nil:Pt es b [] b [b]
 |snoc {st:List Stp} {p q:Nat} {pts:List Nat} {s:Stp} (h:Pt es b st p pts) (g:rO es s p q) (n:q∉pts):Pt es b (st++[s]) q (pts++[q])
theorem nV(h:t∈stF es p):rO es t.1 p t.2:=by
 unfold stF at h;let⟨e,b,ht⟩:=mem_filterMap.mp h
 by_cases c1:e.2.1=p
 .rw[if_pos c1] at ht
  cases ht
  exists e.2.1,e.2.2,b,.inl ⟨8,c1.symm,8⟩
 .rw[if_neg c1] at ht
  by_cases a:e.2.2=p
  .rw[if_pos a] at ht
   cases ht
   exists e.2.1,e.2.2,b,.inr ⟨8,a.symm,8⟩
  .rw[if_neg a] at ht;cases ht
theorem Tr(h:rO es s p q):q=p\/∃t∈stF es p,t.2=q:=by
 let⟨u,v,a,h⟩:=h
 by_cases c:q=p
 .exact .inl c
 refine .inr ?_;rcases h with ⟨_,rfl,rfl⟩ | ⟨_,rfl,rfl⟩
 .exists ((s.1,1),q),mem_filterMap.mpr ⟨_,a,7⟩,8;rw[if_pos rfl]
 .exists ((s.1,-1),q),mem_filterMap.mpr ⟨_,a,7⟩,8;rw[if_neg c,if_pos rfl]
structure WI(es:List Br)(b:Nat)(s:WS × List Nat):Prop where
 nd:(cJ s.1).Nodup
 kb:b∈cJ s.1
 pt:∀x st,(x,st)∈s.1->∃pts,Pt es b st x pts/\∀y∈pts,y∈cJ s.1
 q:∀x∈s.2,x∈cJ s.1
 cl:∀x∈cJ s.1,x∉s.2->∀t y,rO es t x y->y∈cJ s.1
theorem Ve(es:List Br)(b:Nat):WI es b ([(b,[])],[b]):=by
 exists by simp[cJ],by simp[cJ],λx st h=>?_,λx h=>?_,λx h n=>?_
 .have:(x,st)=(b,[]):=by simpa using h
  cases this
  exists [b],.nil,λy a=>by simpa[cJ] using a
 .simpa[cJ] using h
 .have:x=b:=by simpa[cJ] using h
  exact absurd (by simp[this]) n
theorem De(w:WS)(x:Nat)(st:List Stp):cJ (w++[(x,st)])=cJ w++[x]:=by unfold cJ;rw[map_append];rfl
structure WJ(es:List Br)(b p:Nat)(T:List (Stp × Nat))(s:WS × List Nat):Prop where
 nd:(cJ s.1).Nodup
 kb:b∈cJ s.1
 kp:p∈cJ s.1
 pt:∀x st,(x,st)∈s.1->∃pts,Pt es b st x pts/\∀y∈pts,y∈cJ s.1
 q:∀x∈s.2,x∈cJ s.1
 cl:∀x∈cJ s.1,x∉s.2->x≠p->∀t y,rO es t x y->y∈cJ s.1
 t:∀t∈T,t.2∈cJ s.1
theorem Oa(h:WJ es b p T s)(g:rO es t.1 p t.2):WJ es b p (T++[t]) (inF p s t):=by
 unfold inF
 by_cases c:t.2∈cJ s.1
 .rw[if_pos c];refine { h with t:=λu j=>?_ };rcases mem_append.mp j with z | z
  .exact h.t u z
  .have:u=t:=by simpa using z
   rw[this];exact c
 .rw[if_neg c];let⟨sp,k⟩:=qK h.kp;rw[k];let d:∀{x:Nat},x∈cJ s.1->x∈cJ (s.1++[(t.2,sp++[t.1])]):=λa=>by rw[De];exact mem_append_left _ a
  let me:t.2∈cJ (s.1++[(t.2,sp++[t.1])]):=by rw[De];simp
  exists 7,d h.kb,d h.kp,λx st a=>?_,λx a=>?_,λx a l np=>?_,λu j=>?_
  .show (cJ (s.1++[(t.2,sp++[t.1])])).Nodup;rw[De,nodup_append];exists h.nd,⋯,λx a y e z=>?_;have:y=t.2:=by simpa using e
   exact c (by rw[<- this,<- z];exact a)
  .rcases mem_append.mp a with z | z
   .let⟨f,h1,h2⟩:=h.pt x st z;exists f,h1,λy e=>d (h2 y e)
   .have:(x,st)=(t.2,sp++[t.1]):=by simpa using z
    cases this
    let⟨f,h1,h2⟩:=h.pt p sp (gS k);exists f++[t.2],.snoc h1 g (λz=>c (h2 _ z)),λy e=>?_;rcases mem_append.mp e with z | z
    .exact d (h2 y z)
    .have:y=t.2:=by simpa using z
     rw[this];exact me
  .rcases mem_append.mp a with z | z
   .exact d (h.q x z)
   .have:x=t.2:=by simpa using z
    rw[this];exact me
  .let m:x∈cJ s.1:=by
    let i:x∈cJ (s.1++[(t.2,sp++[t.1])]):=a;rw[De] at i;rcases mem_append.mp i with z | z
    .exact z
    .exact absurd (mem_append_right _ z) l
   intro n y o;exact d (h.cl x m (λz=>l (mem_append_left _ z)) np n y o)
  .rcases mem_append.mp j with z | z
   .exact d (h.t u z)
   .have:u=t:=by simpa using z
    rw[this];exact me
theorem Dm:∀(U T:List (Stp × Nat)){s:WS × List Nat},WJ es b p T s->(∀t∈U,rO es t.1 p t.2)->WJ es b p (T++U) (U.foldl (inF p) s)
 | [],T,s,h,_=>by rw[append_nil];exact h
 |u :: U,T,s,h,g=>by
  have:=Dm U (T++[u]) (Oa h (g u ⋯)) λt a=>g t (mem_cons_of_mem _ a);rw[List.append_assoc] at this;exact this
theorem Mf(h:q≠[]):q.getLastD 0∈q/\q=q.dropLast++[q.getLastD 0]:=by
 let e:q.getLastD 0=q.getLast h:=by rw[getLastD_eq_getLast?,getLast?_eq_some_getLast h];rfl
 rw[e];exists getLast_mem h,(dropLast_concat_getLast h).symm
theorem wX(h:WI es b s)(f:s.2≠[]):WJ es b (s.2.getLastD 0) [] (s.1,s.2.dropLast):=by
 let⟨m,e⟩:=Mf f;refine⟨h.nd,h.kb,h.q _ m,h.pt,λx a=>h.q x (dropLast_subset _ a),λx a c np=>h.cl x a λz=>?_,λt d=>by cases d⟩;rw[e] at z;rcases mem_append.mp z with z | z
 .exact c z
 .exact np (by simpa using z)
theorem ql0(h:WJ es b p (stF es p) s):WI es b s:=by
 exists h.nd,h.kb,h.pt,h.q,λx a d t y hg=>?_
 by_cases c:x=p
 .subst c;rcases Tr hg with z | ⟨u,f,e⟩
  .rw[z];exact a
  .rw[<- e];exact h.t u f
 .exact h.cl x a d c t y hg
theorem Xf(h:WI es b s):WI es b (mX es s):=by
 unfold mX
 by_cases c:s.2=[]
 .rw[if_pos c];exact h
 .rw[if_neg c];have:=Dm (stF es (s.2.getLastD 0)) [] (wX h c) λt a=>nV a;rw[nil_append] at this;exact ql0 this
theorem jM(es:List Br)(b:Nat):∀n,WI es b (cK es b n)
 |0=>Ve es b
 |n+1=>Xf (jM es b n)
def muF(s:WS × List Nat):Nat:=2*(20 - s.1.length)+s.2.length
structure Ptm(m:Nat)(es:List Br):Prop where
 p:∀e∈es,e.2.1 < m/\e.2.2 < m
theorem qu0(h:Ptm m es)(c:b < m){st:List Stp}(p:Pt es b st x pts):x < m:=by
 cases p with
 |nil=>exact c
 |snoc _ g _=>
  let⟨u,v,a,g⟩:=g;have:=h.p _ a;rcases g with ⟨_,_,rfl⟩ | ⟨_,_,rfl⟩
  .exact this.2
  .exact this.1
theorem Do(h:Ptm m es)(c:b < m)(pt:∀x st,(x,st)∈w->∃a,Pt es b st x a/\∀y∈a,y∈cJ w):∀x∈cJ w,x < m:=λx d=>by
 let⟨st,e⟩:=qK d;let⟨a,p,_⟩:=pt x st (gS e);exact qu0 h c p
theorem Sf(h:Ptm m es)(c:b < m)(d:(cJ w).Nodup)(pt:∀x st,(x,st)∈w->∃a,Pt es b st x a/\∀y∈a,y∈cJ w):w.length<=m:=by
 have:=Oe d (Do h c pt);unfold cJ at this
 rwa [length_map] at this
theorem qt2(hm:Ptm m es)(a:b < m)(d:m<=20)(h:WJ es b p T s)(g:rO es t.1 p t.2):muF (inF p s t)<=muF s:=by
 let h':=Oa h g;let le:=Sf hm a h'.nd h'.pt;unfold inF at le ⊢
 by_cases c:t.2∈cJ s.1
 .rw[if_pos c];exact Nat.le_refl _
 .rw[if_neg c] at le ⊢;unfold muF;simp only[wq,length_cons,length_nil] at le ⊢;lia
theorem Ef(hm:Ptm m es)(d:b < m)(c:m<=20):∀(U T:List (Stp × Nat)){s:WS × List Nat},WJ es b p T s->(∀t∈U,rO es t.1 p t.2)->muF (U.foldl (inF p) s)<=muF s
 | [],_,_,_,_=>Nat.le_refl _
 |u :: U,T,s,h,g=>Nat.le_trans (Ef hm d c U (T++[u]) (Oa h (g u ⋯)) λt a=>g t (mem_cons_of_mem _ a)) (qt2 hm d c h (g u ⋯))
theorem Ht(h:s.2≠[]):muF (s.1,s.2.dropLast)+1=muF s:=by
 have:0 < s.2.length:=length_pos_iff.mpr h;show 2*(20 - s.1.length)+s.2.dropLast.length+1=2*(20 - s.1.length)+s.2.length;rw[length_dropLast];lia
theorem Lf(hm:Ptm m es)(d:b < m)(c:m<=20)(h:WI es b s)(a:s.2≠[]):muF (mX es s)+1<=muF s:=by
 unfold mX;rw[if_neg a];have:=Ef hm d c (stF es (s.2.getLastD 0)) [] (wX h a) λt f=>nV f;let e:=Ht a;lia
theorem Ay(h:(cK es b i).2=[]):∀n,cK es b (i+n)=cK es b i
 |0=>rfl
 |n+1=>by
  show mX es (cK es b (i+n))=_;rw[Ay h n];unfold mX;rw[if_pos h]
theorem Zx(h:(cK es b i).2=[])(hi:i<=60):(cK es b 60).1=(cK es b i).1:=by
 have:=Ay h (60 - i);rw[show i+(60 - i)=60 by lia] at this;rw[this]
theorem sZ(hm:Ptm m es)(d:b < m)(a:m<=20):∀n,(cK es b n).2=[]\/n+muF (cK es b n)<=39
 |0=>.inr (by show 0+(2*(20 - 1)+1)<=39;lia)
 |n+1=>by
  by_cases c:(cK es b n).2=[]
  .refine .inl ?_;show (mX es (cK es b n)).2=[]
   unfold mX;rw[if_pos c];exact c
  .rcases sZ hm d a n with z | z
   .exact absurd z c
   .have:=Lf hm d a (jM es b n) c;refine .inr ?_;show n+1+muF (mX es (cK es b n))<=39;lia
theorem Uy(hm:Ptm m es)(c:b < m)(a:m<=20):(cK es b 60).2=[]:=by
 rcases sZ hm c a 60 with z | z
 .exact z
 .lia
def cG(es:List Br):List RD:=es.map λe=>(.pc,(e.2.1:Int),(e.2.2:Int),(0,1))
theorem kZ(h:Ptm m es):∀d∈cG es,cO (m:Int) d.2.1 d.2.2.1:=λd a=>by
 let⟨e,b,rfl⟩:=mem_map.mp a;have:=h.p e b;exists by show (0:Int)<=(e.2.1:Int);lia,by show ((e.2.1:Nat):Int) < m;lia,by show (0:Int)<=(e.2.2:Int);lia,by show ((e.2.2:Nat):Int) < m;lia
theorem Le(h:Ptm m es)(g:rO es s p q):mk m (cG es) q=mk m (cG es) p:=by
 let⟨u,v,a,g⟩:=g;let e:=qW _ (cG es) rfl (kZ h) (.pc,(u:Int),(v:Int),(0,1)) (mem_map.mpr ⟨_,a,8⟩) (by intro z;cases z);rw[Int.toNat_natCast,Int.toNat_natCast] at e;rcases g with ⟨_,rfl,rfl⟩ | ⟨_,rfl,rfl⟩
 .exact e.symm
 .exact e
theorem qe4(h:Ptm m es){st:List Stp}(p:Pt es b st x pts):mk m (cG es) x=mk m (cG es) b:=by
 induction p with
 |nil=>rfl
 |snoc _ g _ ih=>rw[Le h g,ih]
theorem Dg(h:Ptm m es)(n:m<=20)(l:b < m)(o:e < m):(jI es b e).isSome=true↔mk m (cG es) e=mk m (cG es) b:=by
 let wi:=jM es b 60;let c:=Uy h l n;unfold jI;rw[Vc];refine Pz (kZ h) l wi.kb (λp hp=>⟨Do h l wi.pt p hp,7⟩) (λd g _=>?_) o
 .let⟨st,i⟩:=qK hp;let⟨k,j,_⟩:=wi.pt p st (gS i);exact qe4 h j
 .let⟨a,f,rfl⟩:=mem_map.mp g;show ((a.2.1:Int).toNat∈_↔(a.2.2:Int).toNat∈_);rw[Int.toNat_natCast,Int.toNat_natCast];exists λz=>wi.cl _ z (by rw[c];simp) (a.1,1) _ ⟨a.2.1,a.2.2,f,.inl ⟨8,8,8⟩⟩,λz=>wi.cl _ z (by rw[c];simp) (a.1,-1) _ ⟨a.2.1,a.2.2,f,.inr ⟨8,8,8⟩⟩
structure yS(es:List Br)(b e:Nat)(st:List Stp)(pts:List Nat):Prop where
 l:pts.length=st.length+1
 hb:pts[0]?=some b
 he:pts[st.length]?=some e
 g:∀i s,st[i]?=some s->∃p q,pts[i]?=some p/\pts[i+1]?=some q/\rO es s p q
 n:(st.map (·.1)).Nodup
theorem Xy{st:List Stp}(p:Pt es b st x pts):∀s∈st,∃y z,y∈pts/\z∈pts/\rO es s y z:=by
 induction p with
 |nil=>intro s h;cases h
 | @snoc st p q pts s h g n ih=>
  intro t a;rcases mem_append.mp a with z | z
  .let⟨y,c,h1,h2,d⟩:=ih t z;exists y,c,mem_append_left _ h1,mem_append_left _ h2,d
  .have:t=s:=by simpa using z
   subst this;exists p,q,mem_append_left _ ?_,⋯,g
   cases h with
   |nil=>simp
   |snoc _ _ _=>simp
theorem Qa{st:List Stp}(ne:(es.map (·.1)).Nodup)(p:Pt es b st x pts):yS es b x st pts:=by
 induction p with
 |nil=>exact⟨8,8,8,λi s h=>by simp at h,⋯⟩
 | @snoc st p q pts s h g n ih=>
  let l:=ih.l;exists by rw[wq,wq,l];rfl,?_,?_,λi t d=>?_,?_
  .rw[getElem?_append_left ()];exact ih.hb
  .rw[wq,getElem?_append_right (by simp;lia)];simp only[length_cons,length_nil];rw[show st.length+(0+1) - pts.length=0 by lia];rfl
  .by_cases c:i < st.length
   .rw[getElem?_append_left c] at d;let⟨y,z,h1,h2,D⟩:=ih.g i t d;exists y,z,by rw[getElem?_append_left ()];exact h1,by rw[getElem?_append_left ()];exact h2,D
   .let hi:i=st.length:=by
     have:=(wk.mp d).1;simp only[wq,length_cons,length_nil] at this;lia
    subst hi;rw[getElem?_append_right (Nat.le_refl _),Nat.sub_self] at d;have:s=t:=by simpa using d
    subst this;exists p,q,by rw[getElem?_append_left ()];exact ih.he,?_,g;rw[getElem?_append_right (),show st.length+1 - pts.length=0 by lia];rfl
  .rw[map_append,nodup_append];exists ih.n,⋯,λa k c f z=>?_;let f:c=s.1:=by simpa using f
   let⟨t,d,E⟩:=mem_map.mp k;let⟨y,w,h1,h2,m,o,r,F⟩:=Xy h t d;let⟨u,v,G,g⟩:=g;let same:(t.1,m,o)=(s.1,u,v):=by
    let A:∀{l:List Br},(l.map (·.1)).Nodup->∀{a c:Br},a∈l->c∈l->a.1=c.1->a=c:=λ{l}=>by
     induction l with
     |nil=>intro _ a c h;cases h
     |cons x l ih=>
      intro j a c k f e;rw[map_cons,nodup_cons] at j;rcases mem_cons.mp k with rfl | B<;>rcases mem_cons.mp f with rfl | C
      .rfl
      .exact absurd (mem_map.mpr ⟨c,C,e.symm⟩) j.1
      .exact absurd (mem_map.mpr ⟨a,B,e⟩) j.1
      .exact ih j.2 B C e
    exact A ne r G (by show t.1=s.1;rw[E,z,f])
   let H:m=u:=by injection same with _ e;injection e
   let I:o=v:=by injection same with _ e;injection e
   subst H;subst I;rcases g with ⟨_,rfl,rfl⟩ | ⟨_,rfl,rfl⟩<;>rcases F with ⟨_,rfl,rfl⟩ | ⟨_,rfl,rfl⟩
   .exact n h2
   .exact n h1
   .exact n h1
   .exact n h2
theorem Oj{st:List Stp}(ne:(es.map (·.1)).Nodup)(h:jI es b e=some st):∃a,yS es b e st a:=by
 let⟨a,p,_⟩:=(jM es b 60).pt e st (gS h);exists a,Qa ne p
theorem zW{st:List Stp}(hm:Ptm m es)(i:b < m)(h:jI es b e=some st):st.length < m:=by
 let⟨c,p,k⟩:=(jM es b 60).pt e st (gS h);let l:c.length=st.length+1:=by
  clear h
  induction p with
  |nil=>rfl
  |snoc h g n ih=>rw[wq,wq,ih λy a=>k y (mem_append_left _ a)];rfl
 let d:c.Nodup:=by
  clear h k l
  induction p with
  |nil=>simp
  |snoc h g n ih=>
   rw[nodup_append];exists ih,⋯,λx f y a z=>n ?_;rw[mem_singleton] at a;rw[<- a,<- z];exact f
 have:=Oe d λy a=>Do hm i (jM es b 60).pt y (k y a);lia
abbrev Sk:=Kd × Nat × Nat
def skl(ds:List RD):List Sk:=ds.map λd=>(d.1,d.2.1.toNat,d.2.2.1.toNat)
abbrev RS:=List Br × List (Nat × List Stp)
def eY(W:Kd->Bool)(s:RS)(k:Nat)(d:Sk):RS:=if W d.1 then (match jI s.1 d.2.2 d.2.1 with
 |none=>(s.1++[(k,d.2.1,d.2.2)],s.2)
 |some st=>(s.1,s.2++[(k,(k,1) :: st)])) else s
def bO(W:Kd->Bool)(sk:List Sk):Nat->RS
 |0=>([],[])
 |n+1=>match sk[n]? with
  |none=>bO W sk n
  |some d=>eY W (bO W sk n) n d
theorem dF(h:sk[n]?=some d):bO W sk (n+1)=eY W (bO W sk n) n d:=by
 show (match sk[n]? with | none=>bO W sk n | some d=>eY W (bO W sk n) n d)=_;rw[h]
structure RI(W:Kd->Bool)(sk:List Sk)(m n:Nat)(s:RS):Prop where
 pt:Ptm m s.1
 nd:(s.1.map (·.1)).Nodup
 lt:∀e∈s.1,e.1 < n
 at_:∀e∈s.1,∃k,sk[e.1]?=some (k,e.2.1,e.2.2)
 rl:s.2.length<=n
 r:∀c∈s.2,c.1 < n/\∃k u v st pts,sk[c.1]?=some (k,u,v)/\c.2=(c.1,1) :: st/\(∀t∈st,t.1 < c.1/\t.1∈s.1.map (·.1))/\yS s.1 v u st pts/\st.length < m
theorem yS.mono{st:List Stp}(h:yS es b e st pts)(hs:∀x∈es,x∈es'):yS es' b e st pts:=
 { h with g:=λi s hi=>let ⟨p,q,h1,h2,u,v,h3,h4⟩:=h.g i s hi;⟨p,q,h1,h2,u,v,hs _ h3,h4⟩ }
theorem Tm{st:List Stp}(h:yS es b e st pts):∀t∈st,t.1∈es.map (·.1):=λt a=>by
 let⟨i,hi⟩:=getElem?_of_mem a;let⟨p,q,_,_,u,v,c,_⟩:=h.g i t hi;exact mem_map.mpr ⟨_,c,8⟩
theorem iC(hm:∀d∈sk,d.2.1 < m/\d.2.2 < m):∀n,n<=sk.length->RI W sk m n (bO W sk n)
 |0,_=>⟨⟨λe h=>(by cases h)⟩,(by show ([]:List Nat).Nodup;simp),λe h=>(by cases h),λe h=>(by cases h),Nat.le_refl _,λc h=>(by cases h)⟩
 |n+1,hn=>by
  let a:=iC (W:=W) hm n ();let f:sk[n]?=some sk[n]:=getElem?_eq_getElem ();rw[dF f];let o:=hm _ (mem_of_getElem? f);generalize sk[n]=d at f o;generalize bO W sk n=s at a;unfold eY
  by_cases hw:W d.1=true
  .rw[if_pos hw]
   cases j:jI s.1 d.2.2 d.2.1 with
   |none=>
    show RI W sk m (n+1) (s.1++[(n,d.2.1,d.2.2)],s.2);exists ⟨λe b=>?_⟩,7,λe b=>?_,λe b=>?_,by have:=a.rl;show s.2.length<=n+1;lia,λc g=>?_
    .rcases mem_append.mp b with z | z
     .exact a.pt.p e z
     .have:e=(n,d.2.1,d.2.2):=by simpa using z
      rw[this];exact o
    .show ((s.1++[(n,d.2.1,d.2.2)]).map (·.1)).Nodup;rw[map_append,nodup_append];exists a.nd,⋯,λx q y j z=>?_;have:y=n:=by simpa using j
     let⟨e,b,B⟩:=mem_map.mp q;have:=a.lt e b;lia
    .rcases mem_append.mp b with z | z
     .have:=a.lt e z;lia
     .have:e=(n,d.2.1,d.2.2):=by simpa using z
      rw[this];exact Nat.lt_succ_self n
    .rcases mem_append.mp b with z | z
     .exact a.at_ e z
     .have:e=(n,d.2.1,d.2.2):=by simpa using z
      rw[this];exists d.1,f
    .let⟨h1,k,u,v,st,i,h2,C,h4,D,E⟩:=a.r c g;exists 6,k,u,v,st,i,h2,C,λt l=>⟨(h4 t l).1,7⟩,D.mono λx q=>mem_append_left _ q,E;show t.1∈(s.1++[(n,d.2.1,d.2.2)]).map (·.1);rw[map_append];exact mem_append_left _ (h4 t l).2
   |some st=>
    show RI W sk m (n+1) (s.1,s.2++[(n,(n,1) :: st)]);exists a.pt,a.nd,λe b=>Nat.lt_succ_of_lt (a.lt e b),a.at_,by have:=a.rl;show (s.2++[(n,(n,1) :: st)]).length<=n+1;rw[wq];simp only[length_cons,length_nil];lia,λc g=>?_;rcases mem_append.mp g with z | z
    .let⟨h1,r⟩:=a.r c z;exists 6,r
    .have:c=(n,(n,1) :: st):=by simpa using z
     subst this;let⟨i,w⟩:=Oj a.nd j;exists Nat.lt_succ_self n,d.1,d.2.1,d.2.2,st,i,f,8,λt l=>?_,w,zW a.pt o.2 j;let A:=Tm w t l;let⟨e,b,B⟩:=mem_map.mp A;have:=a.lt e b;exists by show t.1 < n;lia,A
  .rw[if_neg hw];exists a.pt,a.nd,λe b=>Nat.lt_succ_of_lt (a.lt e b),a.at_,by have:=a.rl;lia,λc g=>let ⟨h1,r⟩:=a.r c g;⟨6,r⟩
theorem SqT.updD{K:Frag}(h:SqT K H a xs)(b:H l=some (.dK kvs)):SqT K (L2.upd H l o) a xs:=by
 rcases h with (h | ⟨u,h⟩) | h
 .exact .inl (.inl (by rw[aQ (gV h b (λz=>by cases z))];exact h))
 .exact .inl (.inr ⟨u,by rw[aQ (gV h b (λz=>by cases z))];exact h⟩)
 .exact .inr h
inductive Sts(K:Frag)(H:Hp):vk->List Stp->Prop where
 |nil:Sts K H [] []
 |cons {t:Addr} {n:Nat} {w:Int} {xs:vk} {st:List Stp} (h:SqT K H t [.int (n:Int),.int w]) (q:Sts K H xs st):Sts K H (.ref t :: xs) ((n,w) :: st)
section
variable {K:Frag} {H H':Hp}
theorem Sts.same(e:aS H H'):∀{xs:vk}{st:List Stp},Sts K H xs st->Sts K H' xs st
 |_,_,.nil=>.nil
 |_,_,.cons h q=>.cons (e.seqT h) (Sts.same e q)
theorem Sts.length:∀{xs:vk}{st:List Stp},Sts K H xs st->xs.length=st.length
 |_,_,.nil=>rfl
 |_,_,.cons _ q=>by simp[Sts.length q]
theorem Sts.app:∀{xs ys:vk}{st a:List Stp},Sts K H xs st->Sts K H ys a->Sts K H (xs++ys) (st++a)
 |_,_,_,_,.nil,r=>r
 |_,_,_,_,.cons h q,r=>.cons h (Sts.app q r)
theorem Sts.get:∀{xs:vk}{st:List Stp}{i:Nat}{x:V},Sts K H xs st->xs[i]?=some x->∃t s,x=.ref t/\st[i]?=some s/\SqT K H t [.int (s.1:Int),.int s.2]
 |_,_,_,_,.nil,h=>by simp at h
 |_,_,0,_,.cons h _,e=>by simp at e;subst e;exists _,9,8,h
 |_,_,i+1,_,.cons _ q,e=>by simpa using Sts.get q (by simpa using e)
theorem Sts.upd(a:H l=some (.lst ys)):∀{xs:vk}{st:List Stp},Sts K H xs st->Sts K (L2.upd H l o) xs st
 |_,_,.nil=>.nil
 |_,_,.cons h q=>.cons (SqT.upd h a) (Sts.upd a q)
theorem Sts.updD(a:H l=some (.dK kvs)):∀{xs:vk}{st:List Stp},Sts K H xs st->Sts K (L2.upd H l o) xs st
 |_,_,.nil=>.nil
 |_,_,.cons h q=>.cons (SqT.updD h a) (Sts.updD a q)
end
inductive Sds(K:Frag)(H:Hp):vk->List (Stp × Nat)->Prop where
 |nil:Sds K H [] []
 |cons {t s:Addr} {n x:Nat} {w:Int} {xs:vk} {st:List (Stp × Nat)} (h:SqT K H t [.ref s,.int (x:Int)]) (g:SqT K H s [.int (n:Int),.int w]) (q:Sds K H xs st):Sds K H (.ref t :: xs) (((n,w),x) :: st)
section
variable {K:Frag} {H H':Hp}
theorem Sds.same(e:aS H H'):∀{xs:vk}{st:List (Stp × Nat)},Sds K H xs st->Sds K H' xs st
 |_,_,.nil=>.nil
 |_,_,.cons h g q=>.cons (e.seqT h) (e.seqT g) (Sds.same e q)
theorem Sds.length:∀{xs:vk}{st:List (Stp × Nat)},Sds K H xs st->xs.length=st.length
 |_,_,.nil=>rfl
 |_,_,.cons _ _ q=>by simp[Sds.length q]
theorem Sds.app:∀{xs ys:vk}{st a:List (Stp × Nat)},Sds K H xs st->Sds K H ys a->Sds K H (xs++ys) (st++a)
 |_,_,_,_,.nil,r=>r
 |_,_,_,_,.cons h g q,r=>.cons h g (Sds.app q r)
theorem Sds.get:∀{xs:vk}{st:List (Stp × Nat)}{i:Nat}{x:V},Sds K H xs st->xs[i]?=some x->∃t u s,x=.ref t/\st[i]?=some s/\SqT K H t [.ref u,.int (s.2:Int)]/\SqT K H u [.int (s.1.1:Int),.int s.1.2]
 |_,_,_,_,.nil,h=>by simp at h
 |_,_,0,_,.cons h g _,e=>by simp at e;subst e;exists _,_,9,8,h,g
 |_,_,i+1,_,.cons _ _ q,e=>by simpa using Sds.get q (by simpa using e)
theorem Sds.upd(a:H l=some (.lst ys)):∀{xs:vk}{st:List (Stp × Nat)},Sds K H xs st->Sds K (L2.upd H l o) xs st
 |_,_,.nil=>.nil
 |_,_,.cons h g q=>.cons (SqT.upd h a) (SqT.upd g a) (Sds.upd a q)
theorem Sds.updD(a:H l=some (.dK kvs)):∀{xs:vk}{st:List (Stp × Nat)},Sds K H xs st->Sds K (L2.upd H l o) xs st
 |_,_,.nil=>.nil
 |_,_,.cons h g q=>.cons (SqT.updD h a) (SqT.updD g a) (Sds.updD a q)
end
inductive Wys(K:Frag)(H0:Hp)(W:Addr)(H:Hp):List (Key × V)->WS->Prop where
 |nil:Wys K H0 W H [] []
 |cons {a:Addr} {x:Nat} {xs:vk} {st:List Stp} {kvs:List (Key × V)} {w:WS} (n:H0 a=none) (nw:a≠W) (h:H a=some (.lst xs)) (f:Sts K H xs st) (q:Wys K H0 W H kvs w):Wys K H0 W H ((Sum.inl (x:Int),.ref a) :: kvs) ((x,st) :: w)
section
variable {K:Frag} {H0 H H':Hp} {W:Addr}
theorem Wys.same(e:aS H H'):∀{kvs:List (Key × V)}{w:WS},Wys K H0 W H kvs w->Wys K H0 W H' kvs w
 |_,_,.nil=>.nil
 |_,_,.cons n nw h f q=>.cons n nw (e _ _ h) (f.same e) (Wys.same e q)
theorem Wys.updW(a:H W=some (.lst ys)):∀{kvs:List (Key × V)}{w:WS},Wys K H0 W H kvs w->Wys K H0 W (L2.upd H W o) kvs w
 |_,_,.nil=>.nil
 |_,_,.cons n nw h f q=>.cons n nw (by rw[aQ nw];exact h) (f.upd a) (Wys.updW a q)
theorem Wys.updD(a:H D=some (.dK kv)):∀{kvs:List (Key × V)}{w:WS},Wys K H0 W H kvs w->Wys K H0 W (L2.upd H D o) kvs w
 |_,_,.nil=>.nil
 |_,_,.cons n nw h f q=>.cons n nw (by rw[aQ (gV h a (λz=>by cases z))];exact h) (f.updD a) (Wys.updD a q)
theorem Wys.length:∀{kvs:List (Key × V)}{w:WS},Wys K H0 W H kvs w->kvs.length=w.length
 |_,_,.nil=>rfl
 |_,_,.cons _ _ _ _ q=>by simp[Wys.length q]
theorem Wys.snoc{x:Nat}{st:List Stp}(n:H0 a=none)(nw:a≠W)(h:H a=some (.lst xs))(f:Sts K H xs st):∀{kvs:List (Key × V)}{w:WS},Wys K H0 W H kvs w->Wys K H0 W H (kvs++[(Sum.inl (x:Int),.ref a)]) (w++[(x,st)])
 |_,_,.nil=>.cons n nw h f .nil
 |_,_,.cons n' nw' h' f' q=>.cons n' nw' h' f' (Wys.snoc n nw h f q)
theorem Wys.none_:∀{kvs:List (Key × V)}{w:WS},Wys K H0 W H kvs w->p∉cJ w->qY kvs (Sum.inl (p:Int))=none/\(kvs.any λb=>decide (b.1=Sum.inl (p:Int)))=false
 |_,_,.nil,_=>⟨8,8⟩
 |_,_,.cons (x:=x) (kvs:=kvs) (w:=w) n nw h f q,hp=>by
  let a:x≠p:=λz=>hp (by rw[<- z];exact mem_cons_self ..);let⟨h1,h2⟩:=Wys.none_ q λz=>hp (mem_cons_of_mem _ z);exists by rw[nQ (λz=>a (Int.ofNat.inj (Sum.inl.inj z)))];exact h1,?_;rw[any_cons,h2];let e:decide ((Sum.inl (x:Int):Key)=Sum.inl (p:Int))=false:=decide_eq_false λz=>a (Int.ofNat.inj (Sum.inl.inj z));show (decide ((Sum.inl (x:Int):Key)=Sum.inl (p:Int)) || false)=false;rw[e];rfl
theorem Wys.some_:∀{kvs:List (Key × V)}{w:WS},Wys K H0 W H kvs w->p∈cJ w->∃a xs st,qY kvs (Sum.inl (p:Int))=some (.ref a)/\rQ w p=some st/\H0 a=none/\a≠W/\H a=some (.lst xs)/\Sts K H xs st
 |_,_,.nil,h=>by cases h
 |_,_,.cons (a:=a) (x:=x) (xs:=xs) (st:=st) (kvs:=kvs) (w:=w) n nw h f q,hp=>by
  by_cases c:x=p
  .subst c;exists a,xs,st,by rw[rP rfl],by unfold rQ;rw[if_pos rfl],n,nw,h,f
  .let b:p∈cJ w:=by
    rcases mem_cons.mp hp with z | z
    .exact absurd z.symm c
    .exact z
   let⟨g,d,e,h1,h2,r⟩:=Wys.some_ q b;exists g,d,e,by rw[nQ (λz=>c (Int.ofNat.inj (Sum.inl.inj z)))];exact h1,by unfold rQ;rw[if_neg c];exact h2,r
theorem Wys.isSome{p:Nat}(h:Wys K H0 W H kvs w):(qY kvs (Sum.inl (p:Int))).isSome=decide (p∈cJ w):=by
 by_cases c:p∈cJ w
 .let⟨a,xs,st,e,_⟩:=h.some_ c;rw[e,decide_eq_true c];rfl
 .rw[(h.none_ c).1,decide_eq_false c];rfl
end
structure Rgs(K:Frag)(H0 H:Hp)(us:vk)(X:List (List Stp)):Prop where
 l:us.length=X.length
 r:∀(i:Nat)(x:V)(st:List Stp),us[i]?=some x->X[i]?=some st->∃(a:Addr)(xs:vk),x=.ref a/\H0 a=none/\H a=some (.lst xs)/\Sts K H xs st
theorem Rgs.nil{K:Frag}:Rgs K H0 H [] []:=⟨8,λi x st h=>by simp at h⟩
theorem Rgs.same{K:Frag}(e:aS H H')(f:Rgs K H0 H us X):Rgs K H0 H' us X:=⟨f.l,λi x st h1 h2=>let ⟨a,xs,e1,n,h,s⟩:=f.r i x st h1 h2;⟨a,xs,e1,n,e _ _ h,s.same e⟩⟩
theorem Rgs.snoc{K:Frag}{st:List Stp}(f:Rgs K H0 H us X)(n:H0 a=none)(h:H a=some (.lst xs))(s:Sts K H xs st):Rgs K H0 H (us++[.ref a]) (X++[st]):=by
 exists by rw[wq,wq,f.l];rfl,λi x qs h1 h2=>?_;let l:=f.l
 by_cases c:i < us.length
 .rw[getElem?_append_left c] at h1;rw[getElem?_append_left ()] at h2;exact f.r i x qs h1 h2
 .let hi:i=us.length:=by
   have:=(wk.mp h1).1;rw[wq] at this;simp only[length_cons,length_nil] at this;lia
  subst hi;rw[getElem?_append_right (Nat.le_refl _),Nat.sub_self] at h1;rw[getElem?_append_right (),show us.length - X.length=0 by lia] at h2
  cases h1
  cases h2
  exists a,xs,8,n,h,s
theorem Rgs.updO{K:Frag}{l:Addr}(f:Rgs K H0 H us X)(b:H l=some (.lst ys))(n:∀x∈us,x≠.ref l):Rgs K H0 (upd H l o) us X:=⟨f.l,λi x st h1 h2=>let ⟨a,xs,e1,n1,h,s⟩:=f.r i x st h1 h2;⟨a,xs,e1,n1,by rw[aQ (λz=>n x (mem_of_getElem? h1) (by rw[e1,z]))];exact h,s.upd b⟩⟩
def qj8(ds:List RD)(es:List Br):Prop:=∀e∈es,∃d,ds[e.1]?=some d/\d.2.1=(e.2.1:Int)/\d.2.2.1=(e.2.2:Int)
inductive Du(K:Frag)(CK:Kd->Addr)(vs:vk)(H:Hp)(Q:VK)(E:XK):Prop where
 |mk (a b:Addr) (xs:vk) (ds:List RD) (es:List Br) (p:Nat):vs=[.ref a,.ref b,.int (p:Int)]->SqL K H a xs->gZ CK K H xs ds->(SqL K H b (es.map λe=>V.int (e.1:Int)))->qj8 ds es->es.length<=100->(∀l ys H',aS H H'->H l=none->H' l=some (.lst ys)->Sds K H' ys (stF es p)->Q (.ref l) H')->Du K CK vs H Q E
inductive Wi(K:Frag)(CK:Kd->Addr)(vs:vk)(H:Hp)(Q:VK)(E:XK):Prop where
 |mk (a b:Addr) (xs:vk) (ds:List RD) (es:List Br) (m f t:Nat):vs=[.ref a,.ref b,.int (f:Int),.int (t:Int)]->SqL K H a xs->gZ CK K H xs ds->(SqL K H b (es.map λe=>V.int (e.1:Int)))->qj8 ds es->es.length<=100->Ptm m es->m<=20->f < m->(jI es f t=none->∀H',aS H H'->Q .non H')->(∀st,jI es f t=some st->∀l ys H',aS H H'->H l=none->H' l=some (.lst ys)->Sts K H' ys st->Q (.ref l) H')->Wi K CK vs H Q E
inductive Wds(K:Frag)(H:Hp):V->(Kd->Bool)->Prop where
 |non:Wds K H .non (λk=>decide (k≠.pu))
 |seq {a:Addr} {ws:vk} (h:SqL K H a ws) (f:ws.all pP=true):Wds K H (.ref a) (λk=>inV (.str k.wd) ws)
inductive vJ(CN:Addr)(K:Frag)(vs:vk)(H:Hp)(Q:VK)(E:XK):Prop where
 |mk (n l:Addr) (v:V) (m:Nat) (ds:List RD) (W:Kd->Bool):vs=[.ref n,v]->dB CN K H n l (m:Int) ds->(∀d∈ds,cO (m:Int) d.2.1 d.2.2.1)->m<=20->ds.length<=40->Wds K H v W->(∀r us H',aS H H'->H r=none->H' r=some (.lst us)->Rgs K H H' us ((bO W (skl ds) ds.length).2.map (·.2))->(∀x∈us,x≠.ref r)->Q (.ref r) H')->vJ CN K vs H Q E
end L2
namespace Mq
def KJ(m:Nat)(A1:Mat)(R:List (List Int)):Prop:=∀Φ,Lin Φ->(∀i,i < m->Φ (A1 i)=0)->∀k,k < m->Φ (at2 R k)=0
theorem KJ.swap(h:KJ m A1 R)(f:R.length=m)(hp:p < m)(d:r < m):KJ m A1 (gJ R p r):=λg a b k c=>by
 let e:at2 (gJ R p r) k=at2 R (sw p r k):=by
  funext x
  rw[uB () ()]
 rw[e];exact h g a b _ (Ec hp d c)
theorem KJ.clear(h:KJ m A1 R)(s:SI m w A0 R r col d sg)(g:r < m)(i:col < w)(j:ent R r col≠0):KJ m A1 (cN R r col d):=λl a f k b=>by
 let cl:=λ(x:Nat)=>vI s g i j b x;let z:=h l a f
 by_cases e:k=r
 .let c:at2 (cN R r col d) k=at2 R k:=by funext x;rw[cl x,if_pos e]
  rw[c];exact z k b
 .let c:at2 (cN R r col d) k=λx=>(λx=>(at2 R r col / (d:Rat))*at2 R k x) x+(-(at2 R k col / (d:Rat)))*at2 R r x:=by
   funext x
   show _=(at2 R r col / (d:Rat))*at2 R k x+_;rw[cl x,if_neg e];grind
  rw[c,a,a.mul,z k b,z r g];grind
theorem KJ.whole(h:KJ m A1 R)(s:SI m w A0 R m m d sg){v:Nat->Rat}(p:∀i,i < m->(rs m λk=>A1 i k*v k)=A1 i m)(o:k < m):at2 R k m / (d:Rat)=v k:=by
 let⟨A,c,B,e⟩:=s.bar;let dn:=B.dne;have:=h (λf=>(rs m λk=>f k*v k) - f m) (λx y l=>by
  have:(rs m λk=>(x k+l*y k)*v k)=(rs m λk=>x k*v k+l*(y k*v k)):=aX λk _=>by grind
  show (rs m λk=>(x k+l*y k)*v k) - (x m+l*y m)=((rs m λk=>x k*v k) - x m)+l*((rs m λk=>y k*v k) - y m)
  rw[this,fE,gK];grind) (λi hi=>by
  show (rs m λk=>A1 i k*v k) - A1 i m=0;rw[p i hi];grind) k o
 let g:(rs m λj=>at2 R k j*v j)=rs m λj=>if j=k then (d:Rat)*v k else 0:=aX λj a=>by
  let b:=B.i2 k j o a;rw[B.full rfl j a] at b;rw[b]
  by_cases z:j=k
  .rw[if_pos z,if_pos z,z]
  .rw[if_neg z,if_neg z];grind
 let n:(rs m λj=>at2 R k j*v j) - at2 R k m=0:=this;rw[g,oN m k _ o] at n;grind
end Mq
namespace Shp
open PySem L2
theorem Ri:Stp m w A0 (λR=>Mq.KI m A1 R/\Mq.KJ m A1 R):=
 ⟨λR r col d b p s h1 h2 h=>⟨h.1.swap s.len h2 (),h.2.swap s.len h2 ()⟩,λR r col d b s h1 h2 a h=>⟨h.1.clear s h1 h2 a,h.2.clear s h1 h2 a⟩⟩
theorem qk3(b:gM X)(c:Mq.Pos qs)(e:qs.length=X.length)(hw:∀row∈X,row.length=X.length)(h:Mq.KJ X.length (Mq.at2 (jA X qs)) R)(s:SI X.length w (Mq.at2 (jA X qs)) R X.length X.length d sg){v:Nat->Rat}(f:∀i,i < X.length->(Mq.rs X.length λj=>tY X i j*v j)=Mq.val (qs.getD i Mq.z0))(a:k < X.length):Mq.at2 R k X.length / (d:Rat)=v k:=by
 refine h.whole s (λi hi=>?_) a;rw[yC b c e hw hi (),if_neg (),<- f i hi,<- gK];refine aX λk a=>?_;rw[yC b c e hw hi (),if_pos a];grind
structure qv8(X:List (List Mq.Q2))(qs ps:List Mq.Q2):Prop extends Slv X qs ps where
 uni:∀v:Nat->Rat,(∀i,i < X.length->(Mq.rs X.length λj=>tY X i j*v j)=Mq.val (qs.getD i Mq.z0))->∀j,j < X.length->Mq.val (ps.getD j Mq.z0)=v j
end Shp
namespace Mq
theorem Wb.rs5(a:K<=32)(h:∀k,k < K->Wb n (f k)):Wb (n+5) (Mq.rs K f):=by
 let⟨z,e,b⟩:=qe1 K h;exists z,e,7;let p:2 ^ (n+5)=32*2 ^ n:=by rw[Nat.pow_add];lia
 let q:K*2 ^ n<=32*2 ^ n:=Nat.mul_le_mul_right _ a;let r:0 < 2 ^ n:=Nat.two_pow_pos n;show z.natAbs < 2 ^ (n+5)
 by_cases k0:K=0
 .subst k0;lia
 .lia
theorem Fa:∀(r:Nat)(M:Mat),r<=32->(∀i j,i < r->Wb n (M i j))->Wb ((n+5)*r+1) (det r M)
 |0,_,_,_=>Wb.one
 |r+1,M,hr,h=>by
  rw[gN];have:=Wb.rs5 (n:=n+((n+5)*r+1)) (K:=r+1) (f:=λj=>sgn (r+j)*M r j*det r λi k=>M i (skip j k)) hr λj _=>((h r j ()).sgn _).mul (Fa r _ () λi k hi=>h i _ ());exact this.mono (by rw[Nat.mul_succ];lia)
section
variable {m:Nat} {A E:Mat} {r col:Nat} {d:Rat} {c:Nat->Nat} {n:Nat}
theorem Bar.wd5(h:Bar m A E r col d c)(a:∀i x,i < m->Wb n (A i x))(hm:m<=31):Wb ((n+5)*r+1) d:=by
 let rm:=h.rm;rw[<- h.i5];exact Fa r _ () λi j hi=>a i _ ()
theorem Bar.wtop5(h:Bar m A E r col d c)(C:∀i x,i < m->Wb n (A i x))(hm:m<=31)(B:k < r)(x:Nat):Wb ((n+5)*r+7) (E k x):=by
 let v:=h.rm;let w:=h.dne
 by_cases b:∃j,j < r/\x=c j
 .let⟨j,a,rfl⟩:=b;rw[h.i2 k j B a];split
  .exact(h.wd5 C hm).mono ()
  .exact Wb.zero _
 .let -zeta c2:Nat->Nat:=λj=>if j=r then x else c j
  let -zeta u:Nat->Rat:=λj=>if j=c k then 1 else 0
  have hΦ:=Md r A c2;let z:=h.i6 _ hΦ (λs hs=>Ml r A c2 hs) k B;let l:u=λy=>(λy=>u y+(-(1 / d))*E k y) y+(1 / d)*E k y:=by
   funext y
   show u y=u y+(-(1 / d))*E k y+(1 / d)*E k y;grind
  let fb:=Ck r A c2 (λy=>u y+(-(1 / d))*E k y) λj a=>by
   let o:c2 j=c j:=by show (if j=r then x else c j)=_;rw[if_neg ()]
   rw[o];show u (c j)+(-(1 / d))*E k (c j)=0;rw[h.i2 k j B a];show (if c j=c k then (1:Rat) else 0)+_=0
   by_cases e:j=k
   .rw[if_pos e,if_pos (by rw[e])];grind
   .rw[if_neg e,if_neg (λq=>e (h.cinj j k a B q))];grind
  let dd:(det r λi j=>A i (c2 j))=d:=by
   rw[<- h.i5];exact cX λi j _ a=>by show A i (if j=r then x else c j)=_;rw[if_neg ()]
  let p:u x=0:=by show (if x=c k then (1:Rat) else 0)=0;rw[if_neg (λq=>b ⟨k,B,q⟩)]
  let t:c2 r=x:=by show (if r=r then x else _)=x;rw[if_pos rfl]
  rw[dd,t] at fb;let val:F r A c2 u=- E k x:=by
   rw[l,hΦ,z,fb];show (u x+(-(1 / d))*E k x)*d+_=_;rw[p];grind
  let g:Wb ((n+5)*r+7) (F r A c2 u):=by
   rw[Pf];have:=Wb.rs5 (n:=1+((n+5)*r+1)) (K:=r+1) (f:=λj=>Mq.sgn (r+j)*u (c2 j)*det r λi k=>A i (c2 (Mq.skip j k))) () λj _=>by
    refine Wb.mul (Wb.sgn ?_ _) (Fa r _ () λi k hi=>C i _ ());show Wb 1 (if c2 j=c k then (1:Rat) else 0);split
    .exact Wb.one
    .exact Wb.zero _
   exact this.mono ()
  rw[val] at g;have:=g.neg
  rwa [show - - E k x=E k x by grind] at this
theorem Bar.wall5(h:Bar m A E r col d c)(g:∀i x,i < m->Wb n (A i x))(hm:m<=31)(hi:i < m)(x:Nat):Wb ((n+5)*(m+1)+8) (E i x):=by
 let a:=h.rm;let mono:=Nat.mul_le_mul_left (n+5) a;let f:(n+5)*(m+1)=(n+5)*m+(n+5):=Nat.mul_succ ..
 by_cases h1:i < r
 .exact(h.wtop5 g hm h1 x).mono ()
 .let q:=h.i4 i x hi;rw[if_neg h1] at q;let e:E i x=d*A i x - rs r λk=>A i (c k)*E k x:=by grind
  rw[e];let b1:Wb (n+((n+5)*r+7)+5) (d*A i x):=((h.wd5 g hm).mul (g i x hi)).mono ();let b2:Wb (n+((n+5)*r+7)+5) (rs r λk=>A i (c k)*E k x):=Wb.rs5 () λk b=>(g i _ hi).mul (h.wtop5 g hm b x);exact(b1.sub b2).mono ()
end
theorem SB.bd5(h:SB n m R r col d)(s:SI m w A0 R r col d sg)(hm:m<=31):BdR ((n+5)*(m+1)+8) R/\B ((n+5)*(m+1)+8) d:=by
 let⟨A,c,B,q⟩:=h;exists λi x=>?_,7
 .by_cases hi:i < m
  .let⟨z,e,b⟩:=B.wall5 q hm hi x;have:ent R i x=z:=Rat.intCast_inj.mp e;rw[this];exact b
  .unfold ent;rw[getD_eq_getElem?_getD (l:=R),getElem?_eq_none (by rw[s.len];lia)];exact Nat.two_pow_pos _
 .let⟨z,e,b⟩:=B.wd5 q hm;have:d=z:=Rat.intCast_inj.mp e;let mono:=Nat.mul_le_mul_left (n+5) B.rm;rw[this];exact b.mono (by rw[Nat.mul_succ];lia)
theorem Qs(j:1<=a)(l:1<=b)(h1:a ∣ L)(h2:b ∣ L):qH a b ∣ L:=by
 let f:gc a b ∣ a:=Int.gcd_dvd_left ..;let c:gc a b≠0:=by have:=yD (a:=a) (b:=b) ();lia
 let⟨x,d⟩:=f;let e:qH a b=x*b:=by
  unfold qH;rw[gQ c d]
 let k:(Int.lcm a b:Int) ∣ L:=Int.coe_lcm_dvd h1 h2;let m:(Int.gcd a b:Int)*(Int.lcm a b:Int)=a*b:=by
  have:=Int.gcd_mul_lcm a b;let h:((Int.gcd a b*Int.lcm a b:Nat):Int)=((a*b).natAbs:Nat):=by rw[this,Int.natAbs_mul]
  rw[Int.natCast_mul] at h;rw[h,Int.natAbs_of_nonneg (Int.mul_nonneg () ())]
 let g:(Int.lcm a b:Int)=x*b:=by
  let i:(Int.gcd a b:Int)=gc a b:=rfl;rw[i] at m;have:gc a b*(Int.lcm a b:Int)=gc a b*(x*b):=by
   rw[m,<- Int.mul_assoc,<- d]
  exact Int.eq_of_mul_eq_mul_left c this
 rw[e,<- g];exact k
theorem Bg:∀{ps:List Q2},Pos ps->(∀p∈ps,p.2 ∣ L)->∀i,i<=ps.length->fB (ps.take i) ∣ L/\1<=fB (ps.take i)
 |ps,hp,h,0,_=>⟨Int.one_dvd _,by rw[take_zero];decide⟩
 |ps,hp,h,i+1,hi=>by
  let⟨a,b⟩:=Bg hp h i ();let hm:ps[i]?=some ps[i]:=getElem?_eq_getElem ();let c:=mem_of_getElem? hm;rw[pH hm];exists Qs b (hp _ c) a (h _ c),7;have:=vS (ps:=ps.take (i+1)) (λp d=>hp p (mem_of_mem_take d))
  rwa [pH hm] at this
end Mq
namespace Shp
open PySem L2
abbrev bw(n m:Nat):Nat:=(n+5)*(m+1)+8
inductive Dk(K:Frag)(vs:vk)(H:Hp)(Q:VK)(E:XK):Prop where
 |mk (l D:Addr) (zs:vk) (R:List (List Int)) (m w n:Nat) (Pr:List (List Int)->Prop):vs=[.ref l,.int (m:Int)]->SqL K H l zs->Imx D H zs R->R.length=m->(∀i,i < m->(R.getD i []).length=w)->m<=w->w<=100->BdR n R->1<=n->bw n m<=9000->m<=31->Pr R->Stp m w (Mq.at2 R) Pr->(∀d l' zs' R' rank pivot sign H',aS H H'->H d=none->H l'=none->H' d=some (Sq l' rank pivot sign)->H' l'=some (.lst zs')->Imx l' H' zs' R'->SI m w (Mq.at2 R) R' rank m pivot sign->BdR (bw n m) R'->Mq.B (bw n m) pivot->Pr R'->Q (.ref d) H')->Dk K vs H Q E
end Shp
namespace L2
open PySem PySem.Spec PyProof.Rows
section
variable (u:Nat->Rat)
def fw(d:RD)(h:Nat):Rat:=match d.1 with
 | .pc=>(u d.2.1.toNat - u d.2.2.1.toNat)*(1 / Mq.val d.2.2.2)
 | .pu=>0
 | .ho=>u h
def nt:Nat->List RD->Nat->Rat
 |_,[],_=>0
 |h,d :: ds,p=>fw u d h*dl d.2.1.toNat d.2.2.1.toNat p+nt (h+cT d.1) ds p
def hw:Nat->List RD->Nat->Rat
 |_,[],_=>0
 |h,d :: ds,y=>(if d.1=.ho/\h=y then u d.2.1.toNat - u d.2.2.1.toNat else 0)+hw (h+cT d.1) ds y
def eg:Nat->List RD->Rat
 |_,[]=>0
 |h,d :: ds=>fw u d h*(u d.2.1.toNat - u d.2.2.1.toNat)+eg (h+cT d.1) ds
end
section
variable {u:Nat->Rat} {m N:Nat}
theorem Lr(F:Nat->Rat)(hs:s < n)(c:g < n):Mq.rs n (λp=>F p*dl s g p)=F s - F g:=by
 let e:∀p,F p*dl s g p=(if s=p then F p else 0) + - (if g=p then F p else 0):=λp=>by
  unfold dl
  by_cases a:s=p<;>by_cases b:g=p<;>simp only[a,b,if_true,if_false]<;>grind
 rw[aX λp _=>e p,fE,pX,yR,yR,if_pos hs,if_pos c];grind
theorem qm3(a:u 0=0)(hs:s<=n)(b:g<=n):Mq.rs n (λi=>u (i+1)*dl s g (i+1))=u s - u g:=by
 have:=Lr u (n:=n+1) (s:=s) (g:=g) () ();rw[xO,a] at this;grind
theorem qz0(j:u 0=0)(pt:cO (m:Int) d.2.1 d.2.2.1)(hm:m<=N+1)(h1:1<=h)(k:d.1=.ho->h<=N):Mq.rs N (λi=>u (i+1)*cM d h (i+1) y)=fw u d h*dl d.2.1.toNat d.2.2.1.toNat y+(if d.1=.ho/\h=y then u d.2.1.toNat - u d.2.2.1.toNat else 0):=by
 let⟨a,b,c,e⟩:=pt;let base:=qm3 (u:=u) (n:=N) (s:=d.2.1.toNat) (g:=d.2.2.1.toNat) j () ();unfold cM fw
 cases hk:d.1 with
 |pc=>
  dsimp only;rw[if_neg (λz=>by cases z.1)];have:∀i,u (i+1)*(dl d.2.1.toNat d.2.2.1.toNat (i+1)*dl d.2.1.toNat d.2.2.1.toNat y*(1 / Mq.val d.2.2.2))=(dl d.2.1.toNat d.2.2.1.toNat y*(1 / Mq.val d.2.2.2))*(u (i+1)*dl d.2.1.toNat d.2.2.1.toNat (i+1)):=λi=>by grind
  rw[aX λi _=>this i,gK,base];grind
 |pu=>
  dsimp only;rw[if_neg (λz=>by cases z.1)];have:∀i,u (i+1)*(0:Rat)=0:=λi=>by grind
  rw[aX λi _=>this i,eV];grind
 |ho=>
  dsimp only;let f:=k hk;let one:Mq.rs N (λi=>u (i+1)*(if h=i+1 then 1 else 0))=u h:=by
   have:∀i,u (i+1)*(if h=i+1 then (1:Rat) else 0)=if h - 1=i then u (i+1) else 0:=λi=>by
    by_cases z:h=i+1
    .rw[if_pos z,if_pos ()];grind
    .rw[if_neg z,if_neg ()];grind
   rw[aX λi _=>this i,yR,if_pos (),show h - 1+1=h by lia]
  have:∀i,u (i+1)*(dl d.2.1.toNat d.2.2.1.toNat (i+1)*(if h=y then 1 else 0)+(if h=i+1 then 1 else 0)*dl d.2.1.toNat d.2.2.1.toNat y)=(if h=y then 1 else 0)*(u (i+1)*dl d.2.1.toNat d.2.2.1.toNat (i+1))+dl d.2.1.toNat d.2.2.1.toNat y*(u (i+1)*(if h=i+1 then 1 else 0)):=λi=>by grind
  rw[aX λi _=>this i,fE,gK,gK,base,one]
  by_cases z:h=y
  .rw[if_pos z,if_pos ⟨8,z⟩];grind
  .rw[if_neg z,if_neg (λq=>z q.2)];grind
theorem Qn(f:u 0=0)(hm:m<=N+1)(y:Nat):∀(ds:List RD)(h:Nat),(∀d∈ds,cO (m:Int) d.2.1 d.2.2.1)->1<=h->h+bZ ds<=N+1->Mq.rs N (λi=>u (i+1)*eqM h ds (i+1) y)=nt u h ds y+hw u h ds y
 | [],h,_,_,_=>by
  have:∀i,u (i+1)*eqM h [] (i+1) y=0:=λi=>by show u (i+1)*(0:Rat)=0;grind
  rw[aX λi _=>this i,eV];show (0:Rat)=0+0;grind
 |d :: ds,h,pt,h1,hN=>by
  rw[gO] at hN;let a:=Qn f hm y ds (h+cT d.1) (λe b=>pt e (mem_cons_of_mem _ b)) () ();let c:=qz0 (u:=u) (N:=N) (h:=h) (y:=y) f (pt d ⋯) hm h1 (λz=>by rw[z] at hN;have:cT .ho=1:=rfl;lia);have:∀i,u (i+1)*eqM h (d :: ds) (i+1) y=u (i+1)*cM d h (i+1) y+u (i+1)*eqM (h+cT d.1) ds (i+1) y:=λi=>by
   show u (i+1)*(cM d h (i+1) y+eqM (h+cT d.1) ds (i+1) y)=_;grind
  rw[aX λi _=>this i,fE,a,c];show _=(fw u d h*dl d.2.1.toNat d.2.2.1.toNat y+nt u (h+cT d.1) ds y)+((if d.1=.ho/\h=y then u d.2.1.toNat - u d.2.2.1.toNat else 0)+hw u (h+cT d.1) ds y)
  grind
theorem Wr:∀(ds:List RD)(h:Nat),y < h->hw u h ds y=0
 | [],_,_=>rfl
 |d :: ds,h,hy=>by
  show (if d.1=.ho/\h=y then u d.2.1.toNat - u d.2.2.1.toNat else 0)+hw u (h+cT d.1) ds y=0;rw[if_neg (λz=>by lia),Wr ds (h+cT d.1) ()];grind
theorem Sn:∀(ds:List RD)(h:Nat),(∀d∈ds,cO (m:Int) d.2.1 d.2.2.1)->m<=y->nt u h ds y=0
 | [],_,_,_=>rfl
 |d :: ds,h,pt,hy=>by
  let⟨a,b,c,e⟩:=pt d ⋯;show fw u d h*dl d.2.1.toNat d.2.2.1.toNat y+nt u (h+cT d.1) ds y=0;rw[Sn ds (h+cT d.1) (λe f=>pt e (mem_cons_of_mem _ f)) hy];unfold dl;rw[if_neg (),if_neg ()];grind
theorem Jy:∀(ds:List RD)(h:Nat),(∀y,h<=y->y < h+bZ ds->hw u h ds y=0)->∀d∈ds,d.1=.ho->u d.2.1.toNat=u d.2.2.1.toNat
 | [],_,_,_,a,_=>by cases a
 |e :: ds,h,all,d,a,hk=>by
  by_cases b:e.1=.ho
  .let c1:cT e.1=1:=by rw[b];rfl
   let first:=all h (Nat.le_refl _) (by rw[gO];lia)
   let f:(if e.1=.ho/\h=h then u e.2.1.toNat - u e.2.2.1.toNat else 0)+hw u (h+cT e.1) ds h=0:=first
   rw[if_pos ⟨b,8⟩,Wr ds (h+cT e.1) ()] at f;rcases mem_cons.mp a with rfl | a
   .grind
   .refine Jy ds (h+cT e.1) (λy g i=>?_) d a hk;have:=all y () (by rw[gO];lia);let c:(if e.1=.ho/\h=y then u e.2.1.toNat - u e.2.2.1.toNat else 0)+hw u (h+cT e.1) ds y=0:=this;rw[if_neg (λz=>by lia)] at c;grind
  .let j:cT e.1=0:=if_neg b;rcases mem_cons.mp a with rfl | a
   .exact absurd hk b
   .refine Jy ds (h+cT e.1) (λy g i=>?_) d a hk;have:=all y () (by rw[gO];lia);let c:(if e.1=.ho/\h=y then u e.2.1.toNat - u e.2.2.1.toNat else 0)+hw u (h+cT e.1) ds y=0:=this;rw[if_neg (λz=>b z.1)] at c;grind
theorem qg0:∀(ds:List RD)(h:Nat),(∀d∈ds,cO (m:Int) d.2.1 d.2.2.1)->Mq.rs m (λp=>u p*nt u h ds p)=eg u h ds
 | [],h,_=>by
  have:∀p,u p*nt u h [] p=0:=λp=>by show u p*(0:Rat)=0;grind
  rw[aX λp _=>this p,eV];rfl
 |d :: ds,h,pt=>by
  let f:=qg0 ds (h+cT d.1) (λe i=>pt e (mem_cons_of_mem _ i));let⟨a,b,c,e⟩:=pt d ⋯;let base:=Lr u (n:=m) (s:=d.2.1.toNat) (g:=d.2.2.1.toNat) () ();have:∀p,u p*nt u h (d :: ds) p=fw u d h*(u p*dl d.2.1.toNat d.2.2.1.toNat p)+u p*nt u (h+cT d.1) ds p:=λp=>by
   show u p*(fw u d h*dl d.2.1.toNat d.2.2.1.toNat p+nt u (h+cT d.1) ds p)=_;grind
  rw[aX λp _=>this p,fE,gK,base,f];rfl
theorem qw0(x:Rat):0<=x*x:=by
 rcases Rat.le_total (a:=0) (b:=x) with h | h
 .exact Rat.mul_nonneg h h
 .have:0<=(-x)*(-x):=Rat.mul_nonneg (by grind) (by grind);grind
theorem Ur{a:Rat}(h:0 < a):0 < 1 / a:=by
 rw[Rat.div_def,Rat.one_mul];exact Rat.inv_pos.mpr h
theorem qf4:∀(ds:List RD)(h:Nat),(∀d∈ds,d.1=.pc->0 < Mq.val d.2.2.2)->(∀d∈ds,d.1=.ho->u d.2.1.toNat=u d.2.2.1.toNat)->0<=eg u h ds/\(eg u h ds=0->∀d∈ds,d.1=.pc->u d.2.1.toNat=u d.2.2.1.toNat)
 | [],_,_,_=>⟨Rat.le_refl,λ_ d c=>by cases c⟩
 |e :: ds,h,pos,ho=>by
  let⟨i1,f⟩:=qf4 ds (h+cT e.1) (λd c=>pos d (mem_cons_of_mem _ c)) (λd c=>ho d (mem_cons_of_mem _ c));let i:eg u h (e :: ds)=fw u e h*(u e.2.1.toNat - u e.2.2.1.toNat)+eg u (h+cT e.1) ds:=rfl;rw[i];generalize eg u (h+cT e.1) ds=r at i1 f;let t:0<=fw u e h*(u e.2.1.toNat - u e.2.2.1.toNat)/\(e.1=.pc->fw u e h*(u e.2.1.toNat - u e.2.2.1.toNat)=0->u e.2.1.toNat=u e.2.2.1.toNat):=by
   unfold fw
   cases hk:e.1 with
   |pu=>exact⟨by grind,λz=>by cases z⟩
   |ho=>exact⟨by rw[ho e ⋯ hk];grind,λz=>by cases z⟩
   |pc=>
    dsimp only;let p:=Ur (pos e ⋯ hk);generalize 1 / Mq.val e.2.2.2=q at p;generalize u e.2.1.toNat=a;generalize u e.2.2.1.toNat=b;let j:(a - b)*q*(a - b)=q*((a - b)*(a - b)):=by grind
    rw[j];exists Rat.mul_nonneg (Rat.le_of_lt p) (qw0 _),λ_ z=>?_;let n:q≠0:=λz=>by rw[z] at p;exact absurd p ∅
    have:(a - b)*(a - b)=0:=by grind
    have:a - b=0:=by grind
    grind
  let⟨k,g⟩:=t;generalize fw u e h*(u e.2.1.toNat - u e.2.2.1.toNat)=x at k g;exists by grind,λz d c hk=>?_;let l:x=0:=by grind
  let m:r=0:=by grind
  rcases mem_cons.mp c with rfl | c
  .exact g hk l
  .exact f m d c hk
theorem Cs(d:RD)(p:Nat):∀(ds:List RD)(h:Nat),nt u h (ds++[d]) p=nt u h ds p+fw u d (h+bZ ds)*dl d.2.1.toNat d.2.2.1.toNat p
 | [],h=>by show fw u d h*_+0=0+fw u d (h+0)*_;rw[Nat.add_zero];grind
 |e :: ds,h=>by
  show fw u e h*_+nt u (h+cT e.1) (ds++[d]) p=fw u e h*_+nt u (h+cT e.1) ds p+_;rw[Cs d p ds,gO,Nat.add_assoc];grind
theorem Iv(F:Nat->Rat):∀(ds:List RD)(h:Nat),(∀d∈ds,cO (m:Int) d.2.1 d.2.2.1)->(∀d∈ds,d.1=.pc->u d.2.1.toNat=u d.2.2.1.toNat)->(∀d∈ds,d.1=.ho->F d.2.1.toNat=F d.2.2.1.toNat)->Mq.rs m (λp=>F p*nt u h ds p)=0
 | [],h,_,_,_=>by
  have:∀p,F p*nt u h [] p=0:=λp=>by show F p*(0:Rat)=0;grind
  rw[aX λp _=>this p,eV]
 |d :: ds,h,pt,hu,hF=>by
  let i:=Iv F ds (h+cT d.1) (λe f=>pt e (mem_cons_of_mem _ f)) (λe f=>hu e (mem_cons_of_mem _ f)) (λe f=>hF e (mem_cons_of_mem _ f));let⟨a,b,c,e⟩:=pt d ⋯;let base:=Lr F (n:=m) (s:=d.2.1.toNat) (g:=d.2.2.1.toNat) () ();have:∀p,F p*nt u h (d :: ds) p=fw u d h*(F p*dl d.2.1.toNat d.2.2.1.toNat p)+F p*nt u (h+cT d.1) ds p:=λp=>by
   show F p*(fw u d h*dl d.2.1.toNat d.2.2.1.toNat p+nt u (h+cT d.1) ds p)=_;grind
  rw[aX λp _=>this p,fE,gK,base,i]
  cases hk:d.1 with
  |pu=>
   have:fw u d h=0:=by unfold fw;rw[hk]
   rw[this];grind
  |pc=>
   have:fw u d h=0:=by unfold fw;rw[hk];dsimp only;rw[hu d ⋯ hk];grind
   rw[this];grind
  |ho=>rw[hF d ⋯ hk];grind
def Frs(ds:List RD):Prop:=∀(A B:List RD)(d:RD),ds=A++d :: B->d.1=.ho->¬Cn (fP .ho A) d.2.1.toNat d.2.2.1.toNat
theorem Lg:∀(n:Nat)(ds:List RD)(h:Nat),ds.length=n->(∀d∈ds,cO (m:Int) d.2.1 d.2.2.1)->Frs ds->(∀d∈ds,d.1=.pc->u d.2.1.toNat=u d.2.2.1.toNat)->(∀p,p < m->nt u h ds p=0)->∀y,h<=y->y < h+bZ ds->u y=0
 |0,ds,h,hl,_,_,_,_,y,h1,h2=>by
  have:ds=[]:=length_eq_zero_iff.mp hl;subst this;have:bZ ([]:List RD)=0:=rfl;lia
 |n+1,ds,h,hl,pt,fr,hu,ze,y,h1,h2=>by
  obtain⟨es,d,rfl⟩:∃es d,ds=es++[d]:=⟨ds.dropLast,ds.getLast (by intro z;rw[z] at hl;cases hl),(dropLast_concat_getLast _).symm⟩
  let le:es.length=n:=by rw[wq] at hl;simpa using hl
  let g:∀x∈es,cO (m:Int) x.2.1 x.2.2.1:=λx a=>pt x (mem_append_left _ a);let i:∀x∈es,x.1=.pc->u x.2.1.toNat=u x.2.2.1.toNat:=λx a=>hu x (mem_append_left _ a);let l:Frs es:=λA B x e a=>fr A (B++[d]) x (by rw[e];simp) a;let⟨w,i1,C,D⟩:=pt d ⋯;let f0:fw u d (h+bZ es)=0:=by
   cases b:d.1 with
   |pu=>unfold fw;rw[b]
   |pc=>unfold fw;rw[b];dsimp only;rw[hu d ⋯ b];grind
   |ho=>
    open Classical in
    let o:=fr es [] d rfl b
    let -zeta F:Nat->Rat:=λp=>if Cn (fP .ho es) d.2.1.toNat p then 1 else 0
    let q:=Iv (u:=u) (m:=m) F es h g i (λx a f=>by
     show (if Cn (fP .ho es) d.2.1.toNat x.2.1.toNat then (1:Rat) else 0)=if Cn (fP .ho es) d.2.1.toNat x.2.2.1.toNat then 1 else 0
     let r:Cn (fP .ho es) x.2.1.toNat x.2.2.1.toNat:=.row (mem_filter.mpr ⟨a,decide_eq_true f⟩) (by rw[f];exact λz=>by cases z)
     by_cases c:Cn (fP .ho es) d.2.1.toNat x.2.1.toNat
     .rw[if_pos c,if_pos (c.trans r)]
     .rw[if_neg c,if_neg (λz=>c (z.trans r.symm))])
    let j:Mq.rs m (λp=>F p*nt u h (es++[d]) p)=0:=by
     have:∀p,p < m->F p*nt u h (es++[d]) p=0:=λp hp=>by rw[ze p hp];grind
     rw[aX this,eV]
    let s:∀p,F p*nt u h (es++[d]) p=F p*nt u h es p+fw u d (h+bZ es)*(F p*dl d.2.1.toNat d.2.2.1.toNat p):=λp=>by rw[Cs];grind
    rw[aX λp _=>s p,fE,q,gK,Lr F () ()] at j;let t:F d.2.1.toNat=1:=if_pos (.refl _);let v:F d.2.2.1.toNat=0:=if_neg o;rw[t,v] at j;grind
  let k:∀p,p < m->nt u h es p=0:=λp hp=>by
   have:=ze p hp;rw[Cs,f0] at this;grind
  rw[iK] at h2
  by_cases c:y < h+bZ es
  .exact Lg n es h le g l i k y h1 c
  .let b:d.1=.ho:=Classical.byContradiction λz=>by
    have:cT d.1=0:=if_neg z;lia
   let c1:cT d.1=1:=by rw[b];rfl
   have:y=h+bZ es:=by lia
   rw[this];unfold fw at f0;rw[b] at f0;exact f0
theorem Za(w:1<=m)(pt:∀d∈ds,cO (m:Int) d.2.1 d.2.2.1)(pos:∀d∈ds,d.1=.pc->0 < Mq.val d.2.2.2)(cn:∀p,p < m->Cn ds 0 p)(fr:Frs ds)(v:u 0=0)(x:∀y,1<=y->y<=m - 1+bZ ds->Mq.rs (m - 1+bZ ds) (λi=>u (i+1)*eqM m ds (i+1) y)=0):∀y,y<=m - 1+bZ ds->u y=0:=by
 let f:∀y,1<=y->y<=m - 1+bZ ds->nt u m ds y+hw u m ds y=0:=λy a b=>by
  have:=x y a b;rw[Qn (m:=m) v () y ds m pt w ()] at this;exact this
 let j:=Jy (u:=u) ds m (λy a b=>by
  have:=f y () ();rw[Sn ds m pt a] at this;grind)
 let np:∀p,1<=p->p < m->nt u m ds p=0:=λp a b=>by
  have:=f p a ();rw[Wr ds m b] at this;grind
 let n:eg u m ds=0:=by
  rw[<- qg0 (u:=u) (m:=m) ds m pt];have:∀p,p < m->u p*nt u m ds p=0:=λp hp=>by
   by_cases c:p=0
   .rw[c,v];grind
   .rw[np p () hp];grind
  rw[aX this,eV]
 let g:=(qf4 (u:=u) ds m pos j).2 n;let o:∀p,p < m->u p=0:=λp hp=>by
  have:=Cn.ind (R:=λa b=>u a=u b) (λ_=>rfl) (λ_ _ e=>e.symm) (λ_ _ _ a b=>a.trans b) (λd l q=>by
   cases h:d.1 with
   |pc=>exact g d l h
   |pu=>exact absurd h q
   |ho=>exact j d l h) (cn p hp)
  rw[<- this,v]
 let all:∀p,p < m->nt u m ds p=0:=λp hp=>by
  by_cases c:p=0
  .let s:=Iv (u:=u) (m:=m) (λ_=>1) ds m pt g (λ_ _ _=>rfl);obtain⟨k,rfl⟩:∃k,m=k+1:=⟨m - 1,6⟩
   rw[xO] at s;have:∀i,i < k->(1:Rat)*nt u (k+1) ds (i+1)=0:=λi hi=>by rw[np (i+1) () ()];grind
   rw[aX this,eV] at s;rw[c];grind
  .exact np p () hp
 let r:=Lg (u:=u) (m:=m) _ ds m rfl pt fr g all;intro y t
 by_cases c:y < m
 .exact o y c
 .exact r y () ()
end
open Shp
section
variable {m N:Nat} {ds:List RD}
structure Nof(m:Nat)(ds:List RD):Prop where
 m1:1<=m
 pt:∀d∈ds,cO (m:Int) d.2.1 d.2.2.1
 pos:∀d∈ds,d.1=.pc->0 < Mq.val d.2.2.2
 cn:∀p,p < m->Cn ds 0 p
 fr:Frs ds
theorem qg8(e:Hc m ds N X Y):X.length=m - 1+bZ ds:=e.x.h
theorem Tq(e:Hc m ds N X Y)(i j:Nat):tY X i j=eqM m ds (i+1) (j+1):=e.vx i j
end
theorem oV:∀(k n:Nat),(bO W sk (n+k)).2=[]->(bO W sk n).2=[]
 |0,n,h=>h
 |k+1,n,h=>by
  refine oV k n ?_;let h:(bO W sk (n+k+1)).2=[]:=h
  cases e:sk[n+k]? with
  |none=>
   have:bO W sk (n+k+1)=bO W sk (n+k):=by
    show (match sk[n+k]? with | none=>bO W sk (n+k) | some d=>eY W (bO W sk (n+k)) (n+k) d)=_;rw[e]
   rw[this] at h;exact h
  |some d=>
   rw[dF e] at h;unfold eY at h;split at h
   .split at h
    .exact h
    .exact absurd h ⋯
   .exact h
theorem Mz:∀n,n<=sk.length->(bO W sk n).2=[]->∀i d,i < n->sk[i]?=some d->W d.1=true->(i,d.2.1,d.2.2)∈(bO W sk n).1
 |0,_,_,i,_,hi,_,_=>absurd hi (Nat.not_lt_zero _)
 |n+1,hn,h,i,d,hi,hd,hW=>by
  let a:=oV 1 n h;let en:sk[n]?=some sk[n]:=getElem?_eq_getElem ();let b:=Mz n () a;rw[dF en] at h ⊢;generalize sk[n]=x at en h ⊢;unfold eY at h ⊢
  by_cases c:i < n
  .have:=b i d c hd hW;split at h
   .rename_i w
    rw[if_pos w];split at h
    .exact mem_append_left _ this
    .exact absurd h ⋯
   .rename_i w
    rw[if_neg w];exact this
  .have:i=n:=by lia
   subst this;rw[en] at hd
   cases hd
   rw[if_pos hW] at h ⊢;split at h
   .exact mem_append_right _ ⋯
   .exact absurd h ⋯
theorem qh5{m:Nat}(G:∀k,W k=true↔k=.ho)(pt:∀d∈ds,cO (m:Int) d.2.1 d.2.2.1)(H:m<=20)(h:(bO W (skl ds) ds.length).2=[]):Frs ds:=by
 intro A B d e s cn;let D:(skl ds).length=ds.length:=by unfold skl;rw[length_map]
 let E:A.length < ds.length:=by rw[e,wq,length_cons];lia
 let j:∀(i:Nat)(x:RD),ds[i]?=some x->(skl ds)[i]?=some (x.1,x.2.1.toNat,x.2.2.1.toNat):=λi x g=>by unfold skl;rw[getElem?_map,g];rfl
 let l:ds[A.length]?=some d:=by rw[e,getElem?_append_right (Nat.le_refl _),Nat.sub_self];rfl
 let h1:(bO W (skl ds) (A.length+1)).2=[]:=oV (ds.length - (A.length+1)) (A.length+1) (by rw[show A.length+1+(ds.length - (A.length+1))=ds.length by lia];exact h);let t:=oV 1 A.length h1;let u:=Mz (W:=W) (sk:=skl ds) A.length () t;let n:=iC (W:=W) (sk:=skl ds) (m:=m) (λx g=>by
  let⟨y,v,rfl⟩:=mem_map.mp g;let⟨a,b,c,f⟩:=pt y v;exact⟨by show y.2.1.toNat < m;lia,by show y.2.2.1.toNat < m;lia⟩) A.length ()
 rw[dF (j _ _ l)] at h1;unfold eY at h1;rw[if_pos ((G _).mpr s)] at h1;let⟨a,b,c,f⟩:=pt d (mem_of_getElem? l);let wi:=Dg (b:=d.2.2.1.toNat) (e:=d.2.1.toNat) n.pt H () ();let none_:jI (bO W (skl ds) A.length).1 d.2.2.1.toNat d.2.1.toNat=none:=by
  split at h1
  .rename_i ew;exact ew
  .exact absurd h1 ⋯
 rw[none_] at wi;refine absurd (wi.mpr ?_) ⋯;refine Cn.ind (ds:=fP .ho A) (R:=λp q=>mk m (cG (bO W (skl ds) A.length).1) p=mk m (cG (bO W (skl ds) A.length).1) q) (λ_=>rfl) (λ_ _ e=>e.symm) (λ_ _ _ x y=>x.trans y) (λx g F=>?_) cn;let⟨w,C⟩:=mem_filter.mp g;let⟨i,hi⟩:=getElem?_of_mem w;let o:=(wk.mp hi).1;let r:ds[i]?=some x:=by rw[e,getElem?_append_left o];exact hi
 have:=u i _ o (j i x r) ((G _).mpr (of_decide_eq_true C));exact qW _ _ rfl (kZ n.pt) (.pc,(x.2.1.toNat:Int),(x.2.2.1.toNat:Int),(0,1)) (mem_map.mpr ⟨_,this,8⟩) (by intro z;cases z)
end L2
namespace Shp
open PySem L2
theorem Oc(j:R0.length=m)(hw:∀i,i < m->(R0.getD i []).length=w)(k:m<=w)(l:Pr R0)(st:Stp m w (Mq.at2 R0) Pr):∀col,col<=m->∃R r d h,SI m w (Mq.at2 R0) R r col d h/\Pr R
 |0,_=>⟨R0,0,1,1,.start j hw,l⟩
 |col+1,hc=>by
  let⟨R,r,d,h,S,p⟩:=Oc j hw k l st col ()
  by_cases f:∀i,r<=i->i < m->ent R i col=0
  .exists R,r,d,h,S.skip f,p
  .let⟨i,hi⟩:=Classical.not_forall.mp f;let⟨h1,hi⟩:=Classical.not_imp.mp hi;let⟨h2,a⟩:=Classical.not_imp.mp hi
   by_cases e:i=r
   .subst e;exists _,_,_,_,S.clear h2 () a,st.cl R i col d h S h2 () a p
   .let b:r < i:=by lia
    let g:=S.swap b h2;let p2:=st.sw R r col d h i S b h2 p;let c:ent (gJ R i r) r col≠0:=by
     have:=Ca (R:=R) (p:=i) (r:=r) (by rw[S.len];lia) (by rw[S.len];lia) r;unfold ent at a ⊢;rw[this,show Mq.sw i r r=i by unfold Mq.sw;simp];exact a
    exists _,_,_,_,g.clear () () c,st.cl _ r col d (-h) g () () c p2
theorem qc7(l:gM X)(hw:∀row∈X,row.length=X.length)(o:1<=X.length)(n:wgt X=0):∃v:Nat->Rat,(∃j,j < X.length/\v j≠0)/\∀x,x < X.length->(Mq.rs X.length λj=>v j*tY X j x)=0:=by
 let⟨R,r,d,h,S,L⟩:=Oc (m:=X.length) (w:=X.length+X.length) (R0:=kW X) (Vp X) (λi hi=>by rw[xV hi,Hv,hw _ (mem_of_getElem? (zI hi))]) () (qc1 l hw) qk0 X.length (Nat.le_refl _);let e:=Sj l (qa1 λi j hi f=>Aa l hw hi f) S;let g:r < X.length:=by
  rcases e with z | z
  .exact z.1
  .exact absurd n z.2
 let⟨⟨k0,b,c⟩,a⟩:=L.lame S g;exists λk=>Mq.at2 R (X.length - 1) (X.length+k),⟨k0,b,λz=>?_⟩,a;exact c (Rat.intCast_inj.mp (by unfold Mq.at2 at z;simpa using z))
end Shp
namespace L2
open Shp
theorem Nof.wgt_ne(o:Nof m ds)(e:Hc m ds N X Y)(g:gM X)(hw:∀row∈X,row.length=X.length)(h:1<=X.length):wgt X≠0:=λa=>by
 let⟨v,⟨j,c,b⟩,hs⟩:=qc7 g hw h a;let n:=qg8 e;let z:=Za (u:=λx=>if x=0 then 0 else v (x - 1)) o.m1 o.pt o.pos o.cn o.fr (if_pos rfl) (λy d f=>by
  let s:=hs (y - 1) ();rw[n] at s;rw[<- s];refine aX λi _=>?_;rw[if_neg (),Nat.add_sub_cancel,Tq e,show y - 1+1=y by lia])
 have:=z (j+1) ();rw[if_neg (),Nat.add_sub_cancel] at this;exact b this
end L2
namespace Mq
theorem Rz(l:Low p){a L:Int}(m:1<=L)(h:val p=(a:Rat) / (L:Rat)):p.2 ∣ L/\p.1.natAbs<=a.natAbs:=by
 let h2:((p.2:Int):Rat)≠0:=by have:=l.pos;exact_mod_cast (show p.2≠0 by lia)
 let j:((L:Int):Rat)≠0:=by exact_mod_cast (show L≠0 by lia)
 let e:p.1*L=a*p.2:=by
  unfold val at h;have:((p.1:Int):Rat)*(L:Rat)=(a:Rat)*((p.2:Int):Rat):=by grind
  exact_mod_cast this
 let d:p.2 ∣ L:=by
  let c:Int.gcd p.2 p.1=1:=by
   have:=l.one;unfold gc at this;rw[Int.gcd_comm];exact_mod_cast this
  let f:Nat.Coprime p.2.natAbs p.1.natAbs:=c;let g:p.2.natAbs ∣ p.1.natAbs*L.natAbs:=by
   rw[<- Int.natAbs_mul,e,Int.natAbs_mul];exact Nat.dvd_mul_left ..
  exact Int.natAbs_dvd_natAbs.mp (f.dvd_of_dvd_mul_left g)
 let⟨t,b⟩:=d;let k:t≠0:=λz=>by rw[z,Int.mul_zero] at b;lia
 let i:p.1*t=a:=by
  have:p.2*(p.1*t)=p.2*a:=by
   rw[Int.mul_comm p.2 a,<- e,b,<- Int.mul_assoc,<- Int.mul_assoc,Int.mul_comm p.2 p.1]
  exact Int.eq_of_mul_eq_mul_left (by have:=l.pos;lia) this
 exists ⟨t,b⟩,7;rw[<- i,Int.natAbs_mul];exact Nat.le_mul_of_pos_right _ ()
def Fr(L:Int)(M:Nat)(x:Rat):Prop:=∃a:Int,x=(a:Rat) / (L:Rat)/\a.natAbs<=M*L.natAbs
section
variable {L K:Int} {M N:Nat} {x y:Rat}
theorem pN(h:1<=L):((L:Int):Rat)≠0:=by exact_mod_cast (show L≠0 by lia)
theorem Fr.mono(h:Fr L M x)(l:M<=N):Fr L N x:=by
 let⟨a,e,b⟩:=h;exists a,e,Nat.le_trans b (Nat.mul_le_mul_right _ l)
theorem Fr.zero:Fr L 0 0:=⟨0,by rw[show ((0:Int):Rat)=0 by rfl,Rat.div_def];grind,⋯⟩
theorem Fr.one(h:1<=L):Fr L 1 1:=⟨L,by have:=pN h;grind,6⟩
theorem Fr.add(h:Fr L M x)(g:Fr L N y):Fr L (M+N) (x+y):=by
 let⟨a,c,e⟩:=h;let⟨b,d,f⟩:=g;exists a+b,7,7
 .rw[c,d,Rat.intCast_add,Rat.div_def,Rat.div_def,Rat.div_def];grind
 .rw[Nat.add_mul];have:=Int.natAbs_add_le a b;lia
theorem Fr.neg(h:Fr L M x):Fr L M (-x):=by
 let⟨a,b,c⟩:=h;refine⟨-a,7,by rw[Int.natAbs_neg];exact c⟩;rw[b,Rat.intCast_neg,Rat.div_def,Rat.div_def];grind
theorem Fr.mul(i:1<=L)(j:1<=K)(h:Fr L M x)(g:Fr K N y):Fr (L*K) (M*N) (x*y):=by
 let⟨a,c,d⟩:=h;let⟨b,e,f⟩:=g;exists a*b,7,7
 .have:=pN i;have:=pN j;rw[c,e,Rat.intCast_mul,Rat.intCast_mul];grind
 .rw[Int.natAbs_mul,Int.natAbs_mul];have:=Nat.mul_le_mul d f;rw[show M*N*(L.natAbs*K.natAbs)=M*L.natAbs*(N*K.natAbs) by rw[Nat.mul_assoc,Nat.mul_assoc,Nat.mul_left_comm N]];exact this
theorem Fr.lift(b:1<=L)(a:1<=K)(h:Fr L M x):Fr (L*K) M x:=by
 have:=Fr.mul b a h (Fr.one a)
 rwa [Nat.mul_one,Rat.mul_one] at this
theorem Fr.lift'(a:1<=L)(b:1<=K)(h:Fr K M x):Fr (L*K) M x:=by
 rw[Int.mul_comm];exact Fr.lift b a h
theorem Fr.of(e:1<=L){t b:Int}(a:1<=b)(d:b ∣ L)(c:t.natAbs<=M):Fr L M ((t:Rat) / (b:Rat)):=by
 let⟨k,rfl⟩:=d;let k1:1<=k:=by
  rcases Int.lt_or_le k 1 with z | z
  .have:=Int.mul_nonpos_of_nonneg_of_nonpos (show 0<=b by lia) (show k<=0 by lia);lia
  .exact z
 exists t*k,7,7
 .have:=pN a;have:=pN k1;rw[Rat.intCast_mul,Rat.intCast_mul];grind
 .rw[Int.natAbs_mul,Int.natAbs_mul];refine Nat.mul_le_mul c (Nat.le_mul_of_pos_left _ ())
theorem Fr.get(h:Fr L M x)(hM:M < 2 ^ m)(e:B n L)(f:m+n<=b):∃a:Int,B b a/\x=(a:Rat) / (L:Rat):=by
 let⟨a,c,d⟩:=h;exists a,7,c;refine B.mono (n:=m+n) ?_ f;show a.natAbs < 2 ^ (m+n);rw[Nat.pow_add];let e:L.natAbs < 2 ^ n:=e;exact Nat.lt_of_le_of_lt d (Nat.mul_lt_mul'' hM e)
end
def prB:List Int->Int
 | []=>1
 |a :: r=>a*prB r
theorem Nt:∀{l:List Int},(∀a∈l,1<=a)->1<=prB l
 | [],_=>Int.le_refl _
 |a :: r,h=>by
  let h1:=h a ⋯;let h2:=Nt (l:=r) λb c=>h b (mem_cons_of_mem _ c);have:=Int.mul_pos (show 0 < a by lia) (show 0 < prB r by lia);show 1<=a*prB r;lia
theorem Nl:∀{l:List Int}{a:Int},a∈l->a ∣ prB l
 |b :: r,a,h=>by
  rcases mem_cons.mp h with z | z
  .rw[z];exact Int.dvd_mul_right ..
  .exact Int.dvd_trans (Nl z) (Int.dvd_mul_left ..)
theorem qf5:∀{l:List Int},(∀a∈l,B u a)->B (u*l.length+1) (prB l)
 | [],_=>show (1:Nat) < 2 ^ (u*0+1) by rw[Nat.mul_zero];decide
 |a :: r,h=>by
  let h1:=h a ⋯;let h2:=qf5 (l:=r) λb c=>h b (mem_cons_of_mem _ c);exact(h1.mul h2).mono (by rw[length_cons,Nat.mul_succ];lia)
end Mq
namespace L2
theorem Re(s g x:Nat):dl s g x=1\/dl s g x=0\/dl s g x=-1:=by
 unfold dl
 by_cases a:s=x<;>by_cases b:g=x<;>simp only[a,b,if_true,if_false]
 .exact .inr (.inl (by grind))
 .exact .inl (by grind)
 .exact .inr (.inr (by grind))
 .exact .inr (.inl (by grind))
theorem Hh(h:Mq.Fr L M y)(s g x:Nat):Mq.Fr L M (dl s g x*y):=by
 rcases Re s g x with e | e | e
 .rw[e,Rat.one_mul];exact h
 .rw[e,Rat.zero_mul];exact Mq.Fr.zero.mono (Nat.zero_le _)
 .rw[e,show (-1:Rat)*y=-y by grind];exact h.neg
open PySem PySem.Spec PyProof.Rows Shp
abbrev Ent:=Option Nat × RD × Mq.Q2
end L2
namespace Mq
theorem qa7{a L l k:Int}(h:1<=p.2)(e:l=k*p.2)(i:1<=l)(d:l ∣ L)(j:1<=L)(v:val p=(a:Rat) / (L:Rat)):(Fe l p).natAbs<=a.natAbs:=by
 let⟨s,rfl⟩:=d;let b:s≠0:=λz=>by rw[z,Int.mul_zero] at j;lia
 let c:=Wa (L:=l) (k:=k) h e;let h2:=pN i;let g:((s:Int):Rat)≠0:=by exact_mod_cast b
 let f:Fe l p*s=a:=by
  have:((Fe l p:Int):Rat)*(s:Rat)=(a:Rat):=by
   rw[c,v,Rat.intCast_mul];grind
  exact_mod_cast this
 rw[<- f,Int.natAbs_mul];exact Nat.le_mul_of_pos_right _ ()
end Mq
namespace Shp
open PySem L2
theorem qc4(o:gM X)(q:Mq.Pos qs)(m:qs.length=X.length)(r:∀row∈X,∀p∈row,p.2 ∣ L/\∃a:Int,Mq.B b a/\Mq.val p=(a:Rat) / (L:Rat))(n:∀p∈qs,p.2 ∣ L/\∃a:Int,Mq.B b a/\Mq.val p=(a:Rat) / (L:Rat))(s:1<=L):BdR b (jA X qs):=λi x=>by
 unfold ent
 by_cases hi:i < X.length
 .rw[wT m hi];let pos:=vC o q m hi;let d:∀p∈X.getD i []++[qs.getD i Mq.z0],p.2 ∣ L/\∃a:Int,Mq.B b a/\Mq.val p=(a:Rat) / (L:Rat):=λp hp=>by
   rcases mem_append.mp hp with z | z
   .exact r _ (mem_of_getElem? (zI hi)) p z
   .let e:p=qs.getD i Mq.z0:=by simpa using z
    rw[e];exact n _ (mem_of_getElem? (Mq.Ub (show i < qs.length by lia)))
  generalize X.getD i []++[qs.getD i Mq.z0]=row at pos d;let⟨f,g⟩:=Mq.Bg pos (λp hp=>(d p hp).1) row.length (Nat.le_refl _);rw[take_length] at f g;unfold iw;rw[getD_eq_getElem?_getD,getElem?_map]
  cases e:row[x]? with
  |none=>exact Nat.two_pow_pos _
  |some p=>
   let c:=mem_of_getElem? e;let⟨_,a,ab,h⟩:=d p c;let⟨k,j⟩:=Hd pos p c;exact ab.le (Mq.qa7 (pos p c) j g f s h)
 .rw[getD_eq_getElem?_getD (l:=jA X qs),getElem?_eq_none (by rw[Gy m];lia)];exact Nat.two_pow_pos _
structure Ovr(n:Nat)(ps:List Mq.Q2):Prop where
 e:∃D:Int,1<=D/\Mq.B n D/\∀p∈ps,∃t:Int,Mq.B n t/\Mq.val p=(t:Rat) / (D:Rat)
theorem Yk(b:d≠0)(bd:Mq.B n d)(h:∀p∈ps,∃t:Int,Mq.B n t/\p=red t d):Ovr n ps:=by
 exists (d.natAbs:Int),6,by show ((d.natAbs:Int)).natAbs < _;rw[Int.natAbs_natCast];exact bd,λp hp=>?_;let⟨t,a,rfl⟩:=h p hp;rw[jH b];rcases Int.lt_or_le d 0 with z | z
 .exists -t,a.neg,7;rw[show ((d.natAbs:Nat):Int)=-d by lia,Rat.intCast_neg,Rat.intCast_neg];have:((d:Int):Rat)≠0:=by exact_mod_cast b
  grind
 .exists t,a,by rw[show ((d.natAbs:Nat):Int)=d by lia]
inductive uC(K:Frag)(vs:vk)(H:Hp)(Q:VK)(E:XK):Prop where
 |mk (g b D:Addr) (H0:Hp) (us bs:vk) (X:List (List Mq.Q2)) (qs:List Mq.Q2) (k n:Nat):vs=[.ref g,.ref b]->SqL K H g us->Fmd K H0 D H us X->SqL K H b bs->Fqs K H bs qs->qs.length=X.length->dP qs->(∀p∈qs,Mq.Bd k p)->gM X->(∀row∈X,(∀p∈row,Mq.Bd k p)/\row.length=X.length)->X.length<=26->10+k+k*(X.length+1)<=8000->BdR n (jA X qs)->1<=n->bw n X.length<=8900->wgt X≠0->(∀l zs ps H',aS H H'->H l=none->H' l=some (.lst zs)->Fqs K H' zs ps->qv8 X qs ps->Ovr (bw n X.length) ps->Q (.ref l) H')->uC K vs H Q E
end Shp
namespace L2
open PySem
section
variable {X:Cx}
theorem Af(I:Inv X pins σ H s)(e:H a=some (kT a (.ref C) (some dx)))(g:H dx=some (.xd fs)):∃ox od,W.InstAt s.heap a ox C (some od):=by
 let⟨⟨b,vs,h1,h2,c,h4⟩,_⟩:=(show cP X.prog X.w H s.heap a (kT a (.ref C) (some dx)) from I.hok a _ e)
 let⟨mA,d,r⟩:=(show cP X.prog X.w H s.heap dx (.xd fs) from I.hok dx _ g)
 let⟨od,ho,f⟩:=uO d;exists b,od,h1,h2,by unfold W.notCls;rw[h4],by rw[c];exact ho
theorem Ib:jF X (.builtin "isinstance") (λxs H Q=>∃a C dx fs c p b,xs=[.ref a,c]/\H a=some (kT a (.ref C) (some dx))/\H dx=some (.xd fs)/\tX X.K C/\cE c p/\(∀u,cE c u->u=p)/\W.kitOne X.K (.ref C) p=some b/\Q (.bl b) H):=by
 intro pins s σ H xs n Q I r h;let⟨a,C,dx,fs,c,p,b,rfl,f,d,k,o,g,e,q⟩:=h;let⟨u,i,rfl,j,l⟩:=xE r
 cases (show u=Value.ref a from j)
 cases g i l
 let⟨ox,m,hi⟩:=Af I f d;exact W.kia_one (qU (ox:=ox) (odo:=some m) k) I.kIn hi e (λz=>nomatch z) λtk=>⟨.bl b,H,I.tok tk,8,q⟩
theorem Fi:jF X (.builtin "isinstance") (λxs H Q=>∃(a C dx:Addr)(fs:List (Str × V))(B:Addr)(D:List Addr)(b:Bool),xs=[.ref a,.ref B]/\H a=some (kT a (.ref C) (some dx))/\H dx=some (.xd fs)/\tX X.K C/\H B=some (.tup (D.map V.ref))/\W.kitAny X.K (.ref C) (D.map Value.ref)=some b/\Q (.bl b) H):=by
 intro pins s σ H xs A Q I r h;let⟨a,C,dx,fs,B,D,b,rfl,f,c,k,g,e,q⟩:=h;let⟨u,i,rfl,j,l⟩:=xE r
 cases (show u=Value.ref a from j)
 cases (show i=Value.ref B from l)
 let⟨ox,m,hi⟩:=Af I f c;let⟨v,p,⟨o,h1,h2,n,d⟩,_⟩:=I.tuple (SqT.of g);let t:=uI p;subst t;let⟨oc,w,x,y⟩:=o;dsimp only at h2 d;subst h2 d;exact W.kia_tup (qU (ox:=ox) (odo:=some m) k) I.kIn hi h1 e (λz=>nomatch z) λtk=>⟨.bl b,H,I.tok tk,8,q⟩
end
open PySem.Spec PyProof.Rows
section
variable {X:Cx} {C C0 f:Addr}
theorem zB:jF X (.builtin "ValueError.__init__") (λxs H Q=>∃a C C0 f d v S,xs=[.ref a,v,S]/\H a=some (iI a (.ref C) d)/\lH X.K C C0 f/\Q .non H):=by
 intro pins s σ H xs A Q I r h;let⟨a,C,C0,f,d,v,S,rfl,j,q,B⟩:=h;obtain⟨i,c,rfl,D,E⟩:∃i c,A=i :: c/\cE (.ref a) i/\cB [v,S] c:=by cases r with | cons p q=>exact⟨_,9,p,q⟩
 obtain rfl:i=Value.ref a:=D;let⟨⟨t,k⟩,_⟩:=(show cP X.prog X.w H s.heap a (iI a (.ref C) d) from I.hok a _ j)
 let⟨nm,P,N,bs,sn,sub,ab,col,dd,k0,k1,k2,k3,k5,G⟩:=q.cls;let l:=PySem.F.excBase_ValueError;let T:=q.tail I.kIn;let J:c.length=2:=E.length.symm;let L:=I.kIn _ _ G;let m:∀s',s'={ s with heap:=(s.heap.push { cls:=.type "tuple",data:=.seq c.toArray }).update a (Obj.mapFields (·.setIfInBounds 0 (.ref s.heap.objs.size))) }->EP X pins σ Q .none s':=by
  rintro s' rfl;let M:Inv X pins σ H { s with heap:=s.heap.push { cls:=.type "tuple",data:=.seq c.toArray } }:=I.kept (t':=s.toks) λb o e=>Heap.get?_push_of_some _ e;let n:=Heap.get?_push_of_some (h:=s.heap) { cls:=.type "tuple",data:=.seq c.toArray } k;let y:=Heap.get?_update_self (Obj.mapFields (·.setIfInBounds 0 (.ref s.heap.objs.size))) n rfl;let z:=M.write (x:=a) (e:=a) (t':=s.toks) (o:=iI a (.ref C) d) (by rw[j];exact True.intro) (.inl rfl) (λb u O e=>(Heap.get?_update_other _ _ (Ne.symm O)).trans e) ⟨_,y⟩ (rK (t:=s.heap.objs.size) y);rw[Tx j] at z;exists .non,H,z,8,B
 let⟨hp,g,R,tk,os⟩:=s;refine wpAny_call (codeAny_call_builtin l.init.plain l.initEntry (wpAny_check_init_subU l T L k rfl ?_));unfold Builtin.«BaseException.__init__»;dsimp only;rw[if_neg ⋯];unfold newTuple Builtin.BaseException.bexcPut;have he₁:=Heap.get?_push_of_some (h:=hp) { cls:=.type "tuple",data:=.seq c.toArray } k;refine wpAny_bind (wpAny_newObj_type (wpAny_bind (wpAny_bind (wpAny_field he₁ rfl rfl (wpAny_bind (wpAny_setField he₁ rfl (show 0 < 6 by decide) ?_))))) (by show c.toArray.size<=sizeLine;rw[size_toArray,J];decide));exact wpAny_letGo (wpAny_pure (m _ rfl))
def Qf(K:Frag)(ta:TA):TE:=λσ H Q=>ta σ H λvs H1=>∃a C C0 f d v v2,vs=[.ref a,v,v2]/\H1 a=some (iI a (.ref C) d)/\lH K C C0 f/\Q .non H1
theorem Hu(m:Gl X x)(hm:X.mg x=some (.ref C0))(c:Wy X.K C0)(n:PA X (e :: es) t)(k:(x == ("__debug__":Str))=false:=by decide)(l:starEach (e :: es) X.env=(false,eval e X.env) :: starEach es X.env:=by rfl)(hpl:(backTo pos (starEach es X.env)).any (·.1)=false:=by rfl)(o:eval (.Call (.Attribute (.Name x np) "__init__" apos) (e :: es) [] pos) X.env=(do
   let ov <- eval (.Name x np) X.env
   standAt apos.atName
   let (f,first) <- holding [ov] (getMethod ov "__init__" pl)
   callWith pos f first (backTo pos (starEach (e :: es) X.env)) (backToKw pos (keywordEach [] X.env))):=by rfl):
  PE X (.Call (.Attribute (.Name x np) "__init__" apos) (e :: es) [] pos) (Qf X.K t):=by
 intro pins s σ H Q I h;refine W.methodCall_KW (pl:=pl) (jG I m hm ?_ k) o;refine W.method_cls I.kIn c.sp (W.cls_value I.kIn c.rd c.fi rfl ?_);let a:Inv X pins σ H { s with toks:=s.toks+1 }:=I.tok _;exact PyProof.Rows.callWith_builtin1 (thn (n pos pins _ σ H _ a h) λb d ⟨vs,H1,g,i,j⟩=>zB pins d σ H1 vs b Q g i j) l hpl
end
section
variable {prog:Program} {w:World} {A:Around} {E:Value->Shared->Prop} {s:Shared} {K:Frag} {x C C0 f:Addr} {name:Str} {v:Value} {vs:Array Value}
theorem Tu(X:K.In s.heap)(q:lH K C C0 f)(N:s.heap.get? x=some { cls:=.ref C,dict:=some d,data:=.fields vs })(M:s.heap.Ns1 d m)(hw:Within m ns)(P:ns.length<=20)(hs:W.findIn K (.ref C) "__setattr__"=some (some (.builtin "object.__setattr__")))(O:W.findIn K (.ref C) name=some none)(h:∀h',(h'.Ns1 d λy=>if y=name then some v else m y)->Heap.SameBut d s.heap h'->∀tk,Q .unit { s with heap:=h',toks:=tk }):
  wpAny (model prog w) A (setAttr (.ref x) name v) Q E s:=by
 let⟨j,r,t,e,u,G⟩:=id M;let J:W.InstAt s.heap x { cls:=.ref C,dict:=some d,data:=.fields vs } C (some j):=⟨N,8,8,e⟩
 let a:=PySem.F.store_object;let z:=PySem.F.store_ValueError;let⟨B,g,hm,D⟩:=q.cin;refine W.set_plain X J hs ?_;let sub:W.Looks (model prog w) s.heap (isInstance (.ref x) (.type "object")) true:=J.type.andThen (W.looks_mroIn X (by unfold W.mroIn;rw[g,Option.bind_some,hm];rfl));refine codeAny_call_builtin a.slot.plain a.entry (@W.check_slot (model prog w) _ _ { s with toks:=s.toks+1 } "object.__setattr__" "object" "__setattr__" (.ref x) [.str name s.toks,v] [] _ a.kind a.split sub (a.args (.ref x) (.str name s.toks) v) ?_);let i:W.Looks (model prog w) s.heap (mroOf (.ref C)) B.mro:=(W.looks_clsIn X g).andThen .now;rw[W.osa_eq,refuse_eq];refine wpAny_bind (wpAny_bind (W.Looks.here (s:={ s with toks:=s.toks+1 }) J.type (wpAny_bind (W.Looks.here (s:={ s with toks:=s.toks+1 }) i ?_))));rw[hm,refuseLoop_ref,refuseLoop_ref,z.passes];refine wpAny_pure (wpAny_bind (W.Looks.here (s:={ s with toks:=s.toks+1 }) J.type (wpAny_bind (W.Looks.here (s:={ s with toks:=s.toks+1 }) (W.looks_findIn X O) (wpAny_bind (wpAny_pure ?_))))));dsimp only;refine wpAny_bind (wpAny_pure (wpAny_bind (wpAny_bind (wpAny_loadPart N (wpAny_bind (W.Looks.here (s:={ s with toks:=s.toks+1 }) (W.looks_clsIn X g) ?_))))));rw[D,if_neg ∅];dsimp only;refine wpAny_pure ?_;show wpAny _ _ (Builtin.ObjectAttr.storeInDict d (.str name s.toks) name v) _ _ _;unfold Builtin.ObjectAttr.storeInDict Builtin.ObjectAttr.newKeyGuard;refine wpAny_bind (wpAny_pure (wpAny_bind (wpAny_nsSet1 (s:={ s with toks:=s.toks+1 }) M λh' b k=>?_)));let⟨L,H,I,l,n,o⟩:=b.count (ns:=name :: ns) (λy p=>by
  by_cases c:y=name
  .rw[c];exact mem_cons_self ..
  .rw[if_neg c] at p;exact mem_cons_of_mem _ (hw y p))
 refine wpAny_bind (wpAny_lookBehind l (by rw[n];exact pastItsLine_dict (Nat.le_trans o (by rw[length_cons,sizeLine_eq];lia))) ?_);refine wpAny_pure ?_;exact h h' b k _
end
section
variable {X:Cx} {o value:Expr} {nm:Str} {pos pos':Pos} {ta tv:TE}
def xdE(a:Addr)(fs:List (Str × V)):HO:=.ext λh=>∃mA,h.Ns1 a mA/\∀f,kK (fs.lookup f) (mA f)
theorem qi7(e:h.Ns1 a mA)(r:∀f,kK (fs.lookup f) (mA f)):cP P w H h a (xdE a fs):=by
 let⟨o,es,m,d,n⟩:=id e;exists ⟨mA,e,r⟩,⟨_,d⟩,λh1 h2 ⟨g,⟨o',b,c,i,j⟩,l⟩ k=>⟨g,⟨o',b,c,k _ i,j⟩,l⟩
def qp7(K:Frag)(ta tv:TE)(nm:Str):TS:=λD σ H=>tv σ H λy H1=>ta σ H1 λx H2=>∃a C C0 f,x=.ref a/\H2 a=some (iI a (.ref C) none)/\lH K C C0 f/\Ci K C nm/\
 ∀dx,H2 dx=none->D.nx σ (upd (upd H2 dx (xdE dx [(nm,y)])) a (iI a (.ref C) (some dx)))
theorem Uw(U:PE X o ta)(V:PE X value tv)(hs:swapsWith value (some (.Attribute o nm pos')) pos.line X.env=pure false):PS X (.Assign [.Attribute o nm pos'] value pos) (qp7 X.K ta tv nm):=by
 intro pins s σ H D I h;refine plainObj_wpAny_Assign_Attribute (thn (V pins s σ H _ I h) λu B ⟨y,H1,E,F,q⟩=>thn (U pins B σ H1 _ E q) λG c ⟨x,H2,i,J,a,C,C0,f,ex,n,L,p,M⟩=>?_) hs;subst ex;obtain rfl:G=Value.ref a:=J;let⟨⟨t,k⟩,_⟩:=(show cP X.prog X.w H2 c.heap a (iI a (.ref C) none) from i.hok a _ n)
 refine Lz i.kIn L k p.sa p.no λh' l N O tk=>?_;let fr:H2 c.heap.objs.size=none:=i.hok.fresh (Nat.le_refl _);exists σ,_,7,M _ fr;let r:a≠c.heap.objs.size:=Nat.ne_of_lt (Heap.lt_size k);let v:=Heap.get?_update_self (λ_:Obj=>({ cls:=.ref C,data:=.fields #[.ref t,.none,.none,.none,.bool false,.none] }:Obj)) l rfl;let j:∀b,b≠a->(h'.update a λ_:Obj=>({ cls:=.ref C,data:=.fields #[.ref t,.none,.none,.none,.bool false,.none] }:Obj)).get? b=h'.get? b:=λb d=>Heap.get?_update_other _ _ (Ne.symm d);generalize h'.update a (λ_:Obj=>({ cls:=.ref C,data:=.fields #[.ref t,.none,.none,.none,.bool false,.none] }:Obj))=h1 at v j;let P:Inv X pins σ (upd H2 c.heap.objs.size (xdE c.heap.objs.size [(nm,y)])) { c with heap:=h1,toks:=c.toks }:=by
  refine i.laid (a:=c.heap.objs.size) (o:=xdE c.heap.objs.size [(nm,y)]) (h':=h1) (t':=c.toks) (λb u e=>?_) (Nat.le_refl _) ?_
  .by_cases d:b=a
   .subst d;rw[k] at e;cases e;exact v
   .rw[j b d];exact O b u d e
  .let⟨Q,es,R,S,T⟩:=N;refine qi7 ⟨Q,es,R,(j _ (Ne.symm r)).trans S,T⟩ λg=>?_
   by_cases m:g=nm
   .subst m;rw[if_pos rfl,lookup_cons,beq_self_eq_true];exact F
   .have:(g == nm)=false:=beq_eq_false_iff_ne.mpr m;rw[if_neg m,lookup_cons,this];exact True.intro
 let A:upd H2 c.heap.objs.size (xdE c.heap.objs.size [(nm,y)]) a=some (iI a (.ref C) none):=by rw[aQ r];exact n
 exact P.write (x:=a) (e:=a) (h':=h') (t':=tk) (by rw[A];exact True.intro) (.inl rfl) (λb u d z=>by rw[<- j b d];exact z) ⟨_,l⟩ (rK l)
def qq8(K:Frag)(ta tv:TE)(nm:Str):TS:=λD σ H=>tv σ H λy H1=>ta σ H1 λx H2=>∃a C C0 f dx n1 y1,x=.ref a/\H2 a=some (iI a (.ref C) (some dx))/\H2 dx=some (xdE dx [(n1,y1)])/\n1≠nm/\lH K C C0 f/\Ci K C nm/\
 D.nx σ (upd H2 dx (.xd [(n1,y1),(nm,y)]))
theorem Vd(U:PE X o ta)(V:PE X value tv)(hs:swapsWith value (some (.Attribute o nm pos')) pos.line X.env=pure false):PS X (.Assign [.Attribute o nm pos'] value pos) (qq8 X.K ta tv nm):=by
 intro pins s σ H D I h;refine plainObj_wpAny_Assign_Attribute (thn (V pins s σ H _ I h) λu n ⟨y,H1,p,r,q⟩=>thn (U pins n σ H1 _ p q) λA i ⟨x,H2,d,B,a,C,C0,f,dx,n1,E,ex,F,j,G,J,k,L⟩=>?_) hs;subst ex;obtain rfl:A=Value.ref a:=B;let⟨⟨t,M⟩,_⟩:=(show cP X.prog X.w H2 i.heap a (iI a (.ref C) (some dx)) from d.hok a _ F)
 let⟨⟨mA,hm,l⟩,_⟩:=(show cP X.prog X.w H2 i.heap dx (xdE dx [(n1,E)]) from d.hok dx _ j)
 refine Tu (ns:=[n1]) d.kIn J M hm (λg N=>?_) (by show 1<=20;decide) k.sa k.no λh' m O tk=>?_
 .by_cases c:g=n1
  .rw[c];exact mem_cons_self ..
  .exfalso
   have:=l g;rw[lookup_cons,beq_eq_false_iff_ne.mpr c] at this;apply N
   cases e:mA g with
   |none=>rfl
   |some v=>rw[e] at this;exact absurd this (by intro z;exact z)
 .exists σ,_,7,L;let⟨R,es,S,P,T⟩:=id m;refine d.write (x:=dx) (e:=dx) (h':=h') (t':=tk) (by rw[j];exact True.intro) (.inl rfl) (λb u Q z=>(O.2 b Q).trans z) ⟨_,P⟩ ⟨_,m,λg=>?_⟩
  by_cases c:g=nm
  .subst c;rw[if_pos rfl,lookup_cons,beq_eq_false_iff_ne.mpr (Ne.symm G),lookup_cons,beq_self_eq_true];exact r
  .rw[if_neg c];have:=l g
   by_cases c1:g=n1
   .subst c1;rw[lookup_cons,beq_self_eq_true] at this ⊢;exact this
   .rw[lookup_cons,beq_eq_false_iff_ne.mpr c1] at this ⊢;rw[lookup_cons,beq_eq_false_iff_ne.mpr c];exact this
end
open Shp
abbrev wd(m:Nat)(ds:List RD):Nat:=m - 1+bZ ds
structure Sv(m:Nat)(ds:List RD)(r:Nat->Rat)(v:Nat->Rat):Prop where
 z:v 0=0
 e:∀i,i < wd m ds->(Mq.rs (wd m ds) λj=>eqM m ds (i+1) (j+1)*v (j+1))=r (i+1)
theorem cQ.seqI{K:Frag}(b:H t=some (.ins C dx fs))(e:cQ t H H')(h:SqL K H a xs):SqL K H' a xs:=by
 rcases h with (h | ⟨u,h⟩) | h
 .exact .inl (.inl (e _ _ h (gV h b (λz=>by cases z))))
 .exact .inl (.inr ⟨u,e _ _ h (gV h b (λz=>by cases z))⟩)
 .exact .inr h
theorem cQ.seqTI{K:Frag}(b:H t=some (.ins C dx fs))(e:cQ t H H')(h:SqT K H a xs):SqT K H' a xs:=by
 rcases h with (h | ⟨u,h⟩) | h
 .exact .inl (.inl (e _ _ h (gV h b (λz=>by cases z))))
 .exact .inl (.inr ⟨u,e _ _ h (gV h b (λz=>by cases z))⟩)
 .exact .inr h
theorem cQ.fqsI{K:Frag}(a:H t=some (.ins C dx fs))(e:cQ t H H'):∀{xs:vk}{ps:List Mq.Q2},Fqs K H xs ps->Fqs K H' xs ps
 |_,_,.nil=>.nil
 |_,_,.cons f q=>.cons (cQ.seqTI a e f) (cQ.fqsI a e q)
theorem glo:¬(("levels":Str) = "flows"):=by decide +kernel
def lT(p l a:Addr):List (Str × V):=fM "flows" (.ref a) (fM "levels" (.ref l) (fM "lines" (.ref p) []))
theorem Xn(p l a:Addr):(lT p l a).lookup ("levels":Str)=some (.ref l):=by
 unfold lT;rw[bQ,if_neg glo,bQ,if_pos rfl]
theorem Zn(p l a:Addr):(lT p l a).lookup ("flows":Str)=some (.ref a):=by
 unfold lT;rw[bQ,if_pos rfl]
theorem vZ(p l a:Addr){x:Str}(h1:¬x = "lines")(h2:¬x = "levels")(b:¬x = "flows"):(lT p l a).lookup x=none:=by
 unfold lT;rw[bQ,if_neg b,bQ,if_neg h2,bQ,if_neg h1];rfl
structure AB(K:Frag)(mg:Str->Option Value)(CA:Addr):Prop where
 cl:Cls K CA
 nI:iB K CA "lines"
 nE:iB K CA "levels"
 nO:iB K CA "flows"
 mA:mg "Answer"=some (.ref CA)
structure yU(CA:Addr)(K:Frag)(H:Hp)(a:Addr)(lv fl:List Mq.Q2):Prop where
 e:∃(dx li le fo:Addr)(xs ys:vk),H a=some (.ins CA dx (lT li le fo))/\SqL K H le xs/\Fqs K H xs lv/\SqL K H fo ys/\Fqs K H ys fl
theorem yU.same{K:Frag}(s:aS H H')(h:yU CA K H a lv fl):yU CA K H' a lv fl:=by
 let⟨dx,b,le,c,xs,ys,h1,h2,d,h4,f⟩:=h.e;exists dx,b,le,c,xs,ys,s _ _ h1,s.seq h2,d.same s,s.seq h4,f.same s
inductive uL(CA:Addr)(K:Frag)(vs:vk)(H:Hp)(Q:VK)(E:XK):Prop where
 |mk (a:Addr) (lv fl:List Mq.Q2):vs=[.ref a]->yU CA K H a lv fl->(∀l xs H',aS H H'->H l=none->H' l=some (.lst xs)->Fqs K H' xs lv->Q (.ref l) H')->uL CA K vs H Q E
inductive oW(CA:Addr)(K:Frag)(vs:vk)(H:Hp)(Q:VK)(E:XK):Prop where
 |mk (a:Addr) (lv fl:List Mq.Q2):vs=[.ref a]->yU CA K H a lv fl->(∀l xs H',aS H H'->H l=none->H' l=some (.lst xs)->Fqs K H' xs fl->Q (.ref l) H')->oW CA K vs H Q E
def yY(lv hs:List Mq.Q2)(t:Nat)(d:RD):Mq.Q2:=zH d.1 (flF lv d) (if d.1=.ho then hs.getD t Mq.z0 else (0,1)) d.2.2.2
def sU(lv hs:List Mq.Q2):Nat->List RD->List Mq.Q2
 |_,[]=>[]
 |t,d :: r=>yY lv hs t d :: sU lv hs (t+cT d.1) r
theorem Av(lv hs:List Mq.Q2)(d:RD):∀(ds:List RD)(t:Nat),sU lv hs t (ds++[d])=sU lv hs t ds++[yY lv hs (t+bZ ds) d]
 | [],t=>rfl
 |e :: r,t=>by
  show _ :: sU lv hs (t+cT e.1) (r++[d])=_ :: (sU lv hs (t+cT e.1) r++_);rw[Av lv hs d r,gO,Nat.add_assoc]
theorem nC(lv hs:List Mq.Q2):∀(ds:List RD)(t:Nat),(sU lv hs t ds).length=ds.length
 | [],_=>rfl
 |d :: r,t=>by show (sU lv hs _ r).length+1=r.length+1;rw[nC lv hs r]
def lvS(m:Nat)(sol:List Mq.Q2):List Mq.Q2:=(0,1) :: sol.take (m - 1)
section
variable {l CA a:Addr} {K:Frag} {H H':Hp} {lv fl:List Mq.Q2}
theorem cQ.fqsL(a:H l=some (.lst as))(e:cQ l H H'):∀{xs:vk}{ps:List Mq.Q2},Fqs K H xs ps->Fqs K H' xs ps
 |_,_,.nil=>.nil
 |_,_,.cons f q=>.cons (e.seqT a f) (cQ.fqsL a e q)
end
theorem pZ(l:Mq.Low p)(c:1<=L)(e:Mq.B b L)(ab:Mq.B b a)(h:Mq.val p=(a:Rat) / (L:Rat)):Mq.Bd b p/\p.2 ∣ L:=by
 let⟨d,t⟩:=Mq.Rz l c h;exists ⟨ab.le t,e.le ?_⟩,d;have:=Int.le_of_dvd () d;have:=l.pos;lia
structure EqB(m b:Nat)(L:Int)(ds:List RD):Prop where
 o:Nof m ds
 w26:wd m ds<=26
 b1:1<=b
 hb:10+b+b*(wd m ds+1)<=8000
 hbw:bw b (wd m ds)<=4000
 L1:1<=L
 LB:Mq.B b L
 eM:∀i j,∃a:Int,Mq.B b a/\eqM m ds (i+1) (j+1)=(a:Rat) / (L:Rat)
def uP(sol:List Mq.Q2)(x:Nat):Rat:=if x=0 then 0 else Mq.val (sol.getD (x - 1) Mq.z0)
section
variable {m b N:Nat} {L:Int} {ds:List RD} {X:List (List Mq.Q2)} {Y qs ps:List Mq.Q2}
theorem EqB.cell(h:EqB m b L ds)(e:Hc m ds N X Y):∀row∈X,(∀p∈row,Mq.Bd b p/\p.2 ∣ L/\∃a:Int,Mq.B b a/\Mq.val p=(a:Rat) / (L:Rat))/\row.length=X.length:=λrow c=>by
 refine⟨λp hp=>?_,by rw[e.x.w row c,e.x.h]⟩;let⟨i,hi⟩:=getElem?_of_mem c;let⟨j,d⟩:=getElem?_of_mem hp;let f:p=kQ X i j:=by
  unfold kQ;rw[getD_eq_getElem?_getD (l:=X),hi];show p=row.getD j (0,1);rw[getD_eq_getElem?_getD,d];rfl
 let⟨a,ab,g⟩:=h.eM i j;let ev:Mq.val p=(a:Rat) / (L:Rat):=by rw[f,e.vx,g]
 let⟨x,y⟩:=pZ (e.x.l row c p hp).1 h.L1 h.LB ab ev;exists x,y,a,ab,ev
theorem EqB.pos(e:Hc m ds N X Y):gM X:=λrow a p hp=>(e.x.l row a p hp).1.pos
theorem EqB.wgt(h:EqB m b L ds)(e:Hc m ds N X Y):wgt X≠0:=by
 by_cases c:1<=X.length
 .exact h.o.wgt_ne e (EqB.pos e) (λrow a=>(h.cell e row a).2) c
 .have:X=[]:=eq_nil_of_length_eq_zero ();subst this;show (1:Rat)≠0;decide
theorem EqB.sol(e:Hc m ds N X Y)(s:qv8 X qs ps)(b:∀i,i < wd m ds->Mq.val (qs.getD i Mq.z0)=r (i+1)):Sv m ds r (uP ps):=by
 let a:X.length=wd m ds:=e.x.h;exists if_pos rfl,λi hi=>?_;rw[<- b i hi,<- s.sum i (),a];refine aX λj _=>?_;unfold uP;rw[if_neg (),Nat.add_sub_cancel,Tq e]
end
theorem Cu(a:1<=m)(b:m - 1<=ps.length):(lvS m ps).length=m:=by
 unfold lvS;rw[length_cons,length_take];lia
theorem rB(h:dP ps):dP (lvS m ps):=λp hp=>by
 rcases mem_cons.mp hp with z | z
 .rw[z];exists ∅,∅
 .exact h p (mem_of_mem_take z)
theorem Kg(h:Ovr n ps):Ovr n (lvS m ps):=by
 let⟨D,a,b,c⟩:=h.e;exists D,a,b,λp hp=>?_;rcases mem_cons.mp hp with z | z
 .exists 0,Nat.two_pow_pos _,7;rw[z,Mq.mQ,Rat.div_def];show (0:Rat)=((0:Int):Rat)*_;rw[show ((0:Int):Rat)=0 by rfl];grind
 .exact c p (mem_of_mem_take z)
theorem Ovr.minus(h:Ovr n ps)(j:dP ps)(hp:p∈ps)(k:q∈ps):Mq.Bd (n+1) (Mq.minus p q)/\Mq.Bd n p/\Mq.Bd n q:=by
 let⟨D,a,b,f⟩:=h.e;let⟨t,g,i⟩:=f p hp;let⟨s,bs,es⟩:=f q k;let c:=j p hp;let d:=j q k;exists 7,(pZ c a b g i).1,(pZ d a b bs es).1;refine(pZ (Mq.cH c.pos d.pos) a (b.mono ()) (g.sub bs) ?_).1;rw[Mq.dS c.pos d.pos,i,es,Rat.intCast_sub,Rat.div_def,Rat.div_def,Rat.div_def];grind
structure Rc(CN:Addr)(K:Frag)(H:Hp)(n l:Addr)(m b:Nat)(kb:Nat->Nat)(L:Int)(ds:List RD):Prop where
 nt:dB CN K H n l (m:Int) ds
 ok:∀i d,ds[i]?=some d->yE (m:Int) d/\Mq.Bd (kb i) d.2.2.2
 m20:m<=20
 h40:ds.length<=40
 cu:mL kb ds.length+30<=8900
 eb:EqB m b L ds
theorem Rc.same{K:Frag}(s:aS H H')(h:Rc CN K H n l m b kb L ds):Rc CN K H' n l m b kb L ds:=⟨h.nt.same s,h.ok,h.m20,h.h40,h.cu,h.eb⟩
abbrev Hn:=Option (Nat × Nat) × RD
section
variable {m u:Nat} {hs:List Mq.Q2} {par:Nat->Nat} {E:List Ent}
theorem Wx:∀{ds:List RD}(k:Nat),(∀d∈ds,∀k,Mq.Fr L M (cM d k x y))->Mq.Fr L (ds.length*M) (eqM k ds x y)
 | [],_,_=>Mq.Fr.zero.mono (Nat.zero_le _)
 |d :: ds,k,q=>by
  rw[length_cons,Nat.succ_mul,Nat.add_comm];exact(q d ⋯ k).add (Wx _ λx a=>q x (mem_cons_of_mem _ a))
theorem Sl:∀{ds:List RD}(k:Nat),(∀d∈ds,∀k,Mq.Fr L M (cR d k x))->Mq.Fr L (ds.length*M) (eqR k ds x)
 | [],_,_=>Mq.Fr.zero.mono (Nat.zero_le _)
 |d :: ds,k,q=>by
  rw[length_cons,Nat.succ_mul,Nat.add_comm];exact(q d ⋯ k).add (Sl _ λx a=>q x (mem_cons_of_mem _ a))
theorem Qy[Decidable c](g:Mq.Fr L M y):Mq.Fr L M (if c then y else 0):=by
 split
 .exact g
 .exact Mq.Fr.zero.mono (Nat.zero_le _)
end
theorem Yl:Frs ds↔∀(A B:List RD)(d:RD),fP .ho ds=A++d :: B->¬Cn A d.2.1.toNat d.2.2.1.toNat:=by
 constructor
 .intro f A B d e;unfold fP at e;let⟨c,l,rfl,h,i⟩:=filter_eq_append_iff.mp e;let⟨g,j,rfl,no,b,m⟩:=filter_eq_cons_iff.mp i;have:=f (c++g) j d (by rw[List.append_assoc]) (of_decide_eq_true b);let es:fP .ho (c++g)=A:=by
   unfold fP;rw[filter_append,h,filter_eq_nil_iff.mpr (λx k=>no x k),append_nil]
  rwa [es] at this
 .intro f A B d e b cn;refine f (fP .ho A) (fP .ho B) d ?_ cn;rw[e];unfold fP;rw[filter_append,filter_cons_of_pos (p:=λd:RD=>decide (d.1=.ho)) (a:=d) (decide_eq_true b)]
structure StB(K:Frag)(H:Hp)(b:Addr)(ys:vk)(ss:List Mq.Q2)(n:Nat):Prop where
 s:SqL K H b ys
 f:Fqs K H ys ss
 l:ss.length=n
 b:∀s∈ss,Mq.Low s/\Mq.Bd 3900 s
theorem StB.same{K:Frag}{b:Addr}(e:aS H H')(h:StB K H b ys ss n):StB K H' b ys ss n:=⟨e.seq h.s,h.f.same e,h.l,h.b⟩
inductive vL(K:Frag)(CK:Kd->Addr)(vs:vk)(H:Hp)(Q:VK)(E:XK):Prop where
 |mk (x a:Addr) (d:RD) (z:V) (xs:vk) (hp:List Mq.Q2) (n:Nat):vs=[.ref x,.ref a]->Rw CK H x d.1 (.int d.2.1) (.int d.2.2.1) z->StB K H a xs hp n->cO (n:Int) d.2.1 d.2.2.1->mH H Q (flF hp d)->vL K CK vs H Q E
theorem Kt(h:Ovr n ps)(a:dP ps)(b:n<=3900):∀p∈ps,Mq.Low p/\Mq.Bd 3900 p:=λp hp=>⟨a p hp,(Ovr.minus h a hp hp).2.1.mono b⟩
theorem aAd:Mq.Bd (n+1) (0,1):=⟨Nat.two_pow_pos _,Nat.one_lt_two_pow ()⟩
abbrev En:=Nat × Mq.Q2 × List Stp
structure aAe(CA:Addr)(K:Frag)(H0 H:Hp)(a:Addr)(lv fl:List Mq.Q2):Prop where
 e:∃(dx li le fo:Addr)(xs ys:vk),H a=some (.ins CA dx (lT li le fo))/\H le=some (.lst xs)/\Fqs K H xs lv/\H fo=some (.lst ys)/\Fqs K H ys fl/\∀l o,H0 l=some o->l≠a->le≠l/\fo≠l
inductive Da(CN:Addr)(K:Frag)(CK:Kd->Addr)(vs:vk)(H:Hp)(Q:VK)(E:XK):Prop where
 |mk (n l b:Addr) (m:Int) (ds:List RD) (k:Kd) (ys:vk) (ss:List Mq.Q2):vs=[.ref n,.str k.wd,.ref b]->dB CN K H n l m ds->ds.length<=100->StB K H b ys ss ds.length->(∀a zs H',aS H H'->H' a=some (.lst zs)->Rss CK K H' zs (pJ k (ds.zip ss))->Q (.ref a) H')->Da CN K CK vs H Q E
end L2
namespace Mq
def Dn(N:Int)(p:Q2):Prop:=Low p/\∃z:Int,val p*27720=(z:Rat)/\-N<=z/\z<=N
theorem Dn.mono(h:Dn N p)(c:N<=M):Dn M p:=by
 let⟨l,z,e,a,b⟩:=h;exists l,z,e,6,6
theorem Dn.cross(h:Dn N p):∃z:Int,p.1*27720=z*p.2/\-N<=z/\z<=N:=by
 let⟨l,z,e,a,b⟩:=h;exists z,7,a,b;let n:=dW (show p.2≠0 by have:=l.pos;lia);unfold val at e;refine Rat.intCast_inj.mp ?_;rw[Rat.intCast_mul,Rat.intCast_mul];let h2:((27720:Int):Rat)=27720:=rfl;rw[h2];grind
theorem Dn.plus(h:Dn N p)(g:Dn M q):Dn (N+M) (plus p q):=by
 let⟨l,z,e,a,b⟩:=h;let⟨c,d,f,i,j⟩:=g;exists iW l.pos c.pos,z+d,7,6,6;rw[iF l.pos c.pos,Rat.intCast_add,<- e,<- f];grind
theorem Dn.minus(h:Dn N p)(g:Dn M q):Dn (N+M) (minus p q):=by
 let⟨l,z,e,a,b⟩:=h;let⟨c,d,f,i,j⟩:=g;exists cH l.pos c.pos,z - d,7,6,6;rw[dS l.pos c.pos,Rat.intCast_sub,<- e,<- f];grind
theorem Dn.bd(h:Dn N p)(t:N < 2 ^ n)(s:15<=n):Bd n p:=by
 let l:=h.1;let⟨z,e,a,b⟩:=h.cross;let m:=l.pos;let c:Int.gcd p.2 p.1=1:=by
  have:=l.one;unfold gc at this;rw[Int.gcd_comm];lia
 let d:p.2 ∣ 27720:=by
  let h1:p.2.natAbs ∣ p.1.natAbs*27720:=by
   have:p.2 ∣ p.1*27720:=by rw[e];exact Int.dvd_mul_left ..
   have:=Int.natAbs_dvd_natAbs.mpr this
   rwa [Int.natAbs_mul] at this
  let h2:p.2.natAbs.Coprime p.1.natAbs:=c;let f:=h2.dvd_of_dvd_mul_left h1;have:p.2.natAbs ∣ (27720:Int).natAbs:=f;exact Int.natAbs_dvd_natAbs.mp this
 let⟨k,g⟩:=d;let o:0 < k:=by
  rcases Int.lt_or_le 0 k with h | h
  .exact h
  .have:=Int.mul_nonpos_of_nonneg_of_nonpos (show 0<=p.2 by lia) h;lia
 let le:p.2<=27720:=by
  have:=Int.mul_le_mul_of_nonneg_left (show 1<=k by lia) (show 0<=p.2 by lia);rw[Int.mul_one] at this;lia
 let q:p.1*k=z:=by
  have:(p.1*k)*p.2=z*p.2:=by rw[<- e,g];grind
  exact Int.eq_of_mul_eq_mul_right () this
 let r:-N<=p.1/\p.1<=N:=by
  constructor
  .rcases Int.lt_or_le p.1 0 with h | h
   .have:=Int.mul_le_mul_of_nonpos_left (show p.1<=0 by lia) (show 1<=k by lia);rw[Int.mul_one] at this;lia
   .lia
  .rcases Int.lt_or_le p.1 0 with h | h
   .lia
   .have:=Int.mul_le_mul_of_nonneg_left (show 1<=k by lia) h;rw[Int.mul_one] at this;lia
 let i:(2:Int) ^ 15<=2 ^ n:=by
  have:(2:Nat) ^ 15<=2 ^ n:=Nat.pow_le_pow_right ∅ s;exact_mod_cast this
 let j:(2:Int) ^ 15=32768:=by decide
 exists 7,7
 .unfold B;have:(p.1.natAbs:Int) < ((2 ^ n:Nat):Int):=by
   rw[Int.natCast_pow];show (p.1.natAbs:Int) < (2:Int) ^ n;lia
  exact Int.ofNat_lt.mp this
 .unfold B;have:(p.2.natAbs:Int) < ((2 ^ n:Nat):Int):=by
   rw[Int.natCast_pow];show (p.2.natAbs:Int) < (2:Int) ^ n;lia
  exact Int.ofNat_lt.mp this
theorem ql5(h1:1<=b)(l:b<=12)(j:-T<=t)(i:t<=T):Dn (T*27720) (red t b):=by
 obtain⟨k,h,k0,d⟩:∃k:Int,27720=b*k/\0 < k/\k<=27720:=by
  have:b=1\/b=2\/b=3\/b=4\/b=5\/b=6\/b=7\/b=8\/b=9\/b=10\/b=11\/b=12:=by lia
  rcases this with rfl | rfl | rfl | rfl | rfl | rfl | rfl | rfl | rfl | rfl | rfl | rfl
  .exists 27720,∅,∅,∅
  .exists 13860,∅,∅,∅
  .exists 9240,∅,∅,∅
  .exists 6930,∅,∅,∅
  .exists 5544,∅,∅,∅
  .exists 4620,∅,∅,∅
  .exists 3960,∅,∅,∅
  .exists 3465,∅,∅,∅
  .exists 3080,∅,∅,∅
  .exists 2772,∅,∅,∅
  .exists 2520,∅,∅,∅
  .exists 2310,∅,∅,∅
 let f:0<=T:=by lia
 let n:=dW (show b≠0 by lia);let g:(27720:Rat)=(b:Rat)*(k:Rat):=by
  rw[<- Rat.intCast_mul,<- h];rfl
 exists iE (),t*k,7,7,7
 .rw[jH (),g,Rat.intCast_mul];grind
 .let a:=Int.mul_le_mul_of_nonneg_right j (show 0<=k by lia);let c:=Int.mul_le_mul_of_nonneg_left d f;let e:-T*k=-(T*k):=Int.neg_mul ..;lia
 .let a:=Int.mul_le_mul_of_nonneg_right i (show 0<=k by lia);let c:=Int.mul_le_mul_of_nonneg_left d f;lia
end Mq
namespace L2
open Mq
def jnL(ms:List Int)(ls:List Q2)(u v:Nat)(z:Q2):List Q2:=(List.range ls.length).map λp=>if ms.getD p 0=ms.getD v 0 then plus (ls.getD p (0,1)) (minus (minus (ls.getD u (0,1)) (ls.getD v (0,1))) z) else ls.getD p (0,1)
theorem qZ(ms:List Int)(ls:List Q2)(u v:Nat)(z:Q2):(jnL ms ls u v z).length=ls.length:=by unfold jnL;rw[length_map,length_range]
def LfB(n:Nat)(q:Q2):Prop:=Low q/\Mq.Fr 27720 (70368744177664*4 ^ n) (val q)
theorem LfB.of(lo:Low q)(e:val q=x)(h:Mq.Fr 27720 M x)(l:M<=70368744177664*4 ^ n):LfB n q:=⟨lo,by rw[e];exact h.mono l⟩
theorem LfB.p2(h:LfB n q):1<=q.2:=h.1.1
theorem aAi(h:n<=k):4 ^ n<=4 ^ k:=Nat.pow_le_pow_right ∅ h
theorem LfB.mono(h:LfB n q)(l:n<=k):LfB k q:=⟨h.1,h.2.mono (Nat.mul_le_mul_left _ (aAi l))⟩
theorem LfB.bd(h:LfB n q)(l:n<=26):Bd 120 q:=by
 let h:=h.mono l;let⟨a,c,d⟩:=h.2.get (m:=99) (n:=15) (b:=120) ∅ (by show (27720:Int).natAbs < 2 ^ 15;decide) ∅;exact(pZ h.1 ∅ (by show (27720:Int).natAbs < 2 ^ 120;decide) c d).1
theorem LfB.zero:LfB 0 (0,1):=⟨⟨∅,∅⟩,by rw[mQ];exact Mq.Fr.zero.mono ∅⟩
section
variable {n:Nat} {p q z:Q2}
theorem LfB.d1(hp:LfB n p)(a:LfB n q):LfB (n+1) (minus p q):=by
 let h:=hp.2.add a.2.neg;refine LfB.of (cH hp.p2 a.p2) (dS hp.p2 a.p2) (by rw[Rat.sub_eq_add_neg];exact h) ?_;rw[Nat.pow_succ];lia
theorem LfB.d2(hp:LfB n p)(b:LfB n q)(c:LfB 0 z):LfB (n+1) (minus (minus p q) z):=by
 let a:=cH hp.p2 b.p2;let h:=(hp.2.add b.2.neg).add c.2.neg;refine LfB.of (cH a.1 c.p2) (by rw[dS a.1 c.p2,dS hp.p2 b.p2]) (by rw[Rat.sub_eq_add_neg,Rat.sub_eq_add_neg];exact h) ?_;rw[Nat.pow_succ];have:=Nat.pow_pos (n:=n) (show 0 < 4 by decide);lia
theorem LfB.d3(c:LfB n r)(hp:LfB n p)(d:LfB n q)(e:LfB 0 z):LfB (n+1) (plus r (minus (minus p q) z)):=by
 let a:=cH hp.p2 d.p2;let b:=cH a.1 e.p2;let h:=c.2.add ((hp.2.add d.2.neg).add e.2.neg);refine LfB.of (iW c.p2 b.1) (by rw[iF c.p2 b.1,dS a.1 e.p2,dS hp.p2 d.p2]) (by rw[Rat.sub_eq_add_neg,Rat.sub_eq_add_neg];exact h) ?_;rw[Nat.pow_succ];have:=Nat.pow_pos (n:=n) (show 0 < 4 by decide);lia
end
theorem gA{P:Q2->Prop}{ls:List Q2}(h:∀q∈ls,P q)(hi:i < ls.length):P (ls.getD i (0,1)):=by
 rw[getD_eq_getElem?_getD,getElem?_eq_getElem hi];exact h _ (getElem_mem hi)
theorem Nv(hp:p < ls.length):(jnL ms ls u v z).getD p (0,1)=if ms.getD p 0=ms.getD v 0 then plus (ls.getD p (0,1)) (minus (minus (ls.getD u (0,1)) (ls.getD v (0,1))) z) else ls.getD p (0,1):=by
 unfold jnL;rw[getD_eq_getElem?_getD,getElem?_map,getElem?_range hp];rfl
theorem Tv(h:∀q∈ls,LfB n q)(b:u < ls.length)(d:v < ls.length)(e:LfB 0 z):∀q∈jnL ms ls u v z,LfB (n+1) q:=λq a=>by
 unfold jnL at a;let⟨p,hp,rfl⟩:=mem_map.mp a;let hp:=mem_range.mp hp
 by_cases c:ms.getD p 0=ms.getD v 0
 .rw[if_pos c];exact LfB.d3 (gA h hp) (gA h b) (gA h d) e
 .rw[if_neg c];exact(gA h hp).mono (Nat.le_succ n)
theorem qo4{sz h:Nat->Rat}(d:∀e∈es,h e.2.1 - h e.2.2=sz e.1)(p:Pt es b st x pts):(st.map λs=>((s.2:Int):Rat)*sz s.1).sum=h b - h x:=by
 induction p with
 |nil=>show (0:Rat)=_;grind
 | @snoc st p q pts s _ g _ ih=>
  rw[map_append,sum_append,ih];let⟨u,v,c,g⟩:=g;let e:=d _ c;show h b - h p+((((s.2:Int):Rat)*sz s.1)+0)=_;rcases g with ⟨a,rfl,rfl⟩ | ⟨a,rfl,rfl⟩
  .rw[a,show ((1:Int):Rat)=1 by rfl];let e:h p - h q=sz s.1:=e;grind
  .rw[a,show ((-1:Int):Rat)=-1 by rfl];let e:h q - h p=sz s.1:=e;grind
theorem qr3(h:jI es b e=some st):∃a,Pt es b st e a:=by
 let⟨a,p,_⟩:=(jM es b 60).pt e st (gS h);exists a,p
structure LfI(m i:Nat)(ds:List RD)(es:List Br)(ls:List Q2):Prop where
 ln:ls.length=m
 bd:∀q∈ls,LfB i q
 po:∀e∈es,∀d,ds[e.1]?=some d->val (ls.getD e.2.1 (0,1)) - val (ls.getD e.2.2 (0,1))=val d.2.2.2
theorem LfI.mono(h:LfI m i ds es ls)(l:i<=j):LfI m j ds es ls:=⟨h.ln,λq a=>(h.bd q a).mono l,h.po⟩
theorem LfI.start(m:Nat)(ds:List RD):LfI m 0 ds [] (replicate m (0,1)):=⟨length_replicate,λq a=>by rw[eq_of_mem_replicate a];exact LfB.zero,λe b=>by cases b⟩
theorem LfI.join(h:LfI m i ds es ls)(hm:Ptm m es)(A:ds[i]?=some d)(B:u < m)(C:v < m)(ne:L2.mk m (cG es) u≠L2.mk m (cG es) v)(y:LfB 0 d.2.2.2):LfI m (i+1) ds (es++[(i,u,v)]) (jnL (mks m (cG es)) ls u v d.2.2.2):=by
 let l:=h.ln;exists by rw[qZ];exact l,Tv h.bd () () y,λe t b a=>?_;let f:∀p,p < m->val ((jnL (mks m (cG es)) ls u v d.2.2.2).getD p (0,1))=if L2.mk m (cG es) p=L2.mk m (cG es) v then val (ls.getD p (0,1))+(val (ls.getD u (0,1)) - val (ls.getD v (0,1)) - val d.2.2.2) else val (ls.getD p (0,1)):=λp hp=>by
  rw[Nv ()];let w:=gA h.bd (show p < ls.length by lia);let j:=gA h.bd (show u < ls.length by lia);let k:=gA h.bd (show v < ls.length by lia);let n:=cH j.p2 k.p2;let x:=cH n.1 y.p2;show val (if L2.mk m (cG es) p=L2.mk m (cG es) v then _ else _)=_
  by_cases c:L2.mk m (cG es) p=L2.mk m (cG es) v
  .rw[if_pos c,if_pos c,iF w.p2 x.1,dS n.1 y.p2,dS j.p2 k.p2]
  .rw[if_neg c,if_neg c]
 rcases mem_append.mp t with z | z
 .let r:=hm.p e z;let g:=Le hm (s:=(e.1,1)) (p:=e.2.1) (q:=e.2.2) ⟨e.2.1,e.2.2,z,.inl ⟨8,8,8⟩⟩;let o:=h.po e z b a;rw[f _ r.1,f _ r.2,g]
  by_cases c:L2.mk m (cG es) e.2.1=L2.mk m (cG es) v
  .rw[if_pos c,if_pos c];grind
  .rw[if_neg c,if_neg c];exact o
 .have:e=(i,u,v):=by simpa using z
  subst this;have:b=d:=by rw[A] at a;exact(Option.some.inj a).symm
  subst this;show val ((jnL _ ls u v b.2.2.2).getD u (0,1)) - val ((jnL _ ls u v b.2.2.2).getD v (0,1))=_;rw[f u B,f v C,if_neg ne,if_pos rfl];grind
theorem Aj(i:Nat):∀j,∃r,(bO W sk (i+j)).2=(bO W sk i).2++r
 |0=>⟨[],by rw[append_nil];rfl⟩
 |j+1=>by
  let⟨r,hr⟩:=Aj (W:=W) (sk:=sk) i j;show ∃r,(match sk[i+j]? with | none=>bO W sk (i+j) | some d=>eY W (bO W sk (i+j)) (i+j) d).2=_
  cases sk[i+j]? with
  |none=>exact⟨r,hr⟩
  |some d=>
   show ∃r,(eY W (bO W sk (i+j)) (i+j) d).2=_;unfold eY
   by_cases c:W d.1=true
   .rw[if_pos c]
    cases jI (bO W sk (i+j)).1 d.2.2 d.2.1 with
    |none=>exact⟨r,hr⟩
    |some st=>exact⟨r++[(i+j,(i+j,1) :: st)],by show (bO W sk (i+j)).2++_=_;rw[hr,List.append_assoc]⟩
   .rw[if_neg c];exists r,hr
end L2
namespace Blk
open L2
def Kw:Kd->Bool:=λk=>decide (k≠.pu)
theorem qi8:jI es b e=rQ (cK es b 60).1 e:=rfl
section
theorem ringS_no(hw:W k=true)(a:jI s.1 v u=none):eY W s n (k,u,v)=(s.1++[(n,u,v)],s.2):=by
 unfold eY;rw[if_pos hw];dsimp only;generalize jI s.1 v u=o at a;subst a;rfl
theorem ringS_so(hw:W k=true)(a:jI s.1 v u=some st):eY W s n (k,u,v)=(s.1,s.2++[(n,(n,1) :: st)]):=by
 unfold eY;rw[if_pos hw];dsimp only;generalize jI s.1 v u=o at a;subst a;rfl
theorem ringS_out(hw:¬W k=true):eY W s n (k,u,v)=s:=by
 unfold eY;rw[if_neg hw]
end
structure RJ(sk:List Sk)(n:Nat)(s:RS):Prop where
 br:∀e∈s.1,e.1 < n/\∃k,sk[e.1]?=some (k,e.2.1,e.2.2)/\k≠.pu
 rg:∀c∈s.2,c.1 < n/\∃k u v st ps es,sk[c.1]?=some (k,u,v)/\k≠.pu/\c.2=(c.1,1) :: st/\Pt es v st u ps/\∀e∈es,e∈s.1/\e.1 < c.1
 al:∀i k u v,i < n->sk[i]?=some (k,u,v)->k≠.pu->(i,u,v)∈s.1\/∃c∈s.2,c.1=i
theorem rj_ok(sk:List Sk):∀n,n<=sk.length->RJ sk n (bO Kw sk n)
 |0,_=>⟨λe h=>(by cases h),λc h=>(by cases h),λi k u v h=>()⟩
 |n+1,hn=>by
  let a:=rj_ok sk n ();let l:sk[n]?=some sk[n]:=getElem?_eq_getElem ();rw[dF l];generalize sk[n]=d at l;let⟨k,u,v⟩:=d;generalize bO Kw sk n=s at a
  by_cases hw:Kw k=true
  .let o:k≠.pu:=of_decide_eq_true hw
   cases hy:jI s.1 v u with
   |none=>
    rw[ringS_no hw hy];exists λe b=>?_,λc m=>?_,λi f g j hi h1 h2=>?_
    .rcases mem_append.mp b with z | z
     .let⟨h1,h2⟩:=a.br e z;exists 6,h2
     .have:e=(n,u,v):=by simpa using z
      rw[this];exists Nat.lt_succ_self n,k,l,o
    .let⟨h1,f,g,j,st,ps,es,t,w,x,y,p⟩:=a.rg c m;exists 6,f,g,j,st,ps,es,t,w,x,y,λe b=>⟨mem_append_left _ (p e b).1,(p e b).2⟩
    .by_cases c:i=n
     .subst c;rw[l] at h1
      cases h1
      exact .inl ⋯
     .rcases a.al i f g j () h1 h2 with z | z
      .exact .inl (mem_append_left _ z)
      .exact .inr z
   |some st=>
    rw[ringS_so hw hy];rw[qi8] at hy;exists λe b=>let ⟨h1,h2⟩:=a.br e b;⟨6,h2⟩,λc m=>?_,λi f g j hi h1 h2=>?_
    .rcases mem_append.mp m with z | z
     .let⟨h1,r⟩:=a.rg c z;exists 6,r
     .have:c=(n,(n,1) :: st):=by simpa using z
      subst this;let⟨ps,A,_⟩:=(jM s.1 v 60).pt u st (gS hy);exists Nat.lt_succ_self n,k,u,v,st,ps,s.1,l,o,8,A,λe b=>⟨b,(a.br e b).1⟩
    .by_cases c:i=n
     .subst c;exact .inr ⟨_,mem_append_right _ mem_cons_self,8⟩
     .rcases a.al i f g j () h1 h2 with z | ⟨B,q,e⟩
      .exact .inl z
      .exact .inr ⟨B,mem_append_left _ q,e⟩
  .rw[ringS_out hw];exists λe b=>let ⟨h1,h2⟩:=a.br e b;⟨6,h2⟩,λc m=>let ⟨h1,r⟩:=a.rg c m;⟨6,r⟩,λi f g j hi h1 h2=>?_
   by_cases c:i=n
   .subst c;rw[l] at h1
    cases h1
    exact absurd (decide_eq_true h2) hw
   .exact a.al i f g j () h1 h2
end Blk
namespace L2
open PySem PySem.Spec PyProof.Rows
section
variable {K:Frag} {x qual:Str} {st:Stmt} {dV:Value} {f:Addr} {fd:FuncData}
theorem aV.b1(a:Str)(F:aV K x qual st dV f fd)(h:∀(kV b g:Value)(i:Option Addr)(e ct u:Value),bindArgs (W.fnOf x qual (fC st) (dA st) (aI st) dV kV b g i e ct) ⟨[u],[]⟩=pure [(a,u)]):aL K fd [a] []:=
 F.binds λk d p n c t us j=>match us,j with | [_],_=>h k d p n c t _
theorem aV.b2(a b:Str)(F:aV K x qual st dV f fd)(h:∀(kV e i:Value)(j:Option Addr)(g ct u v:Value),bindArgs (W.fnOf x qual (fC st) (dA st) (aI st) dV kV e i j g ct) ⟨[u,v],[]⟩=pure [(a,u),(b,v)]):aL K fd [a,b] []:=
 F.binds λk d p n c t us l=>match us,l with | [_,_],_=>h k d p n c t _ _
theorem aV.b3(a b c:Str)(F:aV K x qual st dV f fd)(h:∀(kV e i:Value)(j:Option Addr)(g ct u v w:Value),bindArgs (W.fnOf x qual (fC st) (dA st) (aI st) dV kV e i j g ct) ⟨[u,v,w],[]⟩=pure [(a,u),(b,v),(c,w)]):aL K fd [a,b,c] []:=
 F.binds λk d p n c t us l=>match us,l with | [_,_,_],_=>h k d p n c t _ _ _
theorem aV.b4(a b c e:Str)(F:aV K x qual st dV f fd)(h:∀(kV g j:Value)(l:Option Addr)(i ct u v w z:Value),bindArgs (W.fnOf x qual (fC st) (dA st) (aI st) dV kV g j l i ct) ⟨[u,v,w,z],[]⟩=pure [(a,u),(b,v),(c,w),(e,z)]):aL K fd [a,b,c,e] []:=
 F.binds λk d p n c t us m=>match us,m with | [_,_,_,_],_=>h k d p n c t _ _ _ _
theorem aV.b5(a b c e g:Str)(F:aV K x qual st dV f fd)(h:∀(kV i l:Value)(m:Option Addr)(j ct u v w z y:Value),bindArgs (W.fnOf x qual (fC st) (dA st) (aI st) dV kV i l m j ct) ⟨[u,v,w,z,y],[]⟩=pure [(a,u),(b,v),(c,w),(e,z),(g,y)]):aL K fd [a,b,c,e,g] []:=
 F.binds λk d p n c t us o=>match us,o with | [_,_,_,_,_],_=>h k d p n c t _ _ _ _ _
end
end L2
namespace K49
open PySem L2
variable {CR:Addr}{CK fW fJ fT fS:Kd->Addr}{fdW fdJ fdT fdS:Kd->FuncData}
structure D9(P:Program)(w:World)(K:Frag)(mg:Str->Option Value)(base:Heap)(j:Nat)(g:Addr)(gd:FuncData)(ps:List Str)(sp:Sp)(nm:Str):Prop where
 G:aK P w K mg base CX0 j g gd ps sp
 b:aL K gd ps []
 k:kI9 K g
 m:mI9 mg nm g
theorem d9(D:D9 X.prog X.w X.K X.mg X.base k f fd ps sp x)(c:hV k X.A)(d:Gl X x)(g:PA X (e :: es) t)(a:(x == ("__debug__":Str))=false:=by decide)(h:starEach (e :: es) X.env=(false,eval e X.env) :: starEach es X.env:=by rfl)(hpl:(backTo pos (starEach es X.env)).any (·.1)=false:=by rfl):PE X (.Call (.Name x p) (e :: es) [] pos) (qt0 sp [] E0 t):=aH D.G c d D.m D.k D.b .nil aM g a h hpl
def top(i:Nat):Stmt:=PySem.Challenge.pw_ohmyard_k49_refused_waste.main.body.getD i (.Pass ⟨0,0,0,0⟩)
abbrev Ja:Stmt:=top 19
theorem Xg:aP ["thing"] ["thing"] (aI Ja):=sK9
abbrev sGc:Stmt:=top 21
theorem qa0:aP ["one","other","rest"] ["one","other"] (aI sGc):=sK9
abbrev Ic:Stmt:=top 27
theorem qd7:aP ["one","other"] ["one","other"] (aI Ic):=sK9
abbrev mP:Stmt:=top 22
theorem Kk:aP ["top","bottom","shared"] ["top","bottom"] (aI mP):=sK9
abbrev Kv:Stmt:=top 24
theorem Yz:aP ["one","other"] ["one","other"] (aI Kv):=sK9
abbrev Va:Stmt:=top 23
theorem qo1:aP ["one","other"] ["one","other"] (aI Va):=sK9
abbrev Jt:Stmt:=dI (top 39) 0
theorem qb3:aP ["self","start","goal","size"] ["self","start","goal","size"] (aI Jt):=sK9
abbrev wF:Stmt:=dI (top 40) 0
theorem Oq:aP ["self"] ["self"] (aI wF):=sK9
abbrev yM:Stmt:=dI (top 41) 0
theorem Pq:aP ["self"] ["self"] (aI yM):=sK9
abbrev wG:Stmt:=dI (top 42) 0
theorem Om:aP ["self"] ["self"] (aI wG):=sK9
abbrev Kc:Stmt:=dI (top 39) 1
theorem qd8:aP ["self"] ["self"] (aI Kc):=sK9
abbrev Iw:Stmt:=top 43
theorem Li:aP ["told","word"] ["told"] (aI Iw):=sK9
abbrev qj4:Stmt:=top 20
theorem qv0:aP ["thing"] ["thing"] (aI qj4):=sK9
abbrev sPS:Stmt:=top 45
theorem aBa:aP ["thing"] ["thing"] (aI sPS):=sK9
abbrev sNB:Stmt:=top 50
theorem aAj:aP ["thing","bound"] ["thing","bound"] (aI sNB):=sK9
abbrev sRS:Stmt:=top 52
theorem aAp:aP ["word","size"] ["word","size"] (aI sRS):=sK9
theorem zG:(["point","many"]:List Str).Nodup:=by decide +kernel
inductive qj1(K:Frag)(vs:vk)(H:Hp)(Q:VK)(E:XK):Prop where
 |mk (l:Addr) (i j m:Int):vs=[.ref l,.int m]->SqL K H l [.int i,.int j]->0<=i->i < m->0<=j->j < m->(∀H',aS H H'->Q .non H')->qj1 K vs H Q E
abbrev sRP:Stmt:=top 51
theorem aAt:aP ["some","many"] ["some","many"] (aI sRP):=sK9
abbrev Js:Stmt:=dI (top 49) 0
theorem qc5:aP ["self","many"] ["self","many"] (aI Js):=sK9
abbrev Sw:Stmt:=dI (top 49) 1
theorem qg9:aP ["self"] ["self"] (aI Sw):=sK9
abbrev Ld:Stmt:=dI (top 49) 6
theorem Yu:aP ["self"] ["self"] (aI Ld):=sK9
abbrev qh3:Stmt:=dI (top 49) 3
theorem qg1:aP ["self","row","told"] ["self","row"] (aI qh3):=sK9
theorem Yt:(["told"]:List Str).Nodup:=by decide +kernel
abbrev Tc:Stmt:=dI (top 49) 5
theorem qr0:aP ["self"] ["self"] (aI Tc):=sK9
theorem yK(F:aK P w K mg base CX0 2 g gd ["thing"] (Jn K)):aK P w K mg base CX0 2 g gd ["thing"] (Fx K):=
 F.weak λvs H Q E h=>by
  let⟨a,p,rfl,f,l,q⟩:=h;exists _,some p,8,.fr f l,q
theorem qc3(h:X.K=K)(hu:X.A.units+64 < cLine):OpR X (compareOp .Eq) (zA K false):=by subst h;exact oK hu
theorem Db{f:Str}(h:X.K=K)(a:PE X e ta)(hb:attributeBase e f X.env (eval e X.env)=eval e X.env):PE X (.Attribute e f pos) (qx8 K ta f):=by subst h;exact cA a hb
theorem yJ{ps:List Mq.Q2}(h:j < ps.length):ps[j]?=some (ps.getD j (0,1)):=lQ h
abbrev Ji:Stmt:=top 25
theorem Yc:aP ["one","other"] ["one","other"] (aI Ji):=sK9
abbrev Ug:Stmt:=top 26
theorem qm1:aP ["one","other"] ["one","other"] (aI Ug):=sK9
abbrev Iy:Stmt:=top 69
theorem qb6:aP ["line","column","amount"] ["line","column","amount"] (aI Iy):=sK9
abbrev Jl:Stmt:=top 68
theorem Zy:aP ["matrix","row","column","amount"] ["matrix","row","column","amount"] (aI Jl):=sK9
abbrev Dz:Stmt:=top 65
theorem Gg:aP ["matrix","row","share"] ["matrix","row"] (aI Dz):=sK9
abbrev Cf:Stmt:=top 66
theorem Tp:aP ["right","row"] ["right","row"] (aI Cf):=sK9
abbrev Em:Stmt:=top 67
theorem Qt:aP ["matrix","right","row","column"] ["matrix","right","row","column"] (aI Em):=sK9
theorem jW(f:Fq K H t p):∀n,Fqs K H (replicate n (.ref t)) (replicate n p)
 |0=>.nil
 |n+1=>.cons f (jW f n)
theorem oC(x:V):∀n,(replicate n [x]).flatten=replicate n x
 |0=>rfl
 |n+1=>by rw[replicate_succ,flatten_cons,oC x n];rfl
theorem uA(xs:vk)(k:Nat):jJ xs (some (k:Int)) none=xs.drop k:=by
 unfold jJ;let h1:HT.sIx xs.length xs.length none=xs.length:=rfl;let h2:HT.sIx xs.length 0 (some (k:Int))=min k xs.length:=by simp[HT.sIx];lia
 rw[h1,h2]
 by_cases h:k<=xs.length
 .rw[Nat.min_eq_left h,take_of_length_le ⋯]
 .rw[Nat.min_eq_right (),drop_of_length_le (Nat.le_refl _),drop_of_length_le ()];simp
theorem Vg(xs:vk):jJ xs (some 1) none=xs.drop 1:=uA xs 1
theorem Pb(h:X.K=K):SlR X (Zm K):=by subst h;exact iH
theorem wQ(R:List Mq.Q2)(j:Nat):(R.drop 1).getD j (0,1)=R.getD (j+1) (0,1):=by
 rw[getD_eq_getElem?_getD,getElem?_drop,Nat.add_comm 1 j,getD_eq_getElem?_getD]
theorem Po(M:List (List Mq.Q2))(i j:Nat):kQ ((M.drop 1).map (List.drop 1)) i j=kQ M (i+1) (j+1):=by
 let e:((M.drop 1).map (List.drop 1)).getD i []=(M.getD (i+1) []).drop 1:=by
  rw[getD_eq_getElem?_getD,getElem?_map,getElem?_drop,Nat.add_comm 1 i,getD_eq_getElem?_getD]
  cases M[i+1]?<;>rfl
 unfold kQ;rw[e,wQ]
theorem Vl{w n:Nat}(b:MxB M w w n):MxB ((M.drop 1).map (List.drop 1)) (w - 1) (w - 1) n:=by
 exists by rw[length_map,length_drop,b.h],λps hp=>?_,λps hp p c=>?_
 .let⟨qs,a,rfl⟩:=mem_map.mp hp;rw[length_drop,b.w _ (mem_of_mem_drop a)]
 .let⟨qs,a,rfl⟩:=mem_map.mp hp;exact b.l _ (mem_of_mem_drop a) _ (mem_of_mem_drop c)
theorem Qu{w n:Nat}(b:LnB R w n):LnB (R.drop 1) (w - 1) n:=⟨by rw[length_drop,b.w],λp hp=>b.l p (mem_of_mem_drop hp)⟩
theorem Xj(w:Nat):MxB (replicate w (replicate w (0,1))) w w 1:=by
 exists length_replicate,λps hp=>?_,λps hp p a=>?_
 .rw[eq_of_mem_replicate hp,length_replicate]
 .rw[eq_of_mem_replicate hp] at a;rw[eq_of_mem_replicate a];exists ⟨∅,∅⟩,⟨show (0:Nat) < 2 ^ 1 by decide,show (1:Nat) < 2 ^ 1 by decide⟩
theorem Ar(w j:Nat):(replicate w ((0,1):Mq.Q2)).getD j (0,1)=(0,1):=by
 rw[getD_eq_getElem?_getD]
 cases e:(replicate w ((0,1):Mq.Q2))[j]? with
 |none=>rfl
 |some p=>exact eq_of_mem_replicate (mem_of_getElem? e)
theorem Ux(w i j:Nat):kQ (replicate w (replicate w (0,1))) i j=(0,1):=by
 let e:(replicate w (replicate w ((0,1):Mq.Q2))).getD i []=[]\/(replicate w (replicate w ((0,1):Mq.Q2))).getD i []=replicate w (0,1):=by
  rw[getD_eq_getElem?_getD]
  cases e:(replicate w (replicate w ((0,1):Mq.Q2)))[i]? with
  |none=>exact .inl rfl
  |some ps=>exact .inr (eq_of_mem_replicate (mem_of_getElem? e))
 unfold kQ;rcases e with e | e
 .rw[e];rfl
 .rw[e];exact Ar w j
theorem Xt(w:Nat):LnB (replicate w (0,1)) w 1:=⟨length_replicate,λp hp=>by
 rw[eq_of_mem_replicate hp];exact⟨⟨∅,∅⟩,⟨show (0:Nat) < 2 ^ 1 by decide,show (1:Nat) < 2 ^ 1 by decide⟩⟩⟩
theorem Vu(i:Nat):bZ (ds.take i)<=bZ ds:=by
 let h:bZ ds=bZ (ds.take i)+bZ (ds.drop i):=by
  unfold bZ fP;rw[<- wq,<- filter_append,take_append_drop]
 lia
theorem qh0:(["row"]:List Str).Nodup:=by decide +kernel
theorem yZ:(["line","width"]:List Str).Nodup:=by decide +kernel
theorem Yr:(["line"]:List Str).Nodup:=by decide +kernel
theorem Fqs.drop1:∀{xs:vk}{ps:List Mq.Q2},Fqs K H xs ps->Fqs K H (xs.drop 1) (ps.drop 1)
 |_,_,.nil=>.nil
 |_,_,.cons _ q=>q
theorem Wq{D C P:Addr}(a0:Mx K H7 D as M)(e7:H7 C=some (.lst ((as.map V.ref).drop 1)))(hP:H7 P=none)(a1:M.length<=60)(q:∀us Z,aS H7 Z->Z P=some (.lst us)->Fms K H7 Z us ((M.drop 1).map (List.drop 1))->(∀x∈us,x≠.ref P)->Q (.ref P) Z):wK (Itl K C) 1 [] (gX 0) (λx H Q=>Q true H) (tSl (Zm K) (Oh 0) (qe3 (tC (V.int 1))) Ni) σ P H7 Q:=by
 let p:=a0;refine clS hP (xs:=(as.map V.ref).drop 1) (λi zs H'=>Fms K H7 H' zs (((M.drop 1).map (List.drop 1)).take i)/\∀x∈zs,x≠.ref P) ⟨⟨8,λi x ps h=>by simp at h⟩,λx g=>by cases g⟩ (λ_ h=>h.seq (SqL.of e7)) ?_ ?_
 .rintro i zs x Z g ⟨d,k,a,nP⟩ X s;rw[getElem?_drop,getElem?_map] at g;let⟨b,t,rfl⟩:=Option.map_eq_some_iff.mp g;let u:=(wk.mp t).1;let m:1+i < M.length:=by rw[<- p.la];exact u
  let⟨I,v,w⟩:=(a0.same d).r (1+i) b M[1+i] t (getElem?_eq_getElem m);let J:=a.l;rw[length_take,length_map,length_drop] at J;exists dU.1,dU.2,fZ ?_;exists 9,1,8,b,9,SqL.of v,λc o=>?_;rw[Vg];let⟨Y,A,e,L⟩:=nw o (.lst (I.drop 1));rw[A];let f:=e _ _ k;let n:c≠P:=Ne.symm (bA k o);exists f,aZ (),s _ _ ⟨(d.trans e).change hP,aB,⟨7,λj y ps h1 h2=>?_⟩,λy N=>?_⟩
  .rw[wq,length_take,length_map,length_drop];simp only[length_cons,length_nil];lia
  .let O:((M.drop 1).map (List.drop 1))[i]?=some (M[1+i].drop 1):=by rw[getElem?_map,getElem?_drop,getElem?_eq_getElem m];rfl
   rw[take_add_one,O] at h2
   by_cases B:j < zs.length
   .rw[getElem?_append_left B] at h1;rw[getElem?_append_left (by rw[<- a.l];exact B)] at h2;let⟨E,F,G,R,S,T⟩:=a.r j y ps h1 h2;let U:E≠P:=λz=>nP y (mem_of_getElem? h1) (by rw[G,z]);exists E,F,G,R,by rw[aQ U];exact e _ _ S,(T.same e).upd f
   .rw[getElem?_append_right ()] at h1;rw[getElem?_append_right (by rw[<- a.l];lia),<- a.l] at h2;let W:j - zs.length=0:=by
     have:=(wk.mp h1).1;simp at this;lia
    rw[W] at h1 h2;let h1:V.ref c=y:=by simpa using h1
    let h2:M[1+i].drop 1=ps:=by simpa using h2
    subst h1;rw[<- h2];exists c,9,d.free o,by rw[aQ n];exact L,((Fqs.drop1 (w.same e))).upd f
  .rcases mem_append.mp N with z | z
   .exact nP y z
   .have:y=.ref c:=by simpa using z
    rw[this];exact λz=>n (by injection z)
 rintro us Z ⟨d,k,a,nP⟩;rw[show ((as.map V.ref).drop 1).length=((M.drop 1).map (List.drop 1)).length by rw[length_drop,length_map,length_map,length_drop,p.la],take_length] at a;exact q us Z d k a nP
theorem qo3(B:H2 D=none)(F:W<=60)(st:∀(i:Nat)(H3:Hp)(E:VK),aS H2 H3->(∀b w A,aS H3 A->H3 b=none->A b=some (.lst w)->Fqs K A w (replicate W (0,1))->E (.ref b) A)->te ((σC 1 fr σ).set 0 (some (.int (0+(i:Int))))) H3 E)(q:∀as H3,aS H2 H3->Mx K H3 D as (replicate W (replicate W (0,1)))->(∀b∈as,H2 b=none)->Q (.ref D) H3):wK (Itr 0 W) 1 fr (gX 0) (λx H Q=>Q true H) te σ D H2 Q:=by
 refine crS B (n:=W) (λi zs H'=>∃as:List Addr,zs=as.map V.ref/\as.length=i/\as.Nodup/\D∉as/\(∀b∈as,H2 b=none)/\∀b∈as,∃w,H' b=some (.lst w)/\Fqs K H' w (replicate W (0,1))) ⟨[],8,8,nodup_nil,⋯,(λb a=>by cases a),(λb a=>by cases a)⟩ ?_ ?_
 .rintro i zs H3 hi ⟨s3,f,as,rfl,l,m,g,fr,j⟩ C r;exists dU.1,dU.2,fZ (st i H3 _ s3 λb w A d a s F5=>?_);let e:=d _ _ f;let k:b≠D:=Ne.symm (bA f a);let p:b∉as:=λz=>by let⟨w,h,_⟩:=j b z;rw[h] at a;cases a
  exists e,aZ (by rw[length_map];lia),r _ _ ⟨(s3.trans d).change B,aB,as++[b],by rw[map_append];rfl,by rw[wq,l];rfl,7,7,λc o=>?_,λc o=>?_⟩
  .rw[nodup_append];exists m,⋯,λx t y u z=>p (by rw[<- mem_singleton.mp u,<- z];exact t)
  .intro z;rcases mem_append.mp z with z | z
   .exact g z
   .exact k (mem_singleton.mp z).symm
  .rcases mem_append.mp o with z | z
   .exact fr c z
   .rw[mem_singleton.mp z];exact s3.free a
  .rcases mem_append.mp o with z | z
   .let⟨w,h,fw⟩:=j c z;exists w,by rw[aQ (λy=>g (by rw[<- y];exact z))];exact d _ _ h,(fw.same d).upd e
   .rw[mem_singleton.mp z,aQ k];exists _,s,F5.upd e
 rintro v H3 ⟨s3,f,as,rfl,l,m,g,fr,j⟩;exact q as H3 s3 ⟨f,m,g,by rw[l,length_replicate],λi b ps h1 h2=>by
  rw[eq_of_mem_replicate (mem_of_getElem? h2)];exact j b (mem_of_getElem? h1)⟩ fr
abbrev qq1:Stmt:=top 64
theorem rA:aP ["net","rows","many","width","matrix","right","held","row"] ["net"] (aI qq1):=sK9
theorem qQ{a:List (Str × Addr)}:∀(x:Str)(c:Addr),([]:List (Str × Addr)).lookup x=some c->a.lookup x=some c:=λ_ _ h=>by cases h
theorem fL{b cl:List (Str × Addr)}(h:b.lookup a=some d)(r:∀x c,cl.lookup x=some c->b.lookup x=some c):∀x c,((a,d) :: cl).lookup x=some c->b.lookup x=some c:=λx c e=>by
 rw[lookup_cons] at e
 cases q:x == a with
 |true=>rw[q] at e;rw[eq_of_beq q,h];exact e
 |false=>rw[q] at e;exact r x c e
theorem rW(h:X.K=K):IxR X (Us K):=by subst h;exact bC
theorem iT(h:X.K=K):IxR X (qk2 K):=by subst h;exact bK
abbrev Jz:Stmt:=top 36
theorem vQ:aP ["rows","numbers","point","steps","number","row"] ["rows","numbers","point"] (aI Jz):=sK9
theorem qo5(hm:Ptm m es)(f:b < m)(i:m<=20){w:WS}(j:(cJ w).Nodup)(pt:∀x st,(x,st)∈w->∃e,Pt es b st x e/\∀y∈e,y∈cJ w)(p:Pt es b st x e)(k:∀y∈e,y∈cJ w):st.length<=20:=by
 let l:e.length=st.length+1:=by
  induction p with
  |nil=>rfl
  |snoc h g n ih=>rw[wq,wq,ih λy a=>k y (mem_append_left _ a)];rfl
 let c:e.Nodup:=by
  clear k l
  induction p with
  |nil=>simp
  |snoc h g n ih=>
   rw[nodup_append];exists ih,⋯,λx d y a z=>n ?_;rw[mem_singleton] at a;rw[<- a,<- z];exact d
 have:=Oe c λy a=>Do hm f pt y (k y a);lia
theorem qo2{T:List (Stp × Nat)}(hm:Ptm m es)(c:b < m)(a:m<=20)(h:WJ es b p [] s)(g:∀t∈T,rO es t.1 p t.2):((T.take j).foldl (inF p) s).2.length<=muF s:=by
 have:=Ef hm c a (T.take j) [] h λt d=>g t (mem_of_mem_take d);unfold muF at this ⊢;lia
def muW(σ:St)(H:Hp):Nat:=match σ with
 | [_,_,_,_,some (.ref D),some (.ref W),_,_]=>match H D,H W with
  |some (.dK kvs),some (.lst q)=>2*(20 - kvs.length)+q.length
  |_,_=>0
 |_=>0
theorem Wu{a b c d e f:Option V}(h:H D=some (.dK kvs))(g:H W=some (.lst q)):muW [a,b,c,d,some (.ref D),some (.ref W),e,f] H=2*(20 - kvs.length)+q.length:=by
 show (match H D,H W with | some (.dK kvs),some (.lst q)=>2*(20 - kvs.length)+q.length | _,_=>0)=_;rw[h,g]
theorem Tt(h:q≠[]):(q.map λ(p:Nat)=>V.int (p:Int))[((q.map λ(p:Nat)=>V.int (p:Int))).length - 1]?=some (.int ((q.getLastD 0:Nat):Int))/\(q.map λ(p:Nat)=>V.int (p:Int)).dropLast=(q.dropLast.map λ(p:Nat)=>V.int (p:Int)):=by
 let⟨_,e⟩:=Mf h;generalize q.getLastD 0=x at e;generalize q.dropLast=r at e;subst e;rw[map_append];simp
abbrev qm6:Stmt:=top 35
theorem Go:aP ["rows","numbers","begin","end","ways","waiting","point","step"] ["rows","numbers","begin","end"] (aI qm6):=sK9
theorem qf0{i:Nat}(h:ds[i]?=some d):(skl ds)[i]?=some (d.1,d.2.1.toNat,d.2.2.1.toNat):=by unfold skl;rw[getElem?_map,h];rfl
theorem qD(ds:List RD):(skl ds).length=ds.length:=by unfold skl;rw[length_map]
theorem xM{m:Nat}(pt:∀d∈ds,cO (m:Int) d.2.1 d.2.2.1):∀d∈skl ds,d.2.1 < m/\d.2.2 < m:=λd a=>by
 let⟨e,b,rfl⟩:=mem_map.mp a;let⟨c,i1,f,g⟩:=pt e b;exists by show e.2.1.toNat < m;lia,by show e.2.2.1.toNat < m;lia
theorem qa6{W:Kd->Bool}{m n:Nat}{ds:List RD}(pt:∀d∈ds,cO (m:Int) d.2.1 d.2.2.1)(h:RI W (skl ds) m n s):qj8 ds s.1:=λe c=>by
 let⟨k,a⟩:=h.at_ e c;let f:e.1 < ds.length:=by have:=(wk.mp a).1;rwa [qD] at this
 let b:ds[e.1]?=some ds[e.1]:=getElem?_eq_getElem f;rw[qf0 b] at a;let⟨g,i1,i,j⟩:=pt _ (mem_of_getElem? b);exists _,b,7,7
 .have:ds[e.1].2.1.toNat=e.2.1:=by injection a with z;injection z with _ z;injection z
  lia
 .have:ds[e.1].2.2.1.toNat=e.2.2:=by injection a with z;injection z with _ z;injection z
  lia
theorem Rn:∀n,(bO W sk n).1.length<=n
 |0=>Nat.le_refl _
 |n+1=>by
  let a:=Rn (W:=W) (sk:=sk) n
  cases h:sk[n]? with
  |none=>show (match sk[n]? with | none=>bO W sk n | some d=>eY W (bO W sk n) n d).1.length<=n+1;rw[h];show (bO W sk n).1.length<=n+1;lia
  |some d=>
   rw[dF h];generalize bO W sk n=s at a;unfold eY;split
   .split
    .show (s.1++[(n,d.2.1,d.2.2)]).length<=n+1;rw[wq];simp only[length_cons,length_nil];lia
    .show s.1.length<=n+1;lia
   .lia
def WdA(K:Frag)(H:Hp)(v:V)(W:Kd->Bool):Prop:=∃(p:Addr)(ws:vk),v=.ref p/\(SqL K H p ws\/SqT K H p ws)/\ws.all pP=true/\∀k:Kd,inV (.str k.wd) ws=W k
theorem WdA.same(e:aS H H')(h:WdA K H v W):WdA K H' v W:=by
 let⟨p,a,h1,h2,b⟩:=h;exists p,a,h1,7,b;rcases h2 with z | z
 .exact .inl (e.seq z)
 .exact .inr (e.seqT z)
theorem qy6(k:Kd):inV (.str k.wd) [.str "piece",.str "hold"]=decide (k≠.pu):=by cases k<;>decide
abbrev iY:Stmt:=top 34
theorem jZ:aP ["net","words","wanted","rows","branches","found","number","row","back"] ["net","words"] (aI iY):=sK9
abbrev tE:Stmt:=dI (top 40) 1
theorem Iu:aP ["self"] ["self"] (aI tE):=sK9
abbrev sM:Stmt:=dI (top 41) 1
theorem Ik:aP ["self"] ["self"] (aI sM):=sK9
abbrev sX:Stmt:=dI (top 42) 1
theorem Jx:aP ["self"] ["self"] (aI sX):=sK9
inductive yX(K:Frag)(CK:Kd->Addr)(vs:vk)(H:Hp)(Q:VK)(E:XK):Prop where
 |mk (a x:Addr) (ms:List Int) (k:Kd) (s g:Nat) (z:V):vs=[.ref a,.ref x]->SqL K H a (ms.map V.int)->Rw CK H x k (.int (s:Int)) (.int (g:Int)) z->s < ms.length->g < ms.length->ms.length<=100->(∀l H',aS H H'->H l=none->H' l=some (.lst ((jn ms s g).map V.int))->Q (.ref l) H')->yX K CK vs H Q E
inductive Ed(CN:Addr)(K:Frag)(vs:vk)(H:Hp)(Q:VK)(E:XK):Prop where
 |mk (n l:Addr) (m:Nat) (ds:List RD):vs=[.ref n]->dB CN K H n l (m:Int) ds->(∀d∈ds,cO (m:Int) d.2.1 d.2.2.1)->m<=20->ds.length<=100->(∀l' H',aS H H'->H l'=none->H' l'=some (.lst ((mks m ds).map V.int))->Q (.ref l') H')->Ed CN K vs H Q E
def cZ(m:Nat)(ds:List RD):List Int:=((List.range m).filter λp=>decide (mk m ds p≠mk m ds 0)).map λ(p:Nat)=>(p:Int)
inductive Bw(CN:Addr)(K:Frag)(vs:vk)(H:Hp)(Q:VK)(E:XK):Prop where
 |mk (n l:Addr) (m:Nat) (ds:List RD):vs=[.ref n]->dB CN K H n l (m:Int) ds->(∀d∈ds,cO (m:Int) d.2.1 d.2.2.1)->1<=m->m<=20->ds.length<=100->(∀l' H',aS H H'->H l'=none->H' l'=some (.lst ((cZ m ds).map V.int))->Q (.ref l') H')->Bw CN K vs H Q E
theorem rT:(["mark","lost","kept"]:List Str).Nodup:=by decide +kernel
abbrev Ek:Stmt:=top 33
theorem xZ:aP ["marks","row","kept","lost"] ["marks","row"] (aI Ek):=sK9
abbrev Kb:Stmt:=top 32
theorem vO:aP ["net","marks","row"] ["net"] (aI Kb):=sK9
theorem jE:(["point","mark","marks"]:List Str).Nodup:=by decide +kernel
abbrev Ky:Stmt:=top 31
theorem Ms:aP ["net","marks"] ["net"] (aI Ky):=sK9
open Shp
theorem zK:(["one","bottom"]:List Str).Nodup:=by decide +kernel
abbrev sIW:Stmt:=top 55
theorem Yi:aP ["some","bottom","one"] ["some"] (aI sIW):=sK9
abbrev qn2:Stmt:=top 59
theorem qe0:aP ["rows","rank","column","place"] ["rows","rank","column"] (aI qn2):=sK9
theorem fI:(["here","above","own","other","divisor"]:List Str).Nodup:=by decide +kernel
abbrev qq9:Stmt:=top 61
theorem Vk:aP ["row","upper","column","divisor","own","other"] ["row","upper","column","divisor"] (aI qq9):=sK9
theorem dR:(["place","row","upper","rank","divisor","column"]:List Str).Nodup:=by decide +kernel
abbrev xR:Stmt:=top 60
theorem Ab:aP ["rows","rank","column","divisor","upper"] ["rows","rank","column","divisor"] (aI xR):=sK9
abbrev Wp:Stmt:=top 58
theorem iX:aP ["rows","width","rank","pivot","sign","column","place","lifted"] ["rows","width"] (aI Wp):=sK9
theorem uQ:(["row","side"]:List Str).Nodup:=by decide +kernel
theorem uT:(["row","many","end"]:List Str).Nodup:=by decide +kernel
abbrev Ds:Stmt:=top 54
theorem qM:aP ["matrix","right","many","rows","end"] ["matrix","right"] (aI Ds):=sK9
structure PB(ps:List Mq.Q2):Prop where
 p:Mq.Pos ps
 a:∀i,Mq.Bd 4400 (tot (ps.take i))
 b:∀p∈ps,Mq.Bd 4400 p
theorem PB.of_wt{w:Nat}(h:Mq.Wt ps w)(hp:Mq.Pos ps)(hw:w<=4000):PB ps:=by
 exists hp,λi=>?_,λp hm=>?_
 .cases hi:ps[i]? with
  |none=>rw[take_of_length_le (List.getElem?_eq_none_iff.mp hi)];exact(h.tot hp).mono ()
  |some p=>
   let⟨d,n,a,b,c⟩:=h.at hi;exact(a.tot λf e=>hp f (mem_of_mem_take e)).mono ()
 .let⟨i,hi⟩:=getElem?_of_mem hm;let⟨d,n,a,b,c⟩:=h.at hi;exact b.mono ()
theorem PB.all(h:PB ps):Mq.Bd 4400 (tot ps):=by
 have:=h.a ps.length
 rwa [take_length] at this
inductive wY(K:Frag)(vs:vk)(H:Hp)(Q:VK)(E:XK):Prop where
 |mk (a:Addr) (xs:vk) (ps:List Mq.Q2):vs=[.ref a]->SqL K H a xs->Fqs K H xs ps->PB ps->(∀r H',aS H H'->Fq K H' r (tot ps)->Q (.ref r) H')->wY K vs H Q E
abbrev Ir:Stmt:=top 28
theorem uX:aP ["some","so_far","one"] ["some"] (aI Ir):=sK9
def gU(ds:List RD)(s:Stp):Mq.Q2:=mU (red s.2 1) (ds.getD s.1 (.pc,0,0,(0,1))).2.2.2
inductive Jj(CN:Addr)(K:Frag)(vs:vk)(H:Hp)(Q:VK)(E:XK):Prop where
 |mk (n l b:Addr) (m:Int) (ds:List RD) (xs:vk) (st:List Stp):vs=[.ref n,.ref b]->dB CN K H n l m ds->ds.length<=100->(∀d∈ds,Mq.Low d.2.2.2/\Mq.Bd 61 d.2.2.2)->SqL K H b xs->Sts K H xs st->st.length<=21->(∀s∈st,s.1 < ds.length/\(s.2=1\/s.2=-1))->(∀a H',aS H H'->Fq K H' a (tot (st.map (gU ds)))->Q (.ref a) H')->Jj CN K vs H Q E
theorem qf1{w:Int}(h:w=1\/w=-1):red w 1=(w,1)/\Mq.Low (w,1)/\Mq.Bd 1 (w,1):=by
 rcases h with rfl | rfl
 .exists ∅,⟨∅,∅⟩,⟨show (1:Nat) < 2 ^ 1 by decide,show (1:Nat) < 2 ^ 1 by decide⟩
 .exists ∅,⟨∅,∅⟩,⟨show (1:Nat) < 2 ^ 1 by decide,show (1:Nat) < 2 ^ 1 by decide⟩
theorem Nn(f:∀d∈ds,Mq.Low d.2.2.2/\Mq.Bd 61 d.2.2.2)(h:s.1 < ds.length/\(s.2=1\/s.2=-1)):Mq.Low (gU ds s)/\Mq.Bd 71 (gU ds s):=by
 let⟨e,l,b⟩:=qf1 h.2;let a:ds[s.1]?=some ds[s.1]:=getElem?_eq_getElem h.1;let eg:ds.getD s.1 (.pc,0,0,(0,1))=ds[s.1]:=by rw[getD_eq_getElem?_getD,a];rfl
 let⟨c,b2⟩:=f _ (mem_of_getElem? a);unfold gU;rw[e,eg];exists lK l.pos c.pos,(Fw b b2 l.pos c.pos).mono ()
theorem Hi(c:∀d∈ds,Mq.Low d.2.2.2/\Mq.Bd 61 d.2.2.2):∀{st:List Stp},(∀s∈st,s.1 < ds.length/\(s.2=1\/s.2=-1))->Mq.Wt (st.map (gU ds)) (72*st.length)
 | [],_=>.nil
 |s :: st,h=>by
  let a:=Hi c (st:=st) λx b=>h x (mem_cons_of_mem _ b);have:=Mq.Wt.cons (Nn c (h s ⋯)).2 a;rw[length_cons,show 72*(st.length+1)=71+1+72*st.length by lia];exact this
theorem Py{st:List Stp}(a:∀d∈ds,Mq.Low d.2.2.2/\Mq.Bd 61 d.2.2.2)(h:∀s∈st,s.1 < ds.length/\(s.2=1\/s.2=-1)):Mq.Pos (st.map (gU ds)):=λp hp=>by
 let⟨s,hs,rfl⟩:=mem_map.mp hp;exact(Nn a (h s hs)).1.pos
theorem jS:(["number","way","rows"]:List Str).Nodup:=by decide +kernel
abbrev Vs:Stmt:=top 37
theorem Sz:aP ["net","ring","rows"] ["net","ring"] (aI Vs):=sK9
inductive Dv(K:Frag)(C:Addr)(vs:vk)(H:Hp)(Q:VK)(E:XK):Prop where
 |mk (x l:Addr) (xs:vk):vs=[.ref x,.ref l]->H x=some (iI x (.ref C) none)->SqL K H l xs->xs.length<=1000->(∀dx l2 H',H dx=none->H l2=none->dx≠x->l2≠x->(∀b o,H b=some o->b≠x->H' b=some o)->H' x=some (iI x (.ref C) (some dx))->H' dx=some (.xd [("points",.ref l2)])->H' l2=some (.lst xs)->Q .non H')->Dv K C vs H Q E
abbrev Hw:Stmt:=dI (top 14) 0
theorem qb8:aP ["self","points"] ["self","points"] (aI Hw):=sK9
inductive wC(K:Frag)(C:Addr)(vs:vk)(H:Hp)(Q:VK)(E:XK):Prop where
 |mk (x l t:Addr) (xs:vk):vs=[.ref x,.ref l,.ref t]->H x=some (iI x (.ref C) none)->SqL K H l xs->xs.length<=1000->(∀dx l2 H',H dx=none->H l2=none->dx≠x->l2≠x->(∀b o,H b=some o->b≠x->H' b=some o)->H' x=some (iI x (.ref C) (some dx))->H' dx=some (.xd [("ring",.ref l2),("total",.ref t)])->H' l2=some (.lst xs)->Q .non H')->wC K C vs H Q E
abbrev Ei:Stmt:=dI (top 13) 0
theorem Rg:aP ["self","ring","total"] ["self","ring","total"] (aI Ei):=sK9
theorem tI(s:aS H H1)(a:H1 x=none)(keep:∀b u,(upd H1 x o) b=some u->b≠x->H4 b=some u):aS H (pL H4 x):=λb u e=>by
 let nb:b≠x:=λz=>by rw[z,s.free a] at e;cases e
 rw[jO nb];exact keep b u (by rw[aQ nb];exact s b u e) nb
abbrev wHo:Kd->Bool:=λk=>inV (.str k.wd) [.str "hold"]
abbrev rgH(ds:List RD):List (Nat × List Stp):=(bO wHo (skl ds) ds.length).2
def ERg(CG:Addr)(K:Frag)(H:Hp)(E:XK)(ds:List RD)(st:List Stp):Prop:=∀dx l t us H',aS H H'->H' dx=some (.xd [("ring",.ref l),("total",.ref t)])->H l=none->H' l=some (.lst us)->Sts K H' us st->Fq K H' t (tot (st.map (gU ds)))->E (.ref CG) (some dx) H'
def EFl(CF:Addr)(H:Hp)(E:XK)(ps:List Int):Prop:=∀dx l H',aS H H'->H' dx=some (.xd [("points",.ref l)])->H l=none->H' l=some (.lst (ps.map V.int))->E (.ref CF) (some dx) H'
structure Rfs(CG CF:Addr)(K:Frag)(H:Hp)(E:XK)(m:Nat)(ds:List RD):Prop where
 rg:∀c r,rgH ds=c :: r->ERg CG K H E ds c.2
 fl:rgH ds=[]->cZ m ds≠[]->EFl CF H E (cZ m ds)
theorem Rfs.same(r:Rfs CG CF K H E m ds)(s:aS H H1):Rfs CG CF K H1 E m ds:=⟨λc f e dx l t g H' s' a b=>r.rg c f e dx l t g H' (s.trans s') a (s.free b),λa b dx l H' s' c d=>r.fl a b dx l H' (s.trans s') c (s.free d)⟩
inductive Jo(CN CG CF:Addr)(K:Frag)(vs:vk)(H:Hp)(Q:VK)(E:XK):Prop where
 |mk (n l:Addr) (m:Nat) (ds:List RD):vs=[.ref n]->dB CN K H n l (m:Int) ds->(∀d∈ds,cO (m:Int) d.2.1 d.2.2.1)->1<=m->m<=20->ds.length<=40->(∀d∈ds,Mq.Low d.2.2.2/\Mq.Bd 61 d.2.2.2)->Rfs CG CF K H E m ds->(rgH ds=[]->cZ m ds=[]->∀H',aS H H'->Q .non H')->Jo CN CG CF K vs H Q E
abbrev qq4:Stmt:=top 70
theorem Wm:aP ["net","held","points"] ["net"] (aI qq4):=sK9
inductive tU(K:Frag)(CK:Kd->Addr)(k:Kd)(vs:vk)(H:Hp)(Q:VK)(E:XK):Prop where
 |mk (x z a h:Addr) (s g:V) (p u v:Mq.Q2) (n m:Nat):vs=[.ref x,.ref a,.ref h]->Rw CK H x k s g (.ref z)->Fq K H z p->Fq K H a u->Fq K H h v->1<=p.2->1<=u.2->Mq.Bd n p->Mq.Bd m u->n+m+1<=9000->(k=.pc->0 < p.1)->(∀r H',aS H H'->Fq K H' r (zH k u v p)->Q (.ref r) H')->tU K CK k vs H Q E
abbrev qJ:Stmt:=dI (top 40) 3
theorem He:aP ["self","fall","held"] ["self","fall","held"] (aI qJ):=sK9
abbrev qA:Stmt:=dI (top 41) 3
theorem Gj:aP ["self","fall","held"] ["self","fall","held"] (aI qA):=sK9
theorem Dt(F : aV K "stream" "Push.stream" qA dV f fd)(T : RT K mg CR CK): aK P w K mg base CX 4 f fd ["self", "fall", "held"] (tU K CK .pu) := by
  refine F.ok Gj (λvs H Q E h => ?_) (λe A b s H vs Q E i h => ?_)
  . obtain ⟨x, z, a, h, s, g, p, u, v, n, m, rfl, _⟩ := h
    rfl
  obtain ⟨x, z, a, h, s, g, p, u, v, n, m, rfl, ⟨dx, c⟩, d, j, k, hp, l, o, r, t, y, q⟩ := h;refine ⟨_, (aF (aU (cA (pv 0) rfl))),7⟩;exact ⟨9, x, CK .pu, dx, _,9, c, T.cl _, T.nZ _, eQ _ _ _, q z H (aS.refl H) d⟩
abbrev pY:Stmt:=dI (top 42) 3
theorem Hk:aP ["self","fall","held"] ["self","fall","held"] (aI pY):=sK9
theorem By(F : aV K "stream" "Hold.stream" pY dV f fd)(T : RT K mg CR CK): aK P w K mg base CX 4 f fd ["self", "fall", "held"] (tU K CK .ho) := by
  refine F.ok Hk (λvs H Q E h => ?_) (λd A b s H vs Q E e h => ?_)
  . obtain ⟨x, z, a, h, s, g, p, u, v, n, m, rfl, _⟩ := h
    rfl
  obtain ⟨x, z, a, h, s, g, p, u, v, n, m, rfl, ⟨dx, i⟩, j, k, c, hp, l, o, r, t, y, q⟩ := h;refine ⟨_, (aF (aU (pv 2))),7⟩;exact ⟨9, q h H (aS.refl H) c⟩
abbrev Su:Stmt:=top 44
theorem qi5:aP ["row","heights"] ["row","heights"] (aI Su):=sK9
inductive Ej(K:Frag)(CK:Kd->Addr)(vs:vk)(H:Hp)(Q:VK)(E:XK):Prop where
 |mk (a b h:Addr) (xs ls ys:vk) (ds:List RD) (lv hs:List Mq.Q2) (m:Nat):vs=[.ref a,.ref b,.ref h]->H a=some (.lst xs)->gZ CK K H xs ds->StB K H b ls lv m->SqL K H h ys->Fqs K H ys hs->(∀p∈hs,Mq.Low p)->(∀d∈ds,yE (m:Int) d)->bZ ds<=hs.length->ds.length<=40->(∀l zs H',aS H H'->H l=none->H' l=some (.lst zs)->Fqs K H' zs (sU lv hs 0 ds)->Q (.ref l) H')->Ej K CK vs H Q E
abbrev Ki:Stmt:=top 72
theorem pB:aP ["rows","levels","held","flows","taken","row","fall"] ["rows","levels","held"] (aI Ki):=sK9
abbrev Wv:Stmt:=dI (top 71) 1
theorem qi2:aP ["self"] ["self"] (aI Wv):=sK9
abbrev Qr:Stmt:=dI (top 71) 2
theorem ql6:aP ["self"] ["self"] (aI Qr):=sK9
theorem No:∀{us:vk}{X:List (List Mq.Q2)},Fms K H0 H us X->(∀x∈us,x≠.ref D)->Fmd K H0 D H us X
 | [],[],_,_=>.nil
 | [],_ :: _,h,_=>by have:=h.l;simp at this
 |_ :: _,[],h,_=>by have:=h.l;simp at this
 |x :: us,ps :: X,h,n=>by
  let⟨a,xs,rfl,n0,h1,h2⟩:=h.r 0 x ps rfl rfl;exact .cons n0 (λz=>n _ (mem_cons_self ..) (by rw[z])) h1 h2 (No ⟨by have:=h.l;simpa using this,λi y qs b c=>h.r (i+1) y qs (by simpa using b) (by simpa using c)⟩ λy d=>n y (mem_cons_of_mem _ d))
theorem qk6(xs:vk)(k:Nat):jJ xs none (some (k:Int))=xs.take k:=by
 unfold jJ;let h1:HT.sIx xs.length 0 none=0:=rfl;let h2:HT.sIx xs.length xs.length (some (k:Int))=min k xs.length:=by simp[HT.sIx];lia
 rw[h1,h2,drop_zero,Nat.sub_zero,take_eq_take_iff];lia
theorem cQ.rtsI(a:H t=some (.ins C dx fs))(e:cQ t H H'):∀{xs:vk}{ds:List RD},Rts K H xs ds->Rts K H' xs ds
 |_,_,.nil=>.nil
 |_,_,.cons h f q=>.cons (cQ.seqTI a e h) (cQ.seqTI a e f) (cQ.rtsI a e q)
theorem dB.xI(d:H q=some (.ins C dx fs))(e:cQ q H H')(ne:n≠q)(h:dB CN K H n l m ds):dB CN K H' n l m ds:=
 let ⟨⟨dx,a⟩,ts,b,c⟩:=h;⟨⟨dx,e _ _ a ne⟩,ts,e _ _ b (gV b d (λz=>by cases z)),cQ.rtsI d e c⟩
theorem qm9(b:H q=some (.ins C dx []))(h:dB CN K H n l m ds):n≠q:=λz=>by
 let⟨dn,a⟩:=h.ob;rw[z,b] at a;injection a with a
 injection a with _ _ a
 unfold pO at a;have:=bQ ("kept":Str) "kept" (.ref l) (fM "point_count" (.int m) []);rw[<- a,if_pos rfl] at this
 cases this
theorem Fqs.drop:∀(k:Nat){xs:vk}{ps:List Mq.Q2},Fqs K H xs ps->Fqs K H (xs.drop k) (ps.drop k)
 |0,_,_,h=>h
 |_+1,_,_,.nil=>.nil
 |k+1,_,_,.cons _ q=>Fqs.drop k q
theorem Fqs.take:∀(k:Nat){xs:vk}{ps:List Mq.Q2},Fqs K H xs ps->Fqs K H (xs.take k) (ps.take k)
 |0,_,_,h=>.nil
 |_+1,_,_,.nil=>.nil
 |k+1,_,_,.cons f q=>.cons f (Fqs.take k q)
inductive rC(CN CA CG CF:Addr)(K:Frag)(vs:vk)(H:Hp)(Q:VK)(E:XK):Prop where
 |mk (x dx n l:Addr) (m:Nat) (ds:List RD):vs=[.ref x,.ref n]->H x=some (.ins CA dx [])->dB CN K H n l (m:Int) ds->(∀d∈ds,cO (m:Int) d.2.1 d.2.2.1)->1<=m->m<=20->ds.length<=40->(∀d∈ds,Mq.Low d.2.2.2/\Mq.Bd 61 d.2.2.2)->Rfs CG CF K H E m ds->(rgH ds=[]->cZ m ds=[]->∃(b:Nat)(kb:Nat->Nat)(L:Int),Rc CN K H n l m b kb L ds/\bw b (wd m ds)<=3900/\(∀i,∃a:Int,Mq.B b a/\eqR m ds (i+1)=(a:Rat) / (L:Rat))/\
 ∀ps H',cQ x H H'->aAe CA K H H' x (lvS m ps) (sU (lvS m ps) (ps.drop (m - 1)) 0 ds)->ps.length=wd m ds->dP ps->Ovr (bw b (wd m ds)) ps->Sv m ds (eqR m ds) (uP ps)->Q .non H')->rC CN CA CG CF K vs H Q E
abbrev Jf:Stmt:=dI (top 71) 0
theorem uZ:aP ["self","net","both","known","inner"] ["self","net"] (aI Jf):=sK9
inductive Ka(CN:Addr)(K:Frag)(k:Kd)(g:RE->Mq.Q2)(vs:vk)(H:Hp)(Q:VK)(E:XK):Prop where
 |mk (n l b:Addr) (m:Nat) (ds:List RD) (ys:vk) (ss:List Mq.Q2):vs=[.ref n,.ref b]->dB CN K H n l (m:Int) ds->ds.length<=100->(∀d∈ds,yE (m:Int) d)->StB K H b ys ss ds.length->PB ((pJ k (ds.zip ss)).map g)->(∀r H',aS H H'->Fq K H' r (tot ((pJ k (ds.zip ss)).map g))->Q (.ref r) H')->Ka CN K k g vs H Q E
inductive Ct(CN:Addr)(K:Frag)(vs:vk)(H:Hp)(Q:VK)(E:XK):Prop where
 |mk (n l a:Addr) (m:Nat) (ds:List RD) (xs:vk) (hp:List Mq.Q2):vs=[.ref n,.ref a]->dB CN K H n l (m:Int) ds->ds.length<=100->(∀d∈ds,yE (m:Int) d)->StB K H a xs hp m->PB ((fP .pu ds).map (gP hp))->mH H Q (qs8 hp ds)->Ct CN K vs H Q E
theorem Fh:(["row","word"]:List Str).Nodup:=by decide +kernel
abbrev Cj:Stmt:=top 76
theorem Xc:aP ["net","word"] ["net","word"] (aI Cj):=sK9
theorem jR:(["row","stream","word"]:List Str).Nodup:=by decide +kernel
abbrev Ii:Stmt:=top 78
theorem Zc:aP ["net","word","streams"] ["net","word","streams"] (aI Ii):=sK9
theorem pQ:(["row","stream"]:List Str).Nodup:=by decide +kernel
abbrev Qw:Stmt:=top 79
theorem qm2:aP ["net","streams"] ["net","streams"] (aI Qw):=sK9
theorem wI:(["row","heights"]:List Str).Nodup:=by decide +kernel
abbrev Ih:Stmt:=top 80
theorem qc6:aP ["net","heights"] ["net","heights"] (aI Ih):=sK9
abbrev La:Stmt:=dI (top 49) 2
theorem qb9:aP ["self"] ["self"] (aI La):=sK9
inductive AF(K:Frag)(H:Hp)(m:Int):V->Bool->Prop where
 |ty {v:V} {t:Value} (h:TyQ K H v t) (n:W.kitOne K t (.type "list")=some false):AF K H m v false
 |lst {a:Addr} {xs:vk} {ps:List Mq.Q2} (h:SqL K H a xs) (z:Fqs K H xs ps) (low:dP ps) (l:xs.length<=100):AF K H m (.ref a) (decide ((xs.length:Int)=m))
inductive qo6(K:Frag)(vs:vk)(H:Hp)(Q:VK)(E:XK):Prop where
 |mk (v:V) (m:Int) (bb:Bool):vs=[v,.int m]->AF K H m v bb->(∀H',aS H H'->Q (.bl bb) H')->qo6 K vs H Q E
theorem qo9:(["one"]:List Str).Nodup:=by decide +kernel
abbrev sAF:Stmt:=top 75
theorem aAr:aP ["some","many"] ["some","many"] (aI sAF):=sK9
theorem dn0:Mq.Dn 0 (0,1):=⟨⟨∅,∅⟩,0,by unfold Mq.val;simp;grind,6,6⟩
def stp(rs:List Mq.Q2)(d:RD)(s:Mq.Q2):List Mq.Q2:=
 (rs.set d.2.1.toNat (Mq.plus (rs.getD d.2.1.toNat (0,1)) s)).set d.2.2.1.toNat (Mq.minus ((rs.set d.2.1.toNat (Mq.plus (rs.getD d.2.1.toNat (0,1)) s)).getD d.2.2.1.toNat (0,1)) s)
def rst(m:Nat)(l:List (RD × Mq.Q2)):List Mq.Q2:=l.foldl (λr x=>stp r x.1 x.2) (replicate m (0,1))
theorem Gr(m:Nat)(l:List (RD × Mq.Q2))(x:RD × Mq.Q2):rst m (l++[x])=stp (rst m l) x.1 x.2:=by unfold rst;rw[foldl_append];rfl
theorem Xv(rs:List Mq.Q2)(d:RD)(s:Mq.Q2):(stp rs d s).length=rs.length:=by unfold stp;rw[length_set,length_set]
inductive Et(K:Frag)(CK:Kd->Addr)(vs:vk)(H:Hp)(Q:VK)(E:XK):Prop where
 |mk (a b:Addr) (xs ys:vk) (ds:List RD) (ss:List Mq.Q2) (m:Nat) (N:Int):vs=[.ref a,.ref b,.int (m:Int)]->SqL K H a xs->gZ CK K H xs ds->SqL K H b ys->Fqs K H ys ss->ss.length=ds.length->ds.length<=60->(∀s∈ss,Mq.Dn N s)->0<=N->121*N < 2 ^ 99->(∀d∈ds,cO (m:Int) d.2.1 d.2.2.1)->m<=20->(∀l zs H',aS H H'->H' l=some (.lst zs)->Fqs K H' zs (rst m (ds.zip ss))->Q (.ref l) H')->Et K CK vs H Q E
abbrev Ij:Stmt:=top 77
theorem vH:aP ["rows","streams","many","rests","row","stream"] ["rows","streams","many"] (aI Ij):=sK9
def flw(x:Nat)(e:RD × Mq.Q2):Rat:=(if e.1.2.1.toNat=x then Mq.val e.2 else 0) + -(if e.1.2.2.1.toNat=x then Mq.val e.2 else 0)
def flS(x:Nat)(l:List (RD × Mq.Q2)):Rat:=qO (l.map (flw x))
theorem kX(x:Nat)(e:RD × Mq.Q2)(l:List (RD × Mq.Q2)):flS x (e :: l)=flw x e+flS x l:=rfl
theorem qX(x:Nat)(a b:List (RD × Mq.Q2)):flS x (a++b)=flS x a+flS x b:=by unfold flS;rw[map_append,Mq.Ws]
theorem Yf(x k:Nat)(e:RD × Mq.Q2)(l:List (RD × Mq.Q2)):flS x (l.take k++e :: l.drop k)=flw x e+flS x l:=by
 have:=qX x (l.take k) (l.drop k);rw[take_append_drop] at this;rw[qX,kX,this];grind
def EOk(m:Nat)(e:RD × Mq.Q2):Prop:=cO (m:Int) e.1.2.1 e.1.2.2.1/\1<=e.2.2
theorem Gx{l:List Mq.Q2}(hi:i < l.length):(l.set i q).getD x (0,1)=if i=x then q else l.getD x (0,1):=by
 rw[getD_eq_getElem?_getD,getElem?_set]
 by_cases e:i=x
 .rw[if_pos e,if_pos e,if_pos ()];rfl
 .rw[if_neg e,if_neg e,<- getD_eq_getElem?_getD]
theorem Mj(h:Mq.Pos hp)(j:Nat):1<=(hp.getD j (0,1)).2:=by
 rw[getD_eq_getElem?_getD]
 cases e:hp[j]? with
 |none=>exact Int.le_refl 1
 |some p=>exact h p (mem_of_getElem? e)
theorem Mp(h:dP l)(hq:Mq.Low q):dP (l.set i q):=λp hp=>by
 rcases mem_or_eq_of_mem_set hp with z | z
 .exact h p z
 .rw[z];exact hq
theorem Yn(r:rs.length=m)(h:dP rs)(p:EOk m e):dP (stp rs e.1 e.2)/\∀x,Mq.val ((stp rs e.1 e.2).getD x (0,1))=Mq.val (rs.getD x (0,1))+flw x e:=by
 let⟨⟨k,i1,n,o⟩,c⟩:=p;let d:=Mj h.pos e.1.2.1.toNat;let f:=Mq.iW d c;let h1:=Mp (i:=e.1.2.1.toNat) h f;let p2:=Mj h1.pos e.1.2.2.1.toNat;let j:=Mq.cH p2 c;exists Mp h1 j,λx=>?_;unfold stp;rw[Gx (by rw[length_set];lia)];let g:=λy=>Gx (l:=rs) (i:=e.1.2.1.toNat) (x:=y) (q:=Mq.plus (rs.getD e.1.2.1.toNat (0,1)) e.2) ();unfold flw
 by_cases a:e.1.2.2.1.toNat=x
 .rw[if_pos a,Mq.dS p2 c,g,if_pos a];subst a
  by_cases b:e.1.2.1.toNat=e.1.2.2.1.toNat
  .rw[if_pos b,if_pos b,Mq.iF d c,b];grind
  .rw[if_neg b,if_neg b];grind
 .rw[if_neg a,g,if_neg a]
  by_cases b:e.1.2.1.toNat=x
  .rw[if_pos b,if_pos b,Mq.iF d c,b];grind
  .rw[if_neg b,if_neg b];grind
theorem Fp:∀(l:List (RD × Mq.Q2))(rs:List Mq.Q2),rs.length=m->dP rs->(∀e∈l,EOk m e)->(l.foldl (λr x=>stp r x.1 x.2) rs).length=m/\dP (l.foldl (λr x=>stp r x.1 x.2) rs)/\∀x,Mq.val ((l.foldl (λr x=>stp r x.1 x.2) rs).getD x (0,1))=Mq.val (rs.getD x (0,1))+flS x l
 | [],rs,hl,h,_=>⟨hl,h,λx=>by show _=_+(0:Rat);rw[Rat.add_zero];rfl⟩
 |e :: l,rs,hl,h,he=>by
  let⟨a,b⟩:=Yn hl h (he e ⋯);let⟨c,d,f⟩:=Fp l (stp rs e.1 e.2) (by rw[Xv];exact hl) a λy g=>he y (mem_cons_of_mem _ g);exists c,d,λx=>?_;have:=f x;rw[b x] at this;rw[kX];show Mq.val ((l.foldl (λr x=>stp r x.1 x.2) (stp rs e.1 e.2)).getD x (0,1))=_;rw[this];grind
theorem Nu:Mq.Low (0,1):=⟨∅,∅⟩
theorem vU(d:∀e∈l,EOk m e):(rst m l).length=m/\dP (rst m l)/\∀x,Mq.val ((rst m l).getD x (0,1))=flS x l:=by
 let⟨a,b,c⟩:=Fp l (replicate m (0,1)) length_replicate (λp hp=>by rw[eq_of_mem_replicate hp];exact Nu) d;exists a,b,λx=>(c x).trans ?_;have:(replicate m ((0,1):Mq.Q2)).getD x (0,1)=(0,1):=by
  rw[getD_eq_getElem?_getD]
  cases e:(replicate m ((0,1):Mq.Q2))[x]? with
  |none=>rfl
  |some p=>exact eq_of_mem_replicate (mem_of_getElem? e)
 rw[this,Mq.mQ,Rat.zero_add]
theorem Nk:∀{l:List (RD × Mq.Q2)},(∀e∈l,EOk m e)->Mq.rs m (λx=>flS x l)=0
 | [],_=>eV m
 |e :: l,h=>by
  let⟨⟨b,i1,c,d⟩,f⟩:=h e ⋯;have:Mq.rs m (λx=>flS x (e :: l))=Mq.rs m (λx=>flw x e+flS x l):=aX λx _=>kX x e l;rw[this,fE,Nk λy a=>h y (mem_cons_of_mem _ a)];unfold flw;rw[fE,pX,yR m _ (λ_=>Mq.val e.2),yR m _ (λ_=>Mq.val e.2),if_pos (),if_pos ()];grind
theorem Ob:∀{m:Nat},(∀x,1<=x->x < m+1->F x=0)->Mq.rs (m+1) F=F 0
 |0,_=>by show 0+F 0=F 0 ;grind
 |m+1,h=>by
  have:=Ob (m:=m) λx a b=>h x a ();show Mq.rs (m+1) F+F (m+1)=_;rw[this,h (m+1) () ()];grind
theorem Fc(j:∀e∈l,EOk m e)(h:∀x,1<=x->x < m->flS x l=0):(rst m l).all (λp=>decide (p=(0,1)))=true:=by
 let⟨a,b,c⟩:=vU j;rw[all_eq_true];intro p hp;let⟨x,f⟩:=getElem?_of_mem hp;let d:=(wk.mp f).1;let g:(rst m l).getD x (0,1)=p:=by rw[getD_eq_getElem?_getD,f];rfl
 let i:flS x l=0:=by
  match x,d with
  |0,d=>
   let hm:∃k,m=k+1:=⟨m - 1,6⟩
   let⟨k,rfl⟩:=hm;have:=Nk j;rw[Ob h] at this;exact this
  |x+1,d=>exact h _ () ()
 have:=c x;rw[g,i,<- Mq.mQ] at this;exact decide_eq_true (Lu (b p hp) Nu this)
def okp(e:RD × Mq.Q2):Bool:=!(decide (e.1.1=.pu) && !decide (e.2=e.1.2.2.2))
def sv(m:Nat)(l:List (RD × Mq.Q2)):Bool:=l.all okp && (rst m l).all (λp=>decide (p=(0,1)))
theorem qg4(h:e∈l)(n:okp e=false):sv m l=false:=by
 unfold sv;have:l.all okp=false:=by
  cases c:l.all okp with
  |false=>rfl
  |true=>have:=all_eq_true.mp c e h;rw[n] at this;cases this
 rw[this];rfl
inductive yL(CN:Addr)(K:Frag)(vs:vk)(H:Hp)(Q:VK)(E:XK):Prop where
 |mk (n l:Addr) (m:Nat) (ds:List RD) (v:V):vs=[.ref n,v]->dB CN K H n l (m:Int) ds->ds.length<=60->((AF K H (ds.length:Int) v false/\∀H',aS H H'->Q (.bl false) H')\/(∃(b:Addr)(ys:vk)(ss:List Mq.Q2)(N:Int),v=.ref b/\SqL K H b ys/\Fqs K H ys ss/\ss.length=ds.length/\(∀s∈ss,Mq.Dn N s)/\0<=N/\121*N < 2 ^ 99/\(∀d∈ds,cO (m:Int) d.2.1 d.2.2.1)/\m<=20/\∀H',aS H H'->Q (.bl (sv m (ds.zip ss))) H'))->yL CN K vs H Q E
theorem oR(k:Kd):decide (V.str k.wd=V.str "push")=decide (k=.pu):=dX k .pu
theorem qb2:(["rest"]:List Str).Nodup:=by decide +kernel
abbrev Er:Stmt:=top 74
theorem rJ:aP ["net","streams","rows","row","stream"] ["net","streams"] (aI Er):=sK9
theorem Mg{P:Nat->Prop}:∀n,P n->∃k,P k/\∀q,q < k->¬P q:=by
 intro n
 induction n using Nat.strongRecOn with
 |_ n ih=>
  intro h
  by_cases c:∃q,q < n/\P q
  .let⟨q,a,b⟩:=c;exact ih q a b
  .exists n,h,λq a b=>c ⟨q,a,b⟩
noncomputable def cnt(P:Nat->Prop)(m:Nat):Nat:=match m with
 |0=>0
 |m+1=>cnt P m + @ite Nat (P m) (Classical.propDecidable _) 1 0
theorem Vz(h:∀p,P' p->P p):∀m,cnt P' m<=cnt P m
 |0=>Nat.le_refl _
 |m+1=>by
  classical
  have:=Vz h m;show cnt P' m+(if P' m then 1 else 0)<=cnt P m+(if P m then 1 else 0)
  by_cases c:P' m
  .rw[if_pos c,if_pos (h m c)];lia
  .rw[if_neg c];lia
theorem Rm(h:∀p,P' p->P p)(a:P k)(b:¬P' k):∀m,k < m->cnt P' m+1<=cnt P m
 |m+1,hk=>by
  classical
  show cnt P' m+(if P' m then 1 else 0)+1<=cnt P m+(if P m then 1 else 0)
  by_cases e:k=m
  .subst e;have:=Vz h k;rw[if_neg b,if_pos a];lia
  .have:=Rm h a b m ()
   by_cases c:P' m
   .rw[if_pos c,if_pos (h m c)];lia
   .rw[if_neg c];lia
theorem Np(P:Nat->Prop):∀m,cnt P m<=m
 |0=>Nat.le_refl _
 |m+1=>by
  classical
  have:=Np P m;show cnt P m+(if P m then 1 else 0)<=m+1;split<;>lia
theorem Di(h:P 0):∀m,1<=m->1<=cnt P m
 |1,_=>by
  classical
  show 1<=0+(if P 0 then 1 else 0);rw[if_pos h];exact Nat.le_refl _
 |m+2,_=>by
  classical
  have:=Di h (m+1) ();show 1<=cnt P (m+1)+_;lia
def sK(A:List RD)(p:Nat):Prop:=∀q,q < p->¬Cn A q p
theorem sY{m:Nat}:∀(n:Nat)(A:List RD),A.length=n->(∀d∈A,cO (m:Int) d.2.1 d.2.2.1/\d.1≠.pu)->(∀M B d,A=M++d :: B->¬Cn M d.2.1.toNat d.2.2.1.toNat)->A.length+cnt (sK A) m<=m
 |0,A,hl,_,_=>by rw[hl,Nat.zero_add];exact Np _ _
 |n+1,A,hl,pt,fr=>by
  obtain⟨es,d,rfl⟩:∃es d,A=es++[d]:=⟨A.dropLast,A.getLast (by intro z;rw[z] at hl;cases hl),(dropLast_concat_getLast _).symm⟩
  let le:es.length=n:=by rw[wq] at hl;simpa using hl
  let G:=sY n es le (λx i=>pt x (mem_append_left _ i)) λM B x e=>fr M (B++[d]) x (by rw[e];simp);let j:=fr es [] d rfl;let⟨⟨H,i1,I,J⟩,C⟩:=pt d ⋯;let row:Cn (es++[d]) d.2.1.toNat d.2.2.1.toNat:=.row ⋯ C;let l:∀{p q:Nat},Cn es p q->Cn (es++[d]) p q:=λc=>c.mono λx i=>mem_append_left _ i;let t:d.2.1.toNat < m:=by lia
  let u:d.2.2.1.toNat < m:=by lia
  generalize d.2.1.toNat=s at *
  generalize d.2.2.1.toNat=g at *
  let mono:∀p,sK (es++[d]) p->sK es p:=λp h q f c=>h q f (l c);let v:∀s g:Nat,s < m->g < m->¬Cn es s g->Cn (es++[d]) s g->∃k,k < m/\sK es k/\¬sK (es++[d]) k:=by
   intro s g t u j row;let⟨a,o,w⟩:=Mg (P:=λq=>Cn es q s) s (.refl s);let⟨b,r,y⟩:=Mg (P:=λq=>Cn es q g) g (.refl g);let K:a<=s:=Nat.le_of_not_lt λz=>w s z (.refl s);let L:b<=g:=Nat.le_of_not_lt λz=>y g z (.refl g);let ab:Cn (es++[d]) a b:=.trans (l o) (.trans row (.symm (l r)));rcases Nat.lt_trichotomy a b with z | z | z
   .exists b,6,λq f c=>y q f (.trans c r),λh=>h a z ab
   .exact absurd (Cn.trans (.symm o) (by rw[z];exact r)) j
   .exists a,6,λq f c=>w q f (.trans c o),λh=>h b z (.symm ab)
  let⟨k,D,E,F⟩:=v s g t u j row;have:=Rm mono E F m D;rw[wq];show es.length+1+_<=m;lia
theorem Zh{m:Nat}(c:1<=m)(pt:∀d∈ds,cO (m:Int) d.2.1 d.2.2.1)(fr:Frs ds):bZ ds<=m - 1:=by
 have:=sY (m:=m) _ (fP .ho ds) rfl (λd a=>by
  unfold fP at a;let⟨h1,h2⟩:=mem_filter.mp a;exact⟨pt d h1,by rw[of_decide_eq_true h2];decide⟩) (Yl.mp fr)
 have:=Di (P:=sK (fP .ho ds)) (λq b=>absurd b (Nat.not_lt_zero _)) m c;unfold bZ;lia
theorem wH(lv hs:List Mq.Q2):∀(ds:List RD)(t i:Nat)(d:RD)(q:Mq.Q2),ds[i]?=some d->(sU lv hs t ds)[i]?=some q->q=yY lv hs (t+bZ (ds.take i)) d
 |e :: r,t,0,d,q,h,g=>by
  let h:e=d:=Option.some.inj h;let g:yY lv hs t e=q:=Option.some.inj g;rw[<- g,h];rfl
 |e :: r,t,i+1,d,q,h,g=>by
  have:=wH lv hs r (t+cT e.1) i d q h g;rw[this,take_succ_cons,gO,Nat.add_assoc]
abbrev flA(m:Nat)(ds:List RD)(sol:List Mq.Q2):List Mq.Q2:=sU (lvS m sol) (sol.drop (m - 1)) 0 ds
def NN:Int:=27720000000000000
def NP:Int:=42*NN
structure R49(m:Nat)(d:RD):Prop where
 ok:yE (m:Int) d
 pc:d.1=.pc->Mq.B 30 d.2.2.2.1/\d.2.2.2.2.natAbs<=6
 nu:d.1≠.pc->Mq.Dn NP d.2.2.2
theorem R49.pt(h:R49 m d):cO (m:Int) d.2.1 d.2.2.1:=⟨h.ok.1,h.ok.2.1,h.ok.2.2.1,h.ok.2.2.2.1⟩
theorem R49.bd(h:R49 m d):Mq.Bd 61 d.2.2.2:=by
 by_cases k:d.1=.pc
 .let⟨a,b⟩:=h.pc k;exists a.mono ∅,Nat.lt_of_le_of_lt b ∅
 .exact(h.nu k).bd ∅ ∅
def iQ(ds:List RD):List Int:=(ds.filter λd=>decide (d.1=.pc/\d.2.2.2.1≠1)).map λd=>d.2.2.2.1
def Nm(L:Int)(N:Nat)(x:Rat):Prop:=∃a:Int,a.natAbs<=N/\x=(a:Rat) / (L:Rat)
section
variable {L T:Int} {M N:Nat} {x y:Rat}
theorem Nm.zero:Nm L 0 0:=⟨0,Nat.le_refl _,by show (0:Rat)=(0:Rat) / _;rw[Rat.div_def,Rat.zero_mul]⟩
theorem Nm.mono(h:Nm L M x)(l:M<=N):Nm L N x:=by
 let⟨a,b,c⟩:=h;exists a,Nat.le_trans b l,c
theorem Nm.add(h:Nm L M x)(g:Nm L N y):Nm L (M+N) (x+y):=by
 let⟨a,b,c⟩:=h;let⟨d,e,f⟩:=g;exists a+d,6,7;rw[c,f,Rat.intCast_add];grind
theorem Nm.sub(h:Nm L M x)(g:Nm L N y):Nm L (M+N) (x - y):=by
 let⟨a,b,c⟩:=h;let⟨d,e,f⟩:=g;exists a - d,6,7;rw[c,f,Rat.intCast_sub];grind
theorem Nm.mul(i:1<=L)(j:1<=T)(h:Nm L M x)(g:Nm T N y):Nm (L*T) (M*N) (x*y):=by
 let⟨a,b,c⟩:=h;let⟨d,e,f⟩:=g;exists a*d,by rw[Int.natAbs_mul];exact Nat.mul_le_mul b e,?_;have:=Mq.pN i;have:=Mq.pN j;rw[c,f,Rat.intCast_mul,Rat.intCast_mul];grind
theorem Nm.sum:∀{l:List Rat},(∀x∈l,Nm L N x)->Nm L (N*l.length) (qO l)
 | [],_=>Nm.zero
 |x :: l,h=>by
  have:=Nm.add (h x (mem_cons_self ..)) (Nm.sum λy a=>h y (mem_cons_of_mem _ a));rw[length_cons,show N*(l.length+1)=N+N*l.length by rw[Nat.mul_succ];lia];exact this
theorem Nm.bd(h:Nm L N (Mq.val p))(l:Mq.Low p)(d:1<=L)(f:Mq.B b L)(g:N < 2 ^ b):Mq.Bd b p:=by
 let⟨a,c,e⟩:=h;exact(pZ l d f (show a.natAbs < 2 ^ b from Nat.lt_of_le_of_lt c g) e).1
end
theorem Dn.nm(h:Mq.Dn N p):Nm 27720 N.toNat (Mq.val p):=by
 let⟨_,z,e,a,b⟩:=h;exists z,6,7;let h2:((27720:Int):Rat)=27720:=rfl;rw[h2,<- e];grind
theorem Ovr.nm(h:Ovr n ps):∃D:Int,1<=D/\Mq.B n D/\∀p∈ps,Nm D (2 ^ n) (Mq.val p):=by
 let⟨D,a,b,c⟩:=h.e;exists D,a,b,λp hp=>by let⟨t,d,f⟩:=c p hp;exact⟨t,Nat.le_of_lt d,f⟩
theorem PB.of_nm(d:1<=L)(e:Mq.B 4400 L)(g:N*40 < 2 ^ 4400)(l40:ps.length<=40)(c:dP ps)(h:∀p∈ps,Nm L N (Mq.val p)):PB ps:=by
 let P:=c.pos;exists P,λi=>?_,λp hp=>?_
 .let pt:Mq.Pos (ps.take i):=λf a=>P f (mem_of_mem_take a);have:Nm L (N*((ps.take i).map Mq.val).length) (Mq.val (tot (ps.take i))):=by
   rw[Nw pt];exact Nm.sum λx b=>by
    let⟨p,hp,rfl⟩:=mem_map.mp b;exact h p (mem_of_mem_take hp)
  refine(this.mono (Nat.mul_le_mul_left _ (show _<=40 by rw[length_map,length_take];lia))).bd (mI pt) d e g
 .exact(h p hp).bd (c p hp) d e ()
section
variable {m n:Nat} {ds:List RD} {ps:List Mq.Q2}
theorem qf6(F:1<=m)(E:Ovr n ps)(C:dP ps)(H:n<=3200)(D:∀d∈ds,R49 m d)(G:m - 1<=ps.length):∀q∈flA m ds ps,Mq.Low q/\Mq.Bd 3900 q:=λq t=>by
 let⟨i,hi⟩:=getElem?_of_mem t;let f:=(wk.mp hi).1;let f:i < (sU (lvS m ps) (ps.drop (m - 1)) 0 ds).length:=f;rw[nC] at f;let g:ds[i]?=some ds[i]:=getElem?_eq_getElem f;let e:=wH _ _ ds 0 i ds[i] q g hi;let h:=D _ (mem_of_getElem? g);let⟨x,i1,y,z,u,v,_⟩:=h.ok;let k:=h.bd;let A:=Cu F G;let b:=Kt E C ()
 cases hk:ds[i].1 with
 |pc=>
  let a:q=rE (flF (lvS m ps) ds[i]) ds[i].2.2.2:=by rw[e];unfold yY zH;rw[hk]
  let l:=mem_of_getElem? (lQ (ps:=lvS m ps) (j:=ds[i].2.1.toNat) ());let o:=mem_of_getElem? (lQ (ps:=lvS m ps) (j:=ds[i].2.2.1.toNat) ());let w:=(Ovr.minus (Kg E) (rB C) l o).1;let r:=(rB C _ l).pos;let s:=(rB C _ o).pos;let B:=v hk;rw[a];exists Hl (Mq.cH r s).pos (),(Nb w k (Mq.cH r s).pos ()).mono ()
 |pu=>
  let a:q=ds[i].2.2.2:=by rw[e];unfold yY zH;rw[hk]
  rw[a];exists u,k.mono ()
 |ho=>
  let a:q=(ps.drop (m - 1)).getD (0+bZ (ds.take i)) Mq.z0:=by rw[e];unfold yY zH;rw[hk];exact if_pos rfl
  rw[a,getD_eq_getElem?_getD]
  cases c:(ps.drop (m - 1))[0+bZ (ds.take i)]? with
  |none=>exact⟨⟨∅,∅⟩,(show Mq.Bd 1 ((0,1):Mq.Q2) from ⟨show (0:Nat) < 2 ^ 1 by decide,show (1:Nat) < 2 ^ 1 by decide⟩).mono ()⟩
  |some p=>exact⟨(b _ (mem_of_mem_drop (mem_of_getElem? c))).1,(b _ (mem_of_mem_drop (mem_of_getElem? c))).2⟩
theorem qf3(a:n<=3200):NP.toNat*(2 ^ n+2 ^ n)*40 < 2 ^ 4400:=by
 let h1:NP.toNat < 2 ^ 61:=by decide
 let h2:2 ^ n<=2 ^ 3200:=Nat.pow_le_pow_right ∅ a
 calc NP.toNat*(2 ^ n+2 ^ n)*40<=2 ^ 61*(2 ^ 3200+2 ^ 3200)*2 ^ 6:=Nat.mul_le_mul (Nat.mul_le_mul (Nat.le_of_lt h1) ()) ∅
  _=2 ^ (61+3201+6):=by rw[Nat.pow_add 2 (61+3201),Nat.pow_add 2 61 3201,Nat.pow_succ 2 3200,Nat.mul_two]
  _ < 2 ^ 4400:=Nat.pow_lt_pow_right ∅ ∅
theorem B27(h:Mq.B n D)(a:n<=3200):Mq.B 4400 (27720*D):=((show Mq.B 15 27720 from (show (27720:Nat) < 2 ^ 15 by decide)).mul h).mono ()
theorem Zo(x:1<=m)(y:Ovr n ps)(z:dP ps)(v:n<=3200)(D:∀d∈ds,R49 m d)(A:m - 1<=ps.length)(w:ds.length<=40):PB ((fP .pu ds).map (gP (lvS m ps))):=by
 let⟨b,k,l,c⟩:=Ovr.nm (Kg (m:=m) y);let o:=Cu x A;let lo:=rB (m:=m) z;let H:∀d∈fP .pu ds,Mq.Low (gP (lvS m ps) d)/\Nm (27720*b) (NP.toNat*(2 ^ n+2 ^ n)) (Mq.val (gP (lvS m ps) d)):=λd a=>by
  let⟨h1,h2⟩:=Gs a;let r:=D d h1;let⟨q,i1,s,t,e,u,_⟩:=r.ok;let f:=mem_of_getElem? (lQ (ps:=lvS m ps) (j:=d.2.1.toNat) ());let g:=mem_of_getElem? (lQ (ps:=lvS m ps) (j:=d.2.2.1.toNat) ());let h:=(lo _ f).pos;let i:=(lo _ g).pos;let lf:Mq.Low (flF (lvS m ps) d):=Mq.cH h i;exists lK e.pos lf.pos,7;unfold gP;rw[tQ e.pos lf.pos];refine Nm.mul ∅ k (Dn.nm (r.nu (by rw[h2];decide))) ?_;unfold flF;rw[Mq.dS h i];exact(c _ f).sub (c _ g)
 refine PB.of_nm (L:=27720*b) () (B27 l v) (qf3 v) ?_ (λp hp=>?_) (λp hp=>?_)
 .rw[length_map];exact Nat.le_trans (length_filter_le _ _) w
 .let⟨d,a,rfl⟩:=mem_map.mp hp;exact(H d a).1
 .let⟨d,a,rfl⟩:=mem_map.mp hp;exact(H d a).2
theorem qa8(w:1<=m)(t:Ovr n ps)(u:dP ps)(s:n<=3200)(D:∀d∈ds,R49 m d)(v:ds.length<=40):PB ((pJ .ho (ds.zip (flA m ds ps))).map gH):=by
 let⟨a,k,l,h⟩:=Ovr.nm t;let H:∀e∈pJ .ho (ds.zip (flA m ds ps)),Mq.Low (gH e)/\Nm (27720*a) (NP.toNat*(2 ^ n+2 ^ n)) (Mq.val (gH e)):=λe o=>by
  let⟨h1,h2⟩:=Gu o;let⟨i,hi⟩:=getElem?_of_mem h1;let⟨b,q⟩:=getElem?_zip_eq_some.mp hi;let r:=D _ (mem_of_getElem? b);let f:=wH _ _ ds 0 i e.1 e.2 b q;let f:e.2=(ps.drop (m - 1)).getD (0+bZ (ds.take i)) Mq.z0:=by rw[f];unfold yY zH;rw[h2];exact if_pos rfl
  let g:Mq.Low e.2/\Nm a (2 ^ n) (Mq.val e.2):=by
   rw[f,getD_eq_getElem?_getD]
   cases c:(ps.drop (m - 1))[0+bZ (ds.take i)]? with
   |none=>
    exists (show Mq.Low (0,1) from ⟨∅,∅⟩),7;show Nm a (2 ^ n) (Mq.val (0,1));rw[Mq.mQ];exact Nm.zero.mono (Nat.zero_le _)
   |some p=>exact⟨u _ (mem_of_mem_drop (mem_of_getElem? c)),h _ (mem_of_mem_drop (mem_of_getElem? c))⟩
  let j:=r.ok.2.2.2.2.1;exists lK j.pos g.1.pos,7;unfold gH;rw[tQ j.pos g.1.pos];exact Nm.mul ∅ k (Dn.nm (r.nu (by rw[h2];decide))) (g.2.mono (Nat.le_add_left _ _))
 refine PB.of_nm (L:=27720*a) () (B27 l s) (qf3 s) ?_ (λp hp=>?_) (λp hp=>?_)
 .rw[length_map];refine Nat.le_trans (length_filter_le _ _) ?_;rw[length_zip];lia
 .let⟨d,b,rfl⟩:=mem_map.mp hp;exact(H d b).1
 .let⟨d,b,rfl⟩:=mem_map.mp hp;exact(H d b).2
theorem pC(k:Kd):wHo k=true↔k=.ho:=by
 cases k
 .exists λh=>absurd h ∅,λh=>by cases h
 .exists λh=>absurd h ∅,λh=>by cases h
 .exists λ_=>rfl,λ_=>by decide +kernel
theorem qv7(i:1<=m)(D:∀d∈ds,R49 m d)(l:m<=20)(j:rgH ds=[])(h:cZ m ds=[]):Nof m ds:=by
 let pt:∀d∈ds,cO (m:Int) d.2.1 d.2.2.1:=λd a=>(D d a).pt;exact⟨i,pt,λd a k=>by
   let f:=(D d a).ok.2.2.2.2.2.1 k;let g:=(D d a).ok.2.2.2.2.1.pos;unfold Mq.val;rw[Rat.div_def];exact Rat.mul_pos (by exact_mod_cast (show 0 < d.2.2.2.1 by lia)) (Rat.inv_pos.mpr (by exact_mod_cast (show 0 < d.2.2.2.2 by lia))),
  λp b=>by
   unfold cZ at h;have:=filter_eq_nil_iff.mp (map_eq_nil_iff.mp h) p (mem_range.mpr b);let e:mk m ds p=mk m ds 0:=by
    by_cases c:mk m ds p=mk m ds 0
    .exact c
    .exact absurd (decide_eq_true c) this
   exact((yI pt b ()).mp e).symm,
  qh5 pC pt () j⟩
theorem Vr(u:Nat):∀n,mL (λ_=>u) n=(4*u+20)*n
 |0=>rfl
 |n+1=>by show mL _ n+(4*u+20)=_;rw[Vr u n,Nat.mul_succ]
structure Gd(CN:Addr)(K:Frag)(H:Hp)(n l:Addr)(m:Nat)(ds:List RD):Prop where
 e:∃(b:Nat)(kb:Nat->Nat)(L:Int),Rc CN K H n l m b kb L ds/\bw b (wd m ds)<=3200/\∀i,∃a:Int,Mq.B b a/\eqR m ds (i+1)=(a:Rat) / (L:Rat)
theorem qs9(th:t+h<=12)(hm:h+1<=m)(m6:m<=6):(30*t+67+5)*(m - 1+h+1)+8<=3200:=by
 let e:m - 1+h+1=m+h:=by lia
 rw[e];let a:m+h<=6+h:=by lia
 refine Nat.le_trans (Nat.add_le_add_right (Nat.mul_le_mul (show 30*t+67+5<=30*(12 - h)+72 by lia) a) _) ?_;have:h=0\/h=1\/h=2\/h=3\/h=4\/h=5:=by lia
 rcases this with rfl | rfl | rfl | rfl | rfl | rfl<;>decide
theorem Qq(J:1<=m)(m6:m<=6)(P:ds.length<=24)(D:∀d∈ds,R49 m d)(L:(iQ ds).length+bZ ds<=12)(nt:dB CN K H n l (m:Int) ds)(M:rgH ds=[])(O:cZ m ds=[]):Gd CN K H n l m ds:=by
 let o:=qv7 J D () M O;let pt:=o.pt;let I:=Zh J pt o.fr;let c1:∀a∈iQ ds,1<=a/\Mq.B 30 a:=λa p=>by
  let⟨d,g,rfl⟩:=mem_map.mp p;let⟨h1,h2⟩:=mem_filter.mp g;let t:=(of_decide_eq_true h2).1;let h:=D d h1;exists h.ok.2.2.2.2.2.1 t,(h.pc t).1
 obtain⟨G,q⟩:∃G,G=Mq.prB (iQ ds):=⟨9⟩
 let w:1<=G:=by rw[q];exact Mq.Nt λa p=>(c1 a p).1
 let x:Mq.B (30*(iQ ds).length+1) G:=by rw[q];exact Mq.qf5 λa p=>(c1 a p).2
 let r:1<=G*27720:=by lia
 let s:Mq.B (30*(iQ ds).length+16) (G*27720):=(x.mul (show Mq.B 15 27720 from (show (27720:Nat) < 2 ^ 15 by decide))).mono ();let one:=Mq.Fr.one r;let y:∀d∈ds,d.1=.pc->d.2.2.2.1 ∣ G*27720:=λd g k=>by
  by_cases c:d.2.2.2.1=1
  .rw[c];exact Int.one_dvd _
  .refine Int.dvd_trans ?_ (Int.dvd_mul_right G 27720);rw[q];exact Mq.Nl (mem_map.mpr ⟨d,mem_filter.mpr ⟨g,decide_eq_true ⟨k,c⟩⟩,8⟩)
 let A:∀d∈ds,d.1≠.pc->Mq.Fr (G*27720) (2 ^ 46) (Mq.val d.2.2.2):=λd g k=>by
  let⟨_,z,e,a,b⟩:=(D d g).nu k;refine Mq.Fr.lift' w ∅ ⟨z,7,7⟩
  .let h2:((27720:Int):Rat)=27720:=rfl;rw[h2,<- e];grind
  .have:NP=42*27720000000000000:=rfl;show z.natAbs<=2 ^ 46*27720;lia
 let C:∀i j,∃a:Int,Mq.B (30*(iQ ds).length+67) a/\eqM m ds (i+1) (j+1)=(a:Rat) / ((G*27720:Int):Rat):=λi j=>by
  let c:∀d∈ds,∀k,Mq.Fr (G*27720) (2 ^ 3) (cM d k (i+1) (j+1)):=λd g k=>by
   let h:=D d g;let E:=h.ok.2.2.2.2.1.pos;unfold cM
   cases hk:d.1 with
   |pu=>exact Mq.Fr.zero.mono (Nat.zero_le _)
   |ho=>
    dsimp only;refine(Mq.Fr.add (Hh (Qy one) _ _ _) (N:=1) ?_).mono ∅;rw[Rat.mul_comm];exact Hh (Qy one) _ _ _
   |pc=>
    let u:1<=d.2.2.2.1:=h.ok.2.2.2.2.2.1 hk;dsimp only;rw[Rat.mul_assoc];have:1 / Mq.val d.2.2.2=((d.2.2.2.2:Int):Rat) / ((d.2.2.2.1:Int):Rat):=by
     have:=Mq.pN E;have:=Mq.pN u;unfold Mq.val;grind
    rw[this];exact Hh (Hh (Mq.Fr.of r u (y d g hk) (Nat.le_trans (h.pc hk).2 ∅)) _ _ _) _ _ _
  exact Mq.Fr.get (m:=8) (Wx m c) (by have:(2:Nat) ^ 8=256:=rfl;have:(2:Nat) ^ 3=8:=rfl;lia) s ()
 let F:∀i,∃a:Int,Mq.B (30*(iQ ds).length+67) a/\eqR m ds (i+1)=(a:Rat) / ((G*27720:Int):Rat):=λi=>by
  let c:∀d∈ds,∀k,Mq.Fr (G*27720) (2 ^ 46) (cR d k (i+1)):=λd g k=>by
   let f:=A d g;unfold cR
   cases hk:d.1 with
   |pc=>exact Mq.Fr.zero.mono (Nat.zero_le _)
   |pu=>
    dsimp only;let e:-dl d.2.1.toNat d.2.2.1.toNat (i+1)*Mq.val d.2.2.2=-(dl d.2.1.toNat d.2.2.1.toNat (i+1)*Mq.val d.2.2.2):=by grind
    rw[e];exact(Hh (f (by rw[hk];decide)) _ _ _).neg
   |ho=>
    dsimp only;split
    .exact f (by rw[hk];decide)
    .exact Mq.Fr.zero.mono (Nat.zero_le _)
  exact Mq.Fr.get (m:=51) (Sl m c) (by have:(2:Nat) ^ 46=70368744177664:=∅;have:(2:Nat) ^ 51=2251799813685248:=∅;lia) s ()
 let v:∀(i:Nat)(d:RD),ds[i]?=some d->yE (m:Int) d/\Mq.Bd 61 d.2.2.2:=λi d g=>by
  let h:=D d (mem_of_getElem? g);exists h.ok,h.bd
 let lim:(30*(iQ ds).length+67+5)*(m - 1+bZ ds+1)+8<=3200:=qs9 L () m6;exists 30*(iQ ds).length+67,λ_=>61,G*27720,⟨nt,v,6,6,7,⟨o,7,6,7,7,r,s.mono (),C⟩⟩,7,F
 .rw[Vr];lia
 .show m - 1+bZ ds<=26;lia
 .show 10+(30*(iQ ds).length+67)+(30*(iQ ds).length+67)*(m - 1+bZ ds+1)<=8000;have:=Nat.mul_le_mul_right (m - 1+bZ ds+1) (show 30*(iQ ds).length+67<=30*(iQ ds).length+67+5 by lia);lia
 .show (30*(iQ ds).length+67+5)*(m - 1+bZ ds+1)+8<=4000;lia
 .exact lim
end
def NS:Int:=43*NN
inductive SvI(K:Frag)(H:Hp)(m:Nat)(ds:List RD):V->Bool->Prop where
 |no {v:V} (h:AF K H (ds.length:Int) v false):SvI K H m ds v false
 |ls {b:Addr} {ys:vk} {ss:List Mq.Q2} {bb:Bool} (s:SqL K H b ys) (f:Fqs K H ys ss) (l:ss.length=ds.length) (d:∀s∈ss,Mq.Dn NS s) (e:sv m (ds.zip ss)=bb):SvI K H m ds (.ref b) bb
theorem AF.same(s:aS H H')(h:AF K H m v bb):AF K H' m v bb:=by
 cases h with
 |ty h n=>exact .ty (h.same s) n
 |lst h z low l=>exact .lst (s.seq h) (z.same s) low l
theorem SvI.same(s:aS H H')(h:SvI K H m ds v bb):SvI K H' m ds v bb:=by
 cases h with
 |no h=>exact .no (h.same s)
 |ls a b c d e=>exact .ls (s.seq a) (b.same s) c d e
def Dq(ds:List RD):List Nat:=(bO (λk=>decide (k≠.pu)) (skl ds) ds.length).2.map (·.1)
def amF(ds:List RD)(ss own:List Mq.Q2):List Mq.Q2:=(Dq ds).map λk=>Mq.minus (ss.getD k (0,1)) (own.getD k (0,1))
inductive Ch(CN CP CG CF:Addr)(K:Frag)(vs:vk)(H:Hp)(Q:VK)(E:XK):Prop where
 |mk (n l:Addr) (v:V) (m:Nat) (ds:List RD) (bb:Bool):vs=[.ref n,v]->dB CN K H n l (m:Int) ds->(∀d∈ds,R49 m d)->1<=m->m<=6->ds.length<=24->SvI K H m ds v bb->(bb=false->∀H',aS H H'->E (.ref CP) none H')->(bb=true->Rfs CG CF K H E m ds/\(rgH ds=[]->cZ m ds=[]->Gd CN K H n l m ds/\∀r zs ps H',aS H H'->H r=none->H' r=some (.lst zs)->Fqs K H' zs ps->dP ps->ps.length=(Dq ds).length->Q (.ref r) H'))->Ch CN CP CG CF K vs H Q E
inductive Df(CN CG CF:Addr)(K:Frag)(vs:vk)(H:Hp)(Q:VK)(E:XK):Prop where
 |mk (n l:Addr) (m:Nat) (ds:List RD):vs=[.ref n]->dB CN K H n l (m:Int) ds->(∀d∈ds,R49 m d)->1<=m->m<=6->ds.length<=24->Rfs CG CF K H E m ds->(rgH ds=[]->cZ m ds=[]->Gd CN K H n l m ds/\∀p,Mq.Low p->mH H Q p)->Df CN CG CF K vs H Q E
theorem pA{l:List Mq.Q2}(h:k < l.length):l.getD k (0,1)∈l:=by
 rw[getD_eq_getElem?_getD,getElem?_eq_getElem h];exact getElem_mem h
theorem Zd(s:aS H H')(h:H' u=none):H u=none:=by
 cases e:H u with
 |none=>rfl
 |some o=>rw[s _ _ e] at h;cases h
theorem Fqs.getAt(h:Fqs K H xs ps)(a:j < ps.length):∃u,xs[j]?=some (.ref u)/\Fq K H u (ps.getD j (0,1)):=h.at (lQ a)
theorem Gb(c:H x=none)(d:H dx=none)(s:cQ x (upd (upd H dx (.own x)) x (.ins C dx [])) H'):aS H H':=λb o h=>by
 let n1:b≠x:=λz=>by rw[z,c] at h;cases h
 let a:b≠dx:=λz=>by rw[z,d] at h;cases h
 exact s b o (by rw[aQ n1,aQ a];exact h) n1
theorem Ma(c:H x=none)(d:H dx=none):aS H (upd (upd H dx (.own x)) x (.ins C dx [])):=λb o h=>by
 let n1:b≠x:=λz=>by rw[z,c] at h;cases h
 let a:b≠dx:=λz=>by rw[z,d] at h;cases h
 rw[aQ n1,aQ a];exact h
theorem qa9:(["ring"]:List Str).Nodup:=by decide +kernel
theorem mY:(["number","streams","own"]:List Str).Nodup:=by decide +kernel
abbrev qn0:Stmt:=top 81
theorem Uc:aP ["net","streams","own","closing"] ["net","streams"] (aI qn0):=sK9
abbrev qq7:Stmt:=top 82
theorem qf9:aP ["net","answer"] ["net"] (aI qq7):=sK9
abbrev Wd:Stmt:=top 84
theorem Ua:aP ["_law_script","_law_k","_law_found"] ["_law_script","_law_k"] (aI Wd):=sK9
inductive Bx(K:Frag)(vs:vk)(H:Hp)(Q:VK)(E:XK):Prop where
 |mk (a:Addr) (ns:List Int) (j:Int) (k:Nat):vs=[.ref a,.int j]->j=(k:Int)->SqL K H a (ns.map V.int)->ns.length<=63->(∀i H',aS H H'->Q (.int i) H')->Bx K vs H Q E
abbrev Dh:Stmt:=top 85
theorem yV:aP ["_law_cell","_law_turn","_law_many","_law_left","_law_k","_law_by","_law_prime","_law_x"] ["_law_cell","_law_turn","_law_many"] (aI Dh):=sK9
inductive Ao(vs:vk)(H:Hp)(Q:VK)(E:XK):Prop where
 |mk (c t m:Int):vs=[.int c,.int t,.int m]->0<=t->t<=9->0 < m->(∀r H',0<=r->r < m->aS H H'->Q (.int r) H')->Ao vs H Q E
theorem qy2(hp:0 < a0/\0 < a1/\0 < a2/\0 < a3/\0 < a4/\0 < a5/\0 < a6/\0 < a7/\0 < a8/\0 < a9)(hm:a0 < 1000000/\a1 < 1000000/\a2 < 1000000/\a3 < 1000000/\a4 < 1000000/\a5 < 1000000/\a6 < 1000000/\a7 < 1000000/\a8 < 1000000/\a9 < 1000000)(a:0<=t)(b:t<=9):
  ∃v,atI [V.int a0,.int a1,.int a2,.int a3,.int a4,.int a5,.int a6,.int a7,.int a8,.int a9] t=some (.int v)/\0 < v/\v < 1000000:=by
 have:t=0\/t=1\/t=2\/t=3\/t=4\/t=5\/t=6\/t=7\/t=8\/t=9:=by lia
 rcases this with rfl | rfl | rfl | rfl | rfl | rfl | rfl | rfl | rfl | rfl
 all_goals exact⟨9,6,6⟩
abbrev l48:List Int:=[48271,69621,16807,40692,39373,30269,27183,60013,51749,35969]
abbrev l99:List Int:=[999983,999979,999961,999959,999953,999931,999917,999907,999883,999863]
@[irreducible] def md1:Stmt:=(dA Dh).getD 1 (.Pass ⟨0,0,0,0⟩)
@[irreducible] def md2:Stmt:=(dA Dh).getD 2 (.Pass ⟨0,0,0,0⟩)
def md0:Stmt:=(dA Dh).getD 0 (.Pass ⟨0,0,0,0⟩)
def md3:Stmt:=(dA Dh).getD 3 (.Pass ⟨0,0,0,0⟩)
def md4:Stmt:=(dA Dh).getD 4 (.Pass ⟨0,0,0,0⟩)
theorem qw5:dA Dh=[md0,md1,md2,md3,md4]:=by unfold md1 md2;rfl
theorem qi4:∃(q a p2 b p:Pos)(l:List (Int × _ × Pos)),md1=.Assign [.Name "_law_by" q] (.Subscript (.List (l.map λq=>Expr.Constant (.int q.1) q.2.1 q.2.2) p2) (.Name "_law_turn" a) b) p/\l.map (λq=>V.int q.1)=l48.map V.int:=by
 unfold md1;exists _,_,_,_,_,[(48271,_,_),(69621,_,_),(16807,_,_),(40692,_,_),(39373,_,_),(30269,_,_),(27183,_,_),(60013,_,_),(51749,_,_),(35969,_,_)],8,8
theorem qr2:∃(q a p2 b p:Pos)(l:List (Int × _ × Pos)),md2=.Assign [.Name "_law_prime" q] (.Subscript (.List (l.map λq=>Expr.Constant (.int q.1) q.2.1 q.2.2) p2) (.Name "_law_turn" a) b) p/\l.map (λq=>V.int q.1)=l99.map V.int:=by
 unfold md2;exists _,_,_,_,_,[(999983,_,_),(999979,_,_),(999961,_,_),(999959,_,_),(999953,_,_),(999931,_,_),(999917,_,_),(999907,_,_),(999883,_,_),(999863,_,_)],8,8
abbrev Vx:Stmt:=top 86
theorem Cc:aP ["_law_cell","_law_k","_law_left","_law_j"] ["_law_cell","_law_k"] (aI Vx):=sK9
inductive Kx(vs:vk)(H:Hp)(Q:VK)(E:XK):Prop where
 |mk (c k:Int):vs=[.int c,.int k]->0<=k->k<=63->(∀r,Q (.int r) H)->Kx vs H Q E
abbrev qp2:Stmt:=top 87
theorem Nx:aP ["_law_cell","_law_turn","_law_left","_law_k"] ["_law_cell","_law_turn"] (aI qp2):=sK9
inductive Lq(vs:vk)(H:Hp)(Q:VK)(E:XK):Prop where
 |mk (c t:Int):vs=[.int c,.int t]->0<=t->t<=9->(∀r:Int,-1000000000000<=r->r<=1000000000000->Q (.int r) H)->Lq vs H Q E
theorem p12:(10:Int) ^ (12:Int).toNat=1000000000000:=by decide
abbrev Cy:Stmt:=top 88
theorem rR:aP ["_law_top","_law_bottom","_law_one","_law_other"] ["_law_top","_law_bottom"] (aI Cy):=sK9
abbrev Kz:Stmt:=top 89
theorem Zt:aP ["_law_one","_law_other"] ["_law_one","_law_other"] (aI Kz):=sK9
abbrev Kr:Stmt:=top 90
theorem Xd:aP ["_law_one","_law_other"] ["_law_one","_law_other"] (aI Kr):=sK9
abbrev Dx:Stmt:=top 91
theorem wJ:aP ["_law_cell","_law_turn","_law_top"] ["_law_cell","_law_turn"] (aI Dx):=sK9
def Dr(p:Mq.Q2):Prop:=Mq.Low p/\Mq.Bd 41 p/\Mq.Dn NN p
inductive wZ(vs:vk)(H:Hp)(Q:VK)(E:XK):Prop where
 |mk (c t:Int):vs=[.int c,.int t]->0<=t->t<=8->(∀p,Dr p->mH H Q p)->wZ vs H Q E
theorem mH.same(s:aS H H')(h:mH H Q p):mH H' Q p:=λa H2 b e=>h a H2 (s.trans b) e
theorem Mh(q:∀p,Dr p->mH H Q p)(s:aS H H')(h1:-1000000000000<=t)(h2:t<=1000000000000)(e:0<=b)(h4:b < 12):hZ [.int t,.int (1+b)] H' Q E0:=by
 let a:1+b≠0:=by lia
 let le:=pV (t:=t) a;let d:Mq.B 41 t:=uE () ();let c:Mq.B 41 (1+b):=uE () ();exists t,1+b,41,8,a,c,6,mH.same s (q _ ⟨iE a,⟨d.le le.1,c.le le.2⟩,Mq.ql5 (T:=1000000000000) () () h1 h2⟩)
structure qc8(p:Mq.Q2):Prop where
 l:Mq.Low p
 p0:0 < p.1
 t:Mq.B 30 p.1
 d:p.2.natAbs<=6
inductive Je(vs:vk)(H:Hp)(Q:VK)(E:XK):Prop where
 |mk (c:Int):vs=[.int c]->(∀p,qc8 p->mH H Q p)->Je vs H Q E
theorem Tz(q:∀p,qc8 p->mH H Q p)(s:aS H H')(d:0 < t)(e:Mq.B 30 t)(f:0<=b)(h4:b < 6):hZ [.int t,.int (1+b)] H' Q E0:=by
 let a:1+b≠0:=by lia
 let le:=pV (t:=t) a;let c:Mq.B 6 (1+b):=uE () ();let b2:(red t (1+b)).2.natAbs<=(1+b).natAbs:=le.2;exists t,1+b,(6),8,a,c,6,mH.same s (q _ ⟨iE a,Mq.qd0 d (),e.le le.1,6⟩)
abbrev Rr:Stmt:=top 92
theorem Ju:aP ["_law_cell","_law_top"] ["_law_cell"] (aI Rr):=sK9
abbrev Sy:Stmt:=top 93
theorem Sh:aP ["_law_found","_law_due","_law_number_here"] ["_law_found","_law_due"] (aI Sy):=sK9
inductive Ce(K:Frag)(vs:vk)(H:Hp)(Q:VK)(E:XK):Prop where
 |mk (a b:Addr) (p:Mq.Q2):vs=[.ref a,.ref b]->Fq K H a p->Fq K H b p->Q (.bl true) H->Ce K vs H Q E
inductive Ep(CN:Addr)(K:Frag)(vs:vk)(H:Hp)(Q:VK)(E:XK):Prop where
 |mk (m:Int) (r:Addr) (us:vk) (ds:List RD):vs=[.int m,.ref r]->1<=m->m<=20->SqL K H r us->Rts K H us ds->(∀d∈ds,yE m d)->ds.length<=40->(∀n l H',aS H H'->H l=none->dB CN K H' n l m ds->Q (.ref n) H')->Ep CN K vs H Q E
abbrev Ko:Stmt:=top 94
theorem Cb:aP ["_law_many","_law_rows","_law_net_here","_law_row"] ["_law_many","_law_rows"] (aI Ko):=sK9
section
variable {α:Type} {A B:List α} {i:Nat} {a b:α}
theorem Lp(h:A.length=B.length)(b:A[i]?=some a):(A.take i++B.drop i).set i a=A.take (i+1)++B.drop (i+1):=by
 let hi:i < A.length:=(wk.mp b).1;let lt:(A.take i).length=i:=by rw[length_take];lia
 rw[set_append_right _ _ (),lt,Nat.sub_self,take_add_one,b,drop_eq_getElem_cons (show i < B.length by lia)];show _++(a :: B.drop (i+1))=(A.take i++[a])++_;rw[List.append_assoc];rfl
theorem Um(b:A[i]?=some a)(c:B[i]?=some a):A.take i++B.drop i=A.take (i+1)++B.drop (i+1):=by
 let hi:=wk.mp c;rw[take_add_one,b,drop_eq_getElem_cons hi.1,hi.2];show _++(a :: B.drop (i+1))=(A.take i++[a])++_;rw[List.append_assoc];rfl
theorem Jv(h:A.length=B.length)(l:i<=j)(hi:i<=A.length):(A.take i++B.drop i)[j]?=B[j]?:=by
 rw[getElem?_append_right (by rw[length_take];lia),length_take,getElem?_drop,Nat.min_eq_left hi,Nat.add_sub_cancel' l]
theorem qm4(l:j < i)(hi:i<=A.length):(A.take i++B.drop i)[j]?=A[j]?:=by
 rw[getElem?_append_left (by rw[length_take];lia),getElem?_take_of_lt l]
end
theorem qe7(h:p < ms.length):(jn ms u v)[p]?=some (if ms.getD p 0=ms.getD v 0 then ms.getD u 0 else ms.getD p 0):=by
 unfold jn;rw[getElem?_map,getElem?_eq_getElem h,getD_eq_getElem?_getD (i:=p),getElem?_eq_getElem h];rfl
theorem qp1(h:p < ls.length):(jnL ms ls u v z)[p]?=some ((jnL ms ls u v z).getD p (0,1)):=by
 rw[getD_eq_getElem?_getD,getElem?_eq_getElem (by rw[qZ];exact h)];rfl
theorem wP{ms:List Int}(h:p < ms.length):ms[p]?=some (ms.getD p 0):=by rw[getD_eq_getElem?_getD,getElem?_eq_getElem h];rfl
theorem zS{ls:List Mq.Q2}(h:p < ls.length):ls[p]?=some (ls.getD p (0,1)):=by rw[getD_eq_getElem?_getD,getElem?_eq_getElem h];rfl
inductive Eh(K:Frag)(vs:vk)(H:Hp)(Q:VK)(E:XK):Prop where
 |mk (M L z:Addr) (u v n:Nat) (ms:List Int) (ls:List Mq.Q2) (xs:vk) (p:Mq.Q2):vs=[.ref M,.ref L,.int (u:Int),.int (v:Int),.ref z]->H M=some (.lst (ms.map V.int))->H L=some (.lst xs)->M≠L->Fqs K H xs ls->ms.length<=20->ls.length=ms.length->u < ms.length->v < ms.length->ms.getD u 0≠ms.getD v 0->Fq K H z p->LfB 0 p->(∀q∈ls,LfB n q)->n<=25->(∀xs' H',SX [M,L] H H'->H' M=some (.lst ((jn ms u v).map V.int))->H' L=some (.lst xs')->Fqs K H' xs' (jnL ms ls u v p)->Q .non H')->Eh K vs H Q E
abbrev Ry:Stmt:=top 96
theorem Eo:aP ["_law_marks","_law_lifts","_law_start","_law_goal","_law_size_here","_law_more","_law_old","_law_point"] ["_law_marks","_law_lifts","_law_start","_law_goal","_law_size_here"] (aI Ry):=sK9
theorem qe2(k:Kd):decide (V.str k.wd=V.str "piece")=decide (k=.pc):=dX k .pc
theorem qt6(k:Kd):decide (V.str k.wd=V.str "hold")=decide (k=.ho):=dX k .ho
def szR(ds:List RD)(n:Nat):Rat:=Mq.val (ds.getD n (.pc,0,0,(0,1))).2.2.2
inductive Zw(K:Frag)(vs:vk)(H:Hp)(Q:VK)(E:XK):Prop where
 |mk (r:Addr) (us:vk) (m:Nat) (ds:List RD):vs=[.ref r,.int (m:Int)]->SqL K H r us->Rts K H us ds->(∀d∈ds,cO (m:Int) d.2.1 d.2.2.1)->m<=20->ds.length<=24->(∀d∈ds,LfB 0 d.2.2.2)->(rgH ds=[]->∀H',aS H H'->Q .non H')->(∀c rr,rgH ds=c :: rr->∀t z p H',aS H H'->SqT K H' t [.int (c.1:Int),.ref z]->Fq K H' z p->Mq.Low p->Mq.val p=(c.2.map λs=>((s.2:Int):Rat)*szR ds s.1).sum->Q (.ref t) H')->Zw K vs H Q E
abbrev sFR:Stmt:=top 97
theorem Fb:aP ["_law_rows","_law_many","_law_marks","_law_lifts","_law_k","_law_word","_law_start","_law_goal","_law_size_here"] ["_law_rows","_law_many"] (aI sFR):=sK9
theorem yQ:(["_law_point","_law_marks"]:List Str).Nodup:=by decide +kernel
theorem qu1(h:ms.getD u 0=ms.getD v 0):jn ms u v=ms:=by
 unfold jn;rw[h]
 conv=>rhs;rw[<- map_id ms]
 exact map_congr_left λx _=>by
  by_cases c:x=ms.getD v 0
  .rw[if_pos c];exact c.symm
  .rw[if_neg c];rfl
inductive qc2(K:Frag)(vs:vk)(H:Hp)(Q:VK)(E:XK):Prop where
 |mk (r:Addr) (us:vk) (m:Nat) (ds:List RD):vs=[.ref r,.int (m:Int)]->SqL K H r us->Rts K H us ds->(∀d∈ds,cO (m:Int) d.2.1 d.2.2.1)->1<=m->m<=20->ds.length<=24->(∀d∈ds,LfB 0 d.2.2.2)->(∀l H',aS H H'->H l=none->H' l=some (.lst ((cZ m ds).map V.int))->Q (.ref l) H')->qc2 K vs H Q E
abbrev sAp:Stmt:=top 98
theorem Kj:aP ["_law_rows","_law_many","_law_marks","_law_lifts","_law_word","_law_start","_law_goal","_law_size_here"] ["_law_rows","_law_many"] (aI sAp):=sK9
theorem Te(c:Cn (es++[d]) x y):Cn es x y\/(Cn es x d.2.1.toNat/\Cn es d.2.2.1.toNat y)\/(Cn es x d.2.2.1.toNat/\Cn es d.2.1.toNat y):=by
 induction c with
 |refl p=>exact .inl (.refl p)
 |row h hk=>
  rcases mem_append.mp h with z | z
  .exact .inl (.row z hk)
  .rw[mem_singleton.mp z];exact .inr (.inl ⟨.refl _,.refl _⟩)
 |symm _ ih=>
  rcases ih with a | ⟨a,b⟩ | ⟨a,b⟩
  .exact .inl a.symm
  .exact .inr (.inr ⟨b.symm,a.symm⟩)
  .exact .inr (.inl ⟨b.symm,a.symm⟩)
 |trans _ _ ih1 ih2=>
  rcases ih1 with a | ⟨a,b⟩ | ⟨a,b⟩<;>rcases ih2 with c | ⟨c,d⟩ | ⟨c,d⟩
  .exact .inl (a.trans c)
  .exact .inr (.inl ⟨a.trans c,d⟩)
  .exact .inr (.inr ⟨a.trans c,d⟩)
  .exact .inr (.inl ⟨a,b.trans c⟩)
  .exact .inl (a.trans (c.symm.trans (b.symm.trans d)))
  .exact .inl (a.trans d)
  .exact .inr (.inr ⟨a,b.trans c⟩)
  .exact .inl (a.trans d)
  .exact .inl (a.trans (c.symm.trans (b.symm.trans d)))
theorem Xb{P P':Nat->Prop}(h:∀p,P p->p≠k->P' p):∀m,cnt P m<=cnt P' m+(if k < m then 1 else 0)
 |0=>Nat.zero_le _
 |m+1=>by
  classical
  have:=Xb h m;show cnt P m+(if P m then 1 else 0)<=cnt P' m+(if P' m then 1 else 0)+(if k < m+1 then 1 else 0)
  by_cases e:m=k
  .subst e;rw[if_neg (Nat.lt_irrefl m)] at this;rw[if_pos (Nat.lt_succ_self m)];split<;>lia
  .by_cases c:P m
   .rw[if_pos c,if_pos (h m c e)]
    by_cases l:k < m
    .rw[if_pos l] at this;rw[if_pos (show k < m+1 by lia)];lia
    .rw[if_neg l] at this;lia
   .rw[if_neg c]
    by_cases l:k < m
    .rw[if_pos l] at this;rw[if_pos (show k < m+1 by lia)];lia
    .rw[if_neg l] at this;lia
theorem Lo{P:Nat->Prop}(h:∀p,P p):∀m,cnt P m=m
 |0=>rfl
 |m+1=>by
  classical
  show cnt P m+(if P m then 1 else 0)=m+1;rw[Lo h m,if_pos (h m)]
theorem Gw{P:Nat->Prop}(h:∀p,0 < p->¬P p):∀m,cnt P m<=1
 |0=>Nat.zero_le _
 |1=>by
  classical
  show 0+(if P 0 then 1 else 0)<=1;split<;>lia
 |m+2=>by
  classical
  have:=Gw h (m+1);show cnt P (m+1)+(if P (m+1) then 1 else 0)<=1;rw[if_neg (h _ (Nat.succ_pos _))];lia
theorem Od{P P':Nat->Prop}:∀m,(∀p,p < m->P p->P' p)->cnt P m<=cnt P' m
 |0,_=>Nat.le_refl _
 |m+1,h=>by
  classical
  have:=Od m λp hp=>h p ();show cnt P m+(if P m then 1 else 0)<=cnt P' m+(if P' m then 1 else 0)
  by_cases c:P m
  .rw[if_pos c,if_pos (h m () c)];lia
  .rw[if_neg c];lia
theorem Ah:∀(n:Nat)(A:List RD),A.length=n->m<=A.length+cnt (sK A) m
 |0,A,hl=>by
  have:A=[]:=eq_nil_of_length_eq_zero hl;subst this;rw[Lo (P:=sK []) (λp q i c=>?_)]
  .lia
  .have:q=p:=Cn.ind (R:=λa b=>a=b) (λ_=>rfl) (λ_ _ h=>h.symm) (λ_ _ _ h g=>h.trans g) (λd o=>by cases o) c;lia
 |n+1,A,hl=>by
  obtain⟨es,d,rfl⟩:∃es d,A=es++[d]:=⟨A.dropLast,A.getLast (by intro z;rw[z] at hl;cases hl),(dropLast_concat_getLast _).symm⟩
  let le:es.length=n:=by rw[wq] at hl;simpa using hl
  let t:=Ah (m:=m) n es le;let⟨a,r,j⟩:=Mg (P:=λq=>Cn es q d.2.1.toNat) _ (.refl _);let⟨b,s,k⟩:=Mg (P:=λq=>Cn es q d.2.2.1.toNat) _ (.refl _);let l:∀p,sK es p->p≠max a b->sK (es++[d]) p:=λp f u q i c=>by
   rcases Te c with c | ⟨c,e⟩ | ⟨c,e⟩
   .exact f q i c
   .let v:a<=q:=Nat.le_of_not_lt λz=>j q z c;let w:b<=p:=Nat.le_of_not_lt λz=>k p z e.symm;let x:p<=b:=Nat.le_of_not_lt λz=>f b z (s.trans e);lia
   .let bq:b<=q:=Nat.le_of_not_lt λz=>k q z c;let y:a<=p:=Nat.le_of_not_lt λz=>j p z e.symm;let B:p<=a:=Nat.le_of_not_lt λz=>f a z (r.trans e);lia
  have:=Xb l m;rw[wq];show m<=es.length+1+_;split at this<;>lia
theorem Hr:∀n,n<=sk.length->(bO W sk n).1.length+(bO W sk n).2.length=((sk.take n).filter λd=>W d.1).length
 |0,_=>rfl
 |n+1,hn=>by
  let b:=Hr (W:=W) (sk:=sk) n ();let a:sk[n]?=some sk[n]:=getElem?_eq_getElem (l:=sk) ();rw[dF a,take_add_one,a,filter_append,wq,<- b];generalize sk[n]=d;unfold eY;show _=_+([d].filter _).length
  by_cases hw:W d.1=true
  .rw[if_pos hw,filter_cons_of_pos (p:=λd:Sk=>W d.1) hw]
   cases jI (bO W sk n).1 d.2.2 d.2.1 with
   |none=>show ((bO W sk n).1++[_]).length+_=_;rw[wq];simp only[length_cons,length_nil,filter_nil];lia
   |some st=>show _+((bO W sk n).2++[_]).length=_;rw[wq];simp only[length_cons,length_nil,filter_nil];lia
  .rw[if_neg hw,filter_cons_of_neg (p:=λd:Sk=>W d.1) hw];simp
theorem Mo:∀n,n<=sk.length->(∀e∈(bO W sk n).1,∃k u v,sk[e.1]?=some (k,u,v)/\W k=true)/\∀c∈(bO W sk n).2,∃k u v,sk[c.1]?=some (k,u,v)/\W k=true
 |0,_=>⟨λe a=>(by cases a),λe a=>(by cases a)⟩
 |n+1,hn=>by
  let ih:=Mo (W:=W) (sk:=sk) n ();let b:sk[n]?=some sk[n]:=getElem?_eq_getElem (l:=sk) ();rw[dF b];generalize sk[n]=d at b;unfold eY
  by_cases hw:W d.1=true
  .rw[if_pos hw]
   cases jI (bO W sk n).1 d.2.2 d.2.1 with
   |none=>
    exists λe a=>?_,ih.2;rcases mem_append.mp a with z | z
    .exact ih.1 e z
    .rw[mem_singleton.mp z];exists d.1,d.2.1,d.2.2,b,hw
   |some st=>
    exists ih.1,λe a=>?_;rcases mem_append.mp a with z | z
    .exact ih.2 e z
    .rw[mem_singleton.mp z];exists d.1,d.2.1,d.2.2,b,hw
  .rw[if_neg hw];exact ih
theorem Al(hm:∀d∈sk,d.2.1 < m/\d.2.2 < m)(p:m<=20):∀n,n<=sk.length->∀(A B:List RD)(d:RD),cG (bO W sk n).1=A++d :: B->¬Cn A d.2.1.toNat d.2.2.1.toNat
 |0,_,A,B,d,e=>by
  have:([]:List RD)=A++d :: B:=e;exact absurd this ⋯
 |n+1,hn,A,B,d,e=>by
  let b:=Al (W:=W) hm p n ();let h:=iC (W:=W) hm n ();let f:sk[n]?=some sk[n]:=getElem?_eq_getElem (l:=sk) ();let a:=hm _ (mem_of_getElem? f);rw[dF f] at e;generalize sk[n]=x at f a e;let⟨k,u,v⟩:=x
  by_cases hw:W k=true
  .cases hy:jI (bO W sk n).1 v u with
   |some st=>rw[Blk.ringS_so hw hy] at e;exact b A B d e
   |none=>
    rw[Blk.ringS_no hw hy] at e;let i:¬Cn (cG (bO W sk n).1) u v:=λc=>by
     have:=(Dg h.pt p (show v < m from a.2) (show u < m from a.1)).mpr ((yI (kZ h.pt) (show u < m from a.1) (show v < m from a.2)).mpr c);rw[hy] at this;cases this
    let e:cG (bO W sk n).1++[((.pc,(u:Int),(v:Int),(0,1)):RD)]=A++d :: B:=by
     rw[<- e];unfold cG;rw[map_append];rfl
    rcases eq_nil_or_concat B with rfl | ⟨g,y,rfl⟩
    .let⟨j,o⟩:=append_inj' e rfl
     cases o
     rw[<- j];simpa using i
    .rw[concat_eq_append,show A++d :: (g++[y])=(A++d :: g)++[y] by simp] at e;exact b A g d (append_inj' e rfl).1
  .rw[Blk.ringS_out hw] at e;exact b A B d e
theorem qm8{i:Nat}(h:ds[i]?=some d):(skl ds)[i]?=some (d.1,d.2.1.toNat,d.2.2.1.toNat):=by unfold skl;rw[getElem?_map,h];rfl
def joF(ds:List RD):List RD:=ds.filter λd=>decide (d.1≠.pu)
theorem Ym{m:Nat}(T:1<=m)(R:m<=20)(pt:∀d∈ds,cO (m:Int) d.2.1 d.2.2.1)(S:cZ m ds=[]):(Dq ds).length+m=(joF ds).length+1:=by
 let L:(skl ds).length=ds.length:=by unfold skl;rw[length_map]
 let w:=Hr (W:=λk=>decide (k≠.pu)) (sk:=skl ds) ds.length ();let n:=iC (W:=λk=>decide (k≠.pu)) (xM pt) ds.length ();let o:Blk.RJ (skl ds) ds.length (bO (λk=>decide (k≠.pu)) (skl ds) ds.length):=Blk.rj_ok (skl ds) ds.length ();let A:((skl ds).take ds.length).filter (λd=>decide (d.1≠.pu))=(joF ds).map λd=>(d.1,d.2.1.toNat,d.2.2.1.toNat):=by
  rw[take_of_length_le ()];unfold skl joF;rw[filter_map];rfl
 rw[A,length_map] at w;let M:(Dq ds).length=(bO (λk=>decide (k≠.pu)) (skl ds) ds.length).2.length:=by unfold Dq;rw[length_map]
 let s:∀p,p < m->Cn ds 0 p:=λp j=>by
  unfold cZ at S;have:=filter_eq_nil_iff.mp (map_eq_nil_iff.mp S) p (mem_range.mpr j);let e:mk m ds p=mk m ds 0:=by
   by_cases c:mk m ds p=mk m ds 0
   .exact c
   .exact absurd (decide_eq_true c) this
  exact((yI pt j ()).mp e).symm
 let tr:∀{x y:Nat},Cn ds x y->Cn (cG (bO (λk=>decide (k≠.pu)) (skl ds) ds.length).1) x y:=λc=>by
  refine Cn.ind (λp=>.refl p) (λ_ _ h=>h.symm) (λ_ _ _ h g=>h.trans g) (λd l B=>?_) c;let⟨i,hi⟩:=getElem?_of_mem l;let C:=(wk.mp hi).1;let hp:=pt d l;let t:=qm8 hi;rcases o.al i d.1 _ _ C t B with h | ⟨D,E,e⟩
  .have:=Cn.row (ds:=cG (bO (λk=>decide (k≠.pu)) (skl ds) ds.length).1) (d:=(.pc,((d.2.1.toNat:Nat):Int),((d.2.2.1.toNat:Nat):Int),(0,1))) (mem_map.mpr ⟨_,h,8⟩) (λz=>by cases z);dsimp only at this;rw[Int.toNat_natCast,Int.toNat_natCast] at this;exact this
  .let⟨_,k,u,v,st,ps,es,hs,_,_,F,sub⟩:=o.rg D E;rw[e,t] at hs
   cases hs
   let j:Ptm m es:=⟨λx r=>n.pt.p x (sub x r).1⟩
   let G:=qe4 j F;have:=(yI (kZ j) (by let⟨a,b,_⟩:=hp;lia) (by let⟨_,_,a,b⟩:=hp;lia)).mp G;exact this.mono λx r=>by
    let⟨y,H,rfl⟩:=mem_map.mp r;exact mem_map.mpr ⟨y,(sub y H).1,8⟩
 let I:=Al (W:=λk=>decide (k≠.pu)) (xM pt) R ds.length ();let J:=kZ n.pt;clear n o;generalize (bO (λk=>decide (k≠.pu)) (skl ds) ds.length).1=f at *
 let N:=Ah (m:=m) _ (cG f) rfl;let O:(cG f).length=f.length:=by unfold cG;rw[length_map]
 let c1:cnt (sK (cG f)) m<=1:=by
  have:=Od (P:=sK (cG f)) (P':=λp=>sK (cG f) p/\p < m) m λp hp h=>⟨h,hp⟩
  exact Nat.le_trans this (Gw (λp hp h=>h.1 0 hp (tr (s p h.2))) m)
 let le:=sY (m:=m) _ (cG f) rfl (λd l=>⟨J d l,by
  let⟨y,_,rfl⟩:=mem_map.mp l;exact λz=>by cases z⟩) I
 let Q:=Di (P:=sK (cG f)) (λq K=>absurd K (Nat.not_lt_zero _)) m T;lia
theorem Rts.take:∀{xs:vk}{ds:List RD}(n:Nat),Rts K H xs ds->Rts K H (xs.take n) (ds.take n)
 |_,_,0,_=>.nil
 |_,_,_+1,.nil=>.nil
 |_,_,n+1,.cons h f q=>.cons h f (Rts.take n q)
theorem Rts.drop:∀{xs:vk}{ds:List RD}(n:Nat),Rts K H xs ds->Rts K H (xs.drop n) (ds.drop n)
 |_,_,0,h=>h
 |_,_,_+1,.nil=>.nil
 |_,_,n+1,.cons _ _ q=>Rts.drop n q
theorem Fqs.take':∀{xs:vk}{ds:List Mq.Q2}(n:Nat),Fqs K H xs ds->Fqs K H (xs.take n) (ds.take n)
 |_,_,0,_=>.nil
 |_,_,_+1,.nil=>.nil
 |_,_,n+1,.cons h q=>.cons h (Fqs.take' n q)
theorem Fqs.drop':∀{xs:vk}{ds:List Mq.Q2}(n:Nat),Fqs K H xs ds->Fqs K H (xs.drop n) (ds.drop n)
 |_,_,0,h=>h
 |_,_,_+1,.nil=>.nil
 |_,_,n+1,.cons _ q=>Fqs.drop' n q
theorem Na{α β:Type}(a:α)(b:β):∀(k:Nat)(l:List α)(r:List β),l.length=r.length->(l.take k++a :: l.drop k).zip (r.take k++b :: r.drop k)=(l.zip r).take k++(a,b) :: (l.zip r).drop k
 |0,_,_,_=>rfl
 |_+1,[],[],_=>rfl
 |k+1,x :: l,y :: r,h=>by
  have:=Na a b k l r (by simpa using h);simp only[take_succ_cons,drop_succ_cons,cons_append,zip_cons_cons] at this ⊢;rw[this]
theorem yF{α β:Type}(a:α)(b:β)(l:List α)(r:List β)(h:l.length=r.length):(l++[a]).zip (r++[b])=l.zip r++[(a,b)]:=by rw[zip_append h];rfl
theorem qh1(h:∀p∈rs,Mq.Dn B p)(b:0<=B)(c:0<=N)(hs:Mq.Dn N s):∀p∈stp rs d s,Mq.Dn (B+2*N) p:=by
 let g:∀{l:List Mq.Q2}{C:Int}(i:Nat),0<=C->(∀p∈l,Mq.Dn C p)->Mq.Dn C (l.getD i (0,1)):=λ{l C} i C0 a=>by
  rw[getD_eq_getElem?_getD]
  cases e:l[i]? with
  |none=>exact dn0.mono C0
  |some p=>exact a p (mem_of_getElem? e)
 let h1:∀p∈rs.set d.2.1.toNat (Mq.plus (rs.getD d.2.1.toNat (0,1)) s),Mq.Dn (B+N) p:=λp hp=>by
  rcases mem_or_eq_of_mem_set hp with z | z
  .exact(h p z).mono ()
  .rw[z];exact(g _ b h).plus hs
 intro p hp;rcases mem_or_eq_of_mem_set hp with z | z
 .exact(h1 p z).mono ()
 .rw[z];exact((g _ () h1).minus hs).mono ()
theorem Lh(c:0<=N):∀(l:List (RD × Mq.Q2))(rs:List Mq.Q2)(B:Int),0<=B->(∀p∈rs,Mq.Dn B p)->(∀e∈l,Mq.Dn N e.2)->∀p∈l.foldl (λr x=>stp r x.1 x.2) rs,Mq.Dn (B+2*N*l.length) p
 | [],rs,B,_,h,_,p,hp=>by have:=h p hp;simpa using this
 |e :: l,rs,B,B0,h,hl,p,hp=>by
  have:=Lh c l (stp rs e.1 e.2) (B+2*N) () (qh1 h B0 c (hl e ⋯)) (λy a=>hl y (mem_cons_of_mem _ a)) p hp;let b:B+2*N+2*N*(l.length:Int)=B+2*N*((e :: l).length:Int):=by rw[length_cons,Int.natCast_add,Int.mul_add];show _=B+(2*N*(l.length:Int)+2*N*1);lia
  rwa [b] at this
theorem qh7(a:0<=N)(b:∀e∈l,Mq.Dn N e.2):∀p∈rst m l,Mq.Dn (2*N*l.length) p:=λp hp=>by
 have:=Lh a l (replicate m (0,1)) 0 () (λp hp=>by rw[eq_of_mem_replicate hp];exact dn0) b p hp
 rwa [Int.zero_add] at this
def Xu(m:Nat)(N:Int)(e:RD × Mq.Q2):Prop:=R49 m e.1/\Mq.Dn N e.2/\okp e=true
theorem Xu.e{e:RD × Mq.Q2}(h:Xu m N e):EOk m e:=⟨h.1.pt,h.2.1.1.pos⟩
theorem qu5{α β:Type}{P:α × β->Prop}{l:List α}{r:List β}(f:l.length=r.length)(h:∀e∈l.zip r,P e){a:α}(d:a∈l):∃b,P (a,b):=by
 let⟨i,hi⟩:=getElem?_of_mem d;let c:=(wk.mp hi).1;exists r[i],h _ (mem_of_getElem? (getElem?_zip_eq_some.mpr ⟨hi,getElem?_eq_getElem ()⟩))
theorem qw4{α β:Type}{P:α × β->Prop}{l:List α}{r:List β}(f:l.length=r.length)(h:∀e∈l.zip r,P e){b:β}(d:b∈r):∃a,P (a,b):=by
 let⟨i,hi⟩:=getElem?_of_mem d;let c:=(wk.mp hi).1;exists l[i],h _ (mem_of_getElem? (getElem?_zip_eq_some.mpr ⟨getElem?_eq_getElem (),hi⟩))
structure RS(K:Frag)(H:Hp)(r b:Addr)(m:Nat)(N:Int)(us ys:vk)(ds:List RD)(ss:List Mq.Q2):Prop where
 er:H r=some (.lst us)
 eb:H b=some (.lst ys)
 R:Rts K H us ds
 F:Fqs K H ys ss
 l:ss.length=ds.length
 p:∀e∈ds.zip ss,Xu m N e
theorem RS.same(s:aS H H')(h:RS K H r b m N us ys ds ss):RS K H' r b m N us ys ds ss:=⟨s _ _ h.er,s _ _ h.eb,h.R.same s,h.F.same s,h.l,h.p⟩
theorem RS.pt(h:RS K H r b m N us ys ds ss):∀d∈ds,R49 m d:=λd a=>by
 let⟨b,c⟩:=qu5 h.l.symm h.p a;exact c.1
theorem RS.dn(h:RS K H r b m N us ys ds ss):∀s∈ss,Mq.Dn N s:=λd a=>by
 let⟨b,c⟩:=qw4 h.l.symm h.p a;exact c.2.1
theorem Mc{α:Type}{P:α->Bool}{d:α}(h:P d=false)(l:List α)(k:Nat):(l.take k++d :: l.drop k).filter P=l.filter P:=by
 rw[filter_append,filter_cons_of_neg (by rw[h];simp),<- filter_append,take_append_drop]
theorem Th:∀ds:List RD,(iQ ds).length+bZ ds<=ds.length
 | []=>Nat.le_refl _
 |d :: ds=>by
  let a:=Th ds;unfold iQ at a ⊢;rw[length_map] at a ⊢;rw[gO,length_cons];unfold cT
  by_cases c:d.1=.pc/\d.2.2.2.1≠1
  .rw[filter_cons_of_pos (by exact decide_eq_true c),length_cons,if_neg (by rw[c.1];exact λz=>by cases z)];lia
  .rw[filter_cons_of_neg (by simpa using c)];split<;>lia
theorem Xq(ds:List RD)(k:Nat)(u v:Int)(p:Mq.Q2):(iQ (ds.take k++(.pu,u,v,p) :: ds.drop k)).length+bZ (ds.take k++(.pu,u,v,p) :: ds.drop k)=(iQ ds).length+bZ ds:=by
 unfold iQ bZ fP;rw[Mc ⋯,Mc ⋯]
theorem aAh(a:0<=r)(h4:r < 4):∃k:Kd,atI [V.str "piece",.str "push",.str "hold",.str "hold"] r=some (.str k.wd):=by
 have:r=0\/r=1\/r=2\/r=3:=by lia
 rcases this with rfl | rfl | rfl | rfl
 .exists .pc,8
 .exists .pu,8
 .exists .ho,8
 .exists .ho,8
theorem qr7{m:Nat}(hp:cO (m:Int) u v)(e:k=.pc->qc8 p)(f:k≠.pc->Dr p):R49 m (k,u,v,p):=by
 let⟨a,b,c,d⟩:=hp
 by_cases h:k=.pc
 .let s:=e h;exists ⟨a,b,c,d,s.l,λ_=>s.p0,(⟨s.t,Nat.lt_of_le_of_lt s.d ∅⟩:Mq.Bd 30 p).mono ∅⟩,λ_=>⟨s.t,s.d⟩,λz=>absurd h z
 .let s:=f h;exists ⟨a,b,c,d,s.1,λz=>absurd z h,s.2.1.mono ∅⟩,λz=>absurd z h,λ_=>s.2.2.mono ∅
inductive Dj(K:Frag)(vs:vk)(H:Hp)(Q:VK)(E:XK):Prop where
 |mk (a:Addr) (ns:List Int) (m:Nat):vs=[.ref a,.int (m:Int)]->SqL K H a (ns.map V.int)->ns.length<=63->1<=m->m<=6->(∀t r b us ys ds ss H',aS H H'->H r=none->H b=none->r≠b->H' t=some (.tup [.ref r,.ref b])->RS K H' r b m NP us ys ds ss->ds.length<=17->(iQ ds).length+bZ ds<=12->sv m (ds.zip ss)=true->Q (.ref t) H')->Dj K vs H Q E
abbrev Km:Stmt:=top 95
theorem iD:aP ["_law_script","_law_many","_law_rows","_law_streams","_law_cell","_law_word","_law_size_here","_law_left","_law_row","_law_stream","_law_point","_law_at"] ["_law_script","_law_many"] (aI Km):=sK9
def ExA(H:Hp)(a C:Addr)(od:Option Addr):Prop:=H a=some (kT a (.ref C) od)/\∀dx,od=some dx->∃fs,H dx=some (.xd fs)
theorem ExA.same(s:aS H H')(h:ExA H a C od):ExA H' a C od:=⟨s _ _ h.1,λdx e=>let ⟨fs,h⟩:=h.2 dx e;⟨fs,s _ _ h⟩⟩
theorem oY:jF X (.builtin "isinstance") (λxs H Q=>∃a C od c l b,xs=[.ref a,c]/\ExA H a C od/\tX X.K C/\cE c l/\(∀u,cE c u->u=l)/\W.kitOne X.K (.ref C) l=some b/\Q (.bl b) H):=by
 intro pins s σ H xs d Q I r h;let⟨a,C,od,c,l,b,rfl,⟨e,i⟩,ex,f,g,k,q⟩:=h
 cases od with
 |none=>exact Ol pins s σ H _ d Q I r ⟨a,C,c,l,b,8,e,ex,f,g,k,q⟩
 |some dx=>
  let⟨fs,j⟩:=i dx rfl;exact Ib pins s σ H _ d Q I r ⟨a,C,dx,fs,c,l,b,8,e,j,ex,f,g,k,q⟩
inductive Pbs(K:Frag)(H:Hp):vk->List (Str × Bool)->Prop where
 |nil:Pbs K H [] []
 |cons {t:Addr} {xs:vk} {p:Str × Bool} {ps:List (Str × Bool)} (h:SqT K H t [.str p.1,.bl p.2]) (r:Pbs K H xs ps):Pbs K H (.ref t :: xs) (p :: ps)
theorem Pbs.same(s:aS H H'):∀{xs:vk}{ps:List (Str × Bool)},Pbs K H xs ps->Pbs K H' xs ps
 |_,_,.nil=>.nil
 |_,_,.cons h r=>.cons (s.seqT h) (r.same s)
theorem Pbs.app:∀{xs ys:vk}{ps qs:List (Str × Bool)},Pbs K H xs ps->Pbs K H ys qs->Pbs K H (xs++ys) (ps++qs)
 |_,_,_,_,.nil,h=>h
 |_,_,_,_,.cons h r,g=>.cons h (r.app g)
theorem Pbs.length:∀{xs:vk}{ps:List (Str × Bool)},Pbs K H xs ps->xs.length=ps.length
 |_,_,.nil=>rfl
 |_,_,.cons _ r=>congrArg (· + 1) r.length
theorem Pbs.at:∀{xs:vk}{ps:List (Str × Bool)}{i:Nat}{x:V},Pbs K H xs ps->xs[i]?=some x->∃t p,x=.ref t/\ps[i]?=some p/\SqT K H t [.str p.1,.bl p.2]
 |_,_,0,_,.cons h _,e=>⟨_,_,(Option.some.inj e).symm,8,h⟩
 |_,_,i+1,_,.cons _ r,e=>Pbs.at (i:=i) r e
theorem qd1(h1:SqL K H a [.str n])(h2:SqL K H b [.str n])(c:(PyData.list [.str n]).canLay0=true)(z:Q (.bl true) H):zA K false (.ref a) (.ref b) H Q:=
 Ks (d:=.list [.str n]) (.lst h1 (.cons (.str _) .nil)) (.lst h2 (.cons (.str _) .nil)) c (by simp[PyData.depth,PyData.depthAll]) z
theorem Yh(h1:SqT K H a [.int i,.int j])(h2:SqT K H b [.int i,.int j])(z:Q (.bl true) H):zA K false (.ref a) (.ref b) H Q:=
 Ks (d:=.tuple [.int i,.int j]) (.tup h1 (.cons (.int _) (.cons (.int _) .nil))) (.tup h2 (.cons (.int _) (.cons (.int _) .nil))) rfl (by simp[PyData.depth,PyData.depthAll]) z
theorem Io:jF X (.builtin "isinstance") (λxs H Q=>∃(a C:Addr)(od:Option Addr)(i:Addr)(j:List Addr)(b:Bool),xs=[.ref a,.ref i]/\ExA H a C od/\tX X.K C/\H i=some (.tup (j.map V.ref))/\W.kitAny X.K (.ref C) (j.map Value.ref)=some b/\Q (.bl b) H):=by
 intro pins s σ H xs c Q I r h;let⟨a,C,od,i,j,b,rfl,⟨d,f⟩,ex,e,k,q⟩:=h
 cases od with
 |none=>exact Kl pins s σ H _ c Q I r ⟨a,C,i,j,b,8,d,ex,e,k,q⟩
 |some dx=>
  let⟨fs,g⟩:=f dx rfl;exact Fi pins s σ H _ c Q I r ⟨a,C,dx,fs,i,j,b,8,d,g,ex,e,k,q⟩
abbrev oNm:List Str:=["NoStreams","Ring","Floats"]
abbrev oWd:List Str:=["streams","ring","floats"]
structure OnC(K:Frag)(mg:Str->Option Value)(C:Addr)(j:Nat):Prop where
 ex:tX K C
 ve:W.kitOne K (.ref C) (.type "ValueError")=some true
 ks:∀i n,oNm[i]?=some n->∃c,mg n=some (.ref c)/\W.kitOne K (.ref C) (.ref c)=some (decide (i=j))
 ka:∃c0 c1 c2 c3 c4 c5 c6 c7 c8 c9,mg "Held"=some (.ref c0)/\mg "Lame"=some (.ref c1)/\mg "NoName"=some (.ref c2)/\mg "NoNumber"=some (.ref c3)/\mg "NoPoint"=some (.ref c4)/\mg "NoRoad"=some (.ref c5)/\mg "NoRow"=some (.ref c6)/\mg "NoSize"=some (.ref c7)/\mg "NoWord"=some (.ref c8)/\mg "TooMany"=some (.ref c9)/\W.kitAny K (.ref C) [.ref c0,.ref c1,.ref c2,.ref c3,.ref c4,.ref c5,.ref c6,.ref c7,.ref c8,.ref c9]=some false
inductive tV(K:Frag)(mg:Str->Option Value)(vs:vk)(H:Hp)(Q:VK)(E:XK):Prop where
 |mk (a C:Addr) (od:Option Addr) (j:Nat) (wd:Str):vs=[.ref a,.str wd]->ExA H a C od->OnC K mg C j->oWd[j]?=some wd->(∀H',aS H H'->Q (.bl true) H')->tV K mg vs H Q E
theorem Cg{wd:Str}(b:ExA H a C od)(c:OnC K mg C j)(d:oWd[j]?=some wd)(q:∀H',aS H H'->Q (.bl true) H'):tV K mg [.ref a,.str wd] H Q E:=by
 exists a,C,od,j,wd,8,b,c,d,q
theorem rL:(["_law_one","_law_truth"]:List Str).Nodup:=by decide +kernel
theorem qh2(h:oWd[j]?=some n):((((List.range 3).map λi=>(oWd.getD i "",decide (i=j))).filter λp=>p.2).map λp=>V.str p.1)=[.str n]:=by
 let a:j < 3:=(wk.mp h).1;have:j=0\/j=1\/j=2:=by lia
 rcases this with rfl | rfl | rfl<;>(cases h;rfl)
theorem ql9{j:Nat}(h:oWd[j]?=some n):(PyData.list [.str n]).canLay0=true:=by
 let a:j < 3:=(wk.mp h).1;have:j=0\/j=1\/j=2:=by lia
 rcases this with rfl | rfl | rfl<;>(cases h;decide +kernel)
abbrev sOn:Stmt:=top 100
theorem qs6:aP ["_law_kept","_law_word","_law_marks"] ["_law_kept","_law_word"] (aI sOn):=sK9
structure OhC(K:Frag)(mg:Str->Option Value)(CP CG CF:Addr):Prop where
 oe:∃CO,mg "OhmError"=some (.ref CO)/\W.exmOne K (.ref CP) (.ref CO)=some true/\W.exmOne K (.ref CG) (.ref CO)=some true/\W.exmOne K (.ref CF) (.ref CO)=some true
structure Kpt(CG CF:Addr)(K:Frag)(H:Hp)(x:V)(m:Nat)(ds:List RD):Prop where
 rg:∀c r,rgH ds=c :: r->∃a dx p t us,x=.ref a/\H a=some (kT a (.ref CG) (some dx))/\H dx=some (.xd [("ring",.ref p),("total",.ref t)])/\H p=some (.lst us)/\Sts K H us c.2/\Fq K H t (tot (c.2.map (gU ds)))
 fl:rgH ds=[]->cZ m ds≠[]->∃a dx p,x=.ref a/\H a=some (kT a (.ref CF) (some dx))/\H dx=some (.xd [("points",.ref p)])/\H p=some (.lst ((cZ m ds).map V.int))
def Bad(m:Nat)(ds:List RD):Prop:=rgH ds=[]->cZ m ds≠[]
inductive zZ(CN CP CG CF : Addr)(K : Frag)(vs : vk)(H : Hp)(Q : VK)(E : XK) : Prop where
  | mk (n l : Addr) (x : V) (m : Nat) (ds : List RD) : vs = [.ref n, x] -> dB CN K H n l (m : Int) ds -> (∀ d ∈ ds, R49 m d) -> 1 <= m -> m <= 6 -> ds.length <= 24 -> ((∃ v : Addr, x = .ref v /\ SvI K H m ds x false /\ ∀ a H', aS H H' -> H' a = some (kT a (.ref CP) none) -> Q (.ref a) H') \/
   ((x = .non \/ ∃ v : Addr, x = .ref v /\ SvI K H m ds x true) /\ Bad m ds /\ ∀ y H', aS H H' -> Kpt CG CF K H' y m ds -> Q y H')) -> zZ CN CP CG CF K vs H Q E
theorem qd3{m:Nat}(nt:dB CN K H n l (m:Int) ds)(D:∀d∈ds,R49 m d)(b:1<=m)(m6:m<=6)(c:ds.length<=24)(s:SvI K H m ds (.ref v) false)(q:∀a H',aS H H'->H' a=some (kT a (.ref CP) none)->Q (.ref a) H'):zZ CN CP CG CF K [.ref n,.ref v] H Q E:=by
 exists n,l,_,m,ds,8,nt,D,b,m6,c,.inl ⟨v,8,s,q⟩
theorem Of{m:Nat}(nt:dB CN K H n l (m:Int) ds)(D:∀d∈ds,R49 m d)(a:1<=m)(m6:m<=6)(b:ds.length<=24)(s:x=.non\/∃v:Addr,x=.ref v/\SvI K H m ds x true)(c:Bad m ds)(q:∀y H',aS H H'->Kpt CG CF K H' y m ds->Q y H'):zZ CN CP CG CF K [.ref n,x] H Q E:=by
 exists n,l,x,m,ds,8,nt,D,a,m6,b,.inr ⟨s,c,q⟩
abbrev qk4:Stmt:=top 99
theorem Ls:aP ["_law_net_here","_law_streams","_law_kept","e"] ["_law_net_here","_law_streams"] (aI qk4):=sK9
structure FlC(K:Frag)(CG CF:Addr):Prop where
 hg:W.hasDictIn K CG=true
 hf:W.hasDictIn K CF=true
 nr:W.findIn K (.ref CG) "ring"=some none
 nt:W.findIn K (.ref CG) "total"=some none
 np:W.findIn K (.ref CF) "points"=some none
theorem Wg(c:∀d∈ds,LfB 0 d.2.2.2)(s:Stp):1<=(gU ds s).2/\Mq.val (gU ds s)=((s.2:Int):Rat)*szR ds s.1:=by
 let a:Mq.Low (ds.getD s.1 (.pc,0,0,(0,1))).2.2.2:=by
  rw[getD_eq_getElem?_getD]
  cases h:ds[s.1]? with
  |none=>exact LfB.zero.1
  |some d=>exact(c d (mem_of_getElem? h)).1
 let b:Mq.Low (red s.2 1):=iE ∅;unfold gU szR;exists (lK b.1 a.1).1,7;rw[tQ b.1 a.1,jH ∅];rw[show ((1:Int):Rat)=1 by rfl,Rat.div_def];grind
theorem Qo(a:∀d∈ds,LfB 0 d.2.2.2)(st:List Stp):Mq.Low (tot (st.map (gU ds)))/\Mq.val (tot (st.map (gU ds)))=(st.map λs=>((s.2:Int):Rat)*szR ds s.1).sum:=by
 let hp:Mq.Pos (st.map (gU ds)):=λp h=>by
  let⟨s,_,rfl⟩:=mem_map.mp h;exact(Wg a s).1
 exists mI hp,7;rw[Nw hp];clear hp
 induction st with
 |nil=>rfl
 |cons s r ih=>
  show Mq.val (gU ds s)+qO ((r.map (gU ds)).map Mq.val)=_;rw[ih,(Wg a s).2];rfl
theorem R49.lf(h:R49 m d):LfB 0 d.2.2.2:=by
 exists h.ok.2.2.2.2.1,7;show Mq.Fr 27720 (70368744177664*1) _
 by_cases k:d.1=.pc
 .let⟨a,b⟩:=h.pc k;let c:=h.ok.2.2.2.2.1.pos;let f:d.2.2.2.2 ∣ 27720:=by
   have:d.2.2.2.2=1\/d.2.2.2.2=2\/d.2.2.2.2=3\/d.2.2.2.2=4\/d.2.2.2.2=5\/d.2.2.2.2=6:=by lia
   rcases this with e | e | e | e | e | e<;>rw[e]<;>decide
  exact(Mq.Fr.of ∅ c f (Nat.le_of_lt a)).mono ∅
 .let⟨_,z,e,a,b⟩:=h.nu k;let h2:((27720:Int):Rat)=27720:=rfl;have:NP=42*27720000000000000:=rfl;exists z,by rw[h2,<- e];grind,by show z.natAbs<=70368744177664*1*27720;lia
inductive qi3(CG CF:Addr)(K:Frag)(vs:vk)(H:Hp)(Q:VK)(E:XK):Prop where
 |mk (x:V) (r:Addr) (us:vk) (m:Nat) (ds:List RD):vs=[x,.ref r,.int (m:Int)]->SqL K H r us->Rts K H us ds->(∀d∈ds,R49 m d)->1<=m->m<=6->ds.length<=24->Kpt CG CF K H x m ds->Bad m ds->(∀H',aS H H'->Q (.bl true) H')->qi3 CG CF K vs H Q E
abbrev sOf:Stmt:=top 101
theorem Zs:aP ["_law_kept","_law_rows","_law_many","_law_closed","_law_number_here","_law_way"] ["_law_kept","_law_rows","_law_many"] (aI sOf):=sK9
theorem Lm(xs:vk)(a:k<=xs.length):jJ xs none (some (k:Int))=xs.take k:=by
 unfold jJ;let h1:HT.sIx xs.length xs.length (some (k:Int))=k:=by
  simp[HT.sIx];split<;>lia
 let h2:HT.sIx xs.length 0 none=0:=rfl;rw[h1,h2];simp
theorem zY(xs:vk)(k:Nat):jJ xs (some ((k:Int)+1)) none=xs.drop (k+1):=by
 have:=uA xs (k+1);rw[Int.natCast_add] at this;exact this
theorem qg6(x y z w:V):jJ [x,y,z,w] (some 1) (some 3)=[y,z]:=rfl
theorem qb5:Mq.Dn 27720 (1,3):=⟨⟨∅,∅⟩,9240,by unfold Mq.val;show ((1:Int):Rat) / ((3:Int):Rat)*27720=_;rw[show ((1:Int):Rat)=1 by rfl,show ((3:Int):Rat)=3 by rfl,show ((9240:Int):Rat)=9240 by rfl];grind,∅,∅⟩
theorem qv5:Mq.val (1,3)≠0:=by
 unfold Mq.val;intro e;let a:((1:Int):Rat) / ((3:Int):Rat)=0:=e;rw[show ((1:Int):Rat)=1 by rfl,show ((3:Int):Rat)=3 by rfl] at a;grind
theorem Ql{α:Type}{l:List α}(h:k < l.length)(x:α):l.take k++[x]++l.drop (k+1)=l.set k x:=by
 rw[set_eq_take_append_cons_drop,if_pos h,List.append_assoc];rfl
theorem Xo(h:l[k]?=some e):flS x (l.set k e')=flS x l - flw x e+flw x e':=by
 let⟨a,b⟩:=wk.mp h;let c:l=l.take k++e :: l.drop (k+1):=by
  rw[<- b,<- drop_eq_getElem_cons a,take_append_drop]
 let d:l.set k e'=l.take k++e' :: l.drop (k+1):=by rw[set_eq_take_append_cons_drop,if_pos a]
 let f:flS x l=flS x (l.take k)+(flw x e+flS x (l.drop (k+1))):=by
  conv=>lhs;rw[c]
  rw[qX,kX]
 rw[d,qX,kX,f];grind
theorem qc9{ds:List RD}{f:List Mq.Q2}(g:ds[k]?=some d):ds.zip (f.set k q)=(ds.zip f).set k (d,q):=by
 refine ext_getElem? λi=>?_;rw[getElem?_set]
 by_cases c:k=i
 .subst c;rw[if_pos rfl,length_zip]
  by_cases l:k < f.length
  .have:k < ds.length:=(wk.mp g).1;rw[if_pos ()];exact getElem?_zip_eq_some.mpr ⟨g,by rw[getElem?_set,if_pos rfl,if_pos l]⟩
  .rw[if_neg ()];exact List.getElem?_eq_none_iff.mpr (by rw[length_zip,length_set];lia)
 .rw[if_neg c]
  cases h:(ds.zip f)[i]? with
  |some e=>
   let⟨a,b⟩:=getElem?_zip_eq_some.mp h;exact getElem?_zip_eq_some.mpr ⟨a,by rw[getElem?_set,if_neg c];exact b⟩
  |none=>
   have:=List.getElem?_eq_none_iff.mp h;exact List.getElem?_eq_none_iff.mpr (by rw[length_zip,length_set];rwa [length_zip] at this)
theorem Mn{m k:Nat}{ds:List RD}(a:ds[k]?=some d)(b:d.1=.pu)(hs:ss[k]?=some p)(ne:p≠d.2.2.2):sv m (ds.zip ss)=false:=
 qg4 (e:=(d,p)) (mem_of_getElem? (getElem?_zip_eq_some.mpr ⟨a,hs⟩)) (by simp[okp,b,ne])
theorem Es(g:∀e∈l,EOk m e)(h:sv m l=true)(i:x < m):flS x l=0:=by
 let⟨a,b,c⟩:=vU g;unfold sv at h;rw[Bool.and_eq_true] at h;let d:x < (rst m l).length:=by rw[a];exact i
 let f:(rst m l).getD x (0,1)=(0,1):=by
  rw[getD_eq_getElem?_getD,getElem?_eq_getElem d];exact of_decide_eq_true (all_eq_true.mp h.2 _ (getElem_mem d))
 rw[<- c x,f,Mq.mQ]
theorem qk1{ds:List RD}(s:ss.length=ds.length)(n:∀e∈ds.zip ss,EOk m e)(r:1<=q.2)(h:sv m (ds.zip ss)=true)(o:ds[k]?=some d)(hs:ss[k]?=some p)(ne:Mq.val q≠Mq.val p)(t:d.2.1≠d.2.2.1):sv m (ds.zip (ss.set k q))=false:=by
 cases c:sv m (ds.zip (ss.set k q)) with
 |false=>rfl
 |true=>
  let g:(ds.zip ss)[k]?=some (d,p):=getElem?_zip_eq_some.mpr ⟨o,hs⟩;let⟨⟨a,i1,b,j⟩,_⟩:=n _ (mem_of_getElem? g);let a:0<=d.2.1:=a;let i1:d.2.1 < m:=i1;let b:0<=d.2.2.1:=b;rw[qc9 o] at c;let i:∀e∈(ds.zip ss).set k (d,q),EOk m e:=λe h=>by
   rcases mem_or_eq_of_mem_set h with z | z
   .exact n e z
   .rw[z];exists ⟨a,i1,b,j⟩,r
  let l:=Es n h (show d.2.1.toNat < m by lia);let f:=Es i c (show d.2.1.toNat < m by lia);rw[Xo g,l] at f;unfold flw at f;rw[if_pos rfl,if_pos rfl,if_neg (show ¬d.2.2.1.toNat=d.2.1.toNat by lia),if_neg (show ¬d.2.2.1.toNat=d.2.1.toNat by lia)] at f;exact absurd (show Mq.val q=Mq.val p by grind) ne
def mZ(K:Frag)(H:Hp)(m:Nat)(ds:List RD)(x:V):Prop:=∃(v:Addr)(ys:vk)(ss:List Mq.Q2),x=.ref v/\H v=some (.lst ys)/\Fqs K H ys ss/\dP ss/\ss.length<=100/\(ss.length≠ds.length\/(ss.length=ds.length/\(∀s∈ss,Mq.Dn NS s)/\sv m (ds.zip ss)=false))
theorem mZ.same(s:aS H H')(h:mZ K H m ds x):mZ K H' m ds x:=by
 let⟨v,ys,a,e,b,F,l,n,c⟩:=h;exists v,ys,a,e,s _ _ b,F.same s,l,n,c
theorem mZ.updB(a:H B=some (.lst zs))(ne:x≠.ref B)(h:mZ K H m ds x):mZ K (upd H B o) m ds x:=by
 let⟨v,ys,b,e,d,F,l,n,c⟩:=h;exists v,ys,b,e,by rw[aQ (λz=>ne (by rw[e,z]))];exact d,F.upd a,l,n,c
theorem mZ.sv(h:mZ K H m ds x):∃v:Addr,x=.ref v/\SvI K H m ds x false:=by
 let⟨v,ys,b,rfl,a,F,l,n,c⟩:=h;let lF:=F.length;exists v,8,7;rcases c with c | ⟨c,d,e⟩
 .have:=AF.lst (m:=(ds.length:Int)) (SqL.of a) F l ();rw[decide_eq_false ()] at this;exact .no this
 .exact .ls (SqL.of a) F c d e
theorem qb7(h:H t=some (.tup ys)):SvI K H m ds (.ref t) false:=.no (.ty (.tup (SqT.of h)) (by with_unfolding_all rfl))
inductive Vj(K:Frag)(vs:vk)(H:Hp)(Q:VK)(E:XK):Prop where
 |mk (r b:Addr) (us ys:vk) (c:Int) (m:Nat) (ds:List RD) (ss:List Mq.Q2):vs=[.ref r,.ref b,.int c]->RS K H r b m NP us ys ds ss->sv m (ds.zip ss)=true->ds.length<=17->(∀l xs H',aS H H'->H l=none->H' l=some (.lst xs)->xs.length=4->(∀x∈xs,∃v:Addr,x=.ref v/\SvI K H' m ds x false)->Q (.ref l) H')->Vj K vs H Q E
inductive Mi(CN:Addr)(K:Frag)(vs:vk)(H:Hp)(Q:VK)(E:XK):Prop where
 |mk (n l r b:Addr) (us ys:vk) (m:Nat) (ds:List RD) (ss:List Mq.Q2):vs=[.ref n,.ref r,.ref b,.int (m:Int)]->dB CN K H n l (m:Int) ds->SqL K H r us->Rts K H us ds->SqL K H b ys->Fqs K H ys ss->ss.length=ds.length->(∀s∈ss,Mq.Dn NS s)->sv m (ds.zip ss)=true->(∀d∈ds,R49 m d)->1<=m->m<=6->ds.length<=24->(iQ ds).length+bZ ds<=12->rgH ds=[]->cZ m ds=[]->(∀H',aS H H'->Q (.bl true) H')->Mi CN K vs H Q E
theorem Yo:(["_law_row"]:List Str).Nodup:=by decide +kernel
theorem Ze:(["_law_one"]:List Str).Nodup:=by decide +kernel
abbrev qq3:Stmt:=top 102
theorem Lx:aP ["_law_net_here","_law_rows","_law_streams","_law_many","_law_found","_law_joined_here","_law_given"] ["_law_net_here","_law_rows","_law_streams","_law_many"] (aI qq3):=sK9
theorem Zp{xs:vk}(a:xs.length=n+1)(h:xs[n]?=some v):atI xs (-1)=some v:=by
 let e:xs=xs.take n++[v]:=by
  have:=take_append_drop n xs;let d:xs.drop n=[v]:=by
   refine ext_getElem? λi=>?_;rw[getElem?_drop]
   cases i with
   |zero=>rw[Nat.add_zero,h];rfl
   |succ j=>rw[getElem?_eq_none ()];simp
  rw[d] at this;exact this.symm
 rw[e];exact Ft _ _
abbrev qi6:Stmt:=top 103
theorem Gf:aP ["_law_rows","_law_streams","_law_cell","_law_bad_here","_law_k","_law_more","_law_j"] ["_law_rows","_law_streams","_law_cell"] (aI qi6):=sK9
theorem Zu(m:Nat)(a:1<=m)(ds:List RD):(cZ m ds).length<=m - 1:=by
 obtain⟨k,rfl⟩:∃k,m=k+1:=⟨m - 1,6⟩
 unfold cZ;rw[length_map,range_succ_eq_map,filter_cons_of_neg ⋯];have:=length_filter_le (λp=>decide (mk (k+1) ds p≠mk (k+1) ds 0)) ((List.range k).map Nat.succ);rw[length_map,length_range] at this;lia
theorem Zr(h:x∈cZ m ds):∃p:Nat,x=(p:Int)/\p < m:=by
 let⟨p,hp,rfl⟩:=mem_map.mp h;exists p,8,mem_range.mp (mem_filter.mp hp).1
def pcF(fs:List Int):List RD:=fs.map λp=>(.pc,0,p,(1,2))
theorem Vi{m:Nat}(i:1<=m)(pt:∀d∈ds,cO (m:Int) d.2.1 d.2.2.1)(h:∀d∈ds++pcF (cZ m ds),cO (m:Int) d.2.1 d.2.2.1):cZ m (ds++pcF (cZ m ds))=[]:=by
 let e:cZ m (ds++pcF (cZ m ds))=((List.range m).filter λp=>decide (mk m (ds++pcF (cZ m ds)) p≠mk m (ds++pcF (cZ m ds)) 0)).map λ(p:Nat)=>(p:Int):=rfl;rw[e,filter_eq_nil_iff.mpr λp hp=>?_]
 .rfl
 .let a:=mem_range.mp hp;let b:mk m (ds++pcF (cZ m ds)) p=mk m (ds++pcF (cZ m ds)) 0:=by
   refine(yI h a ()).mpr ?_
   by_cases c:mk m ds p=mk m ds 0
   .exact((yI pt a ()).mp c).mono λd f=>mem_append.mpr (.inl f)
   .let hm:((p:Int))∈cZ m ds:=mem_map.mpr ⟨p,mem_filter.mpr ⟨hp,decide_eq_true c⟩,8⟩;let g:((.pc,0,(p:Int),(1,2)):RD)∈ds++pcF (cZ m ds):=mem_append.mpr (.inr (mem_map.mpr ⟨_,hm,8⟩));exact(Cn.row g (by show Kd.pc≠Kd.pu;decide)).symm
  simp[b]
theorem Qx:∀n,n<=sk.length->bO W (sk++xs) n=bO W sk n
 |0,_=>rfl
 |n+1,hn=>by
  let c:=Qx (W:=W) (sk:=sk) (xs:=xs) n ();let a:sk[n]?=some sk[n]:=getElem?_eq_getElem (l:=sk) ();let b:(sk++xs)[n]?=some sk[n]:=by rw[getElem?_append_left ()];exact a
  rw[dF a,dF b,c]
theorem qp8(c:d.1≠.ho):rgH (ds++[d])=rgH ds:=by
 unfold rgH;let a:(skl ds).length=ds.length:=by unfold skl;rw[length_map]
 let e:skl (ds++[d])=skl ds++[(d.1,d.2.1.toNat,d.2.2.1.toNat)]:=by unfold skl;rw[map_append];rfl
 let b:(skl (ds++[d]))[ds.length]?=some (d.1,d.2.1.toNat,d.2.2.1.toNat):=by rw[e,getElem?_append_right (),a,Nat.sub_self];rfl
 rw[wq];show (bO wHo (skl (ds++[d])) (ds.length+1)).2=_;rw[dF b];unfold eY;rw[if_neg (λz=>c ((pC d.1).mp z)),e,Qx _ ()]
theorem qn8(g:ss.length=ds.length)(f:∀e∈ds.zip ss,EOk m e)(pt:cO (m:Int) d.2.1 d.2.2.1)(i:d.1≠.pu)(h:sv m (ds.zip ss)=true):sv m ((ds++[d]).zip (ss++[(0,1)]))=true:=by
 rw[yF _ _ _ _ g.symm];let a:∀e∈ds.zip ss++[(d,(0,1))],EOk m e:=λe h=>by
  rcases mem_append.mp h with z | z
  .exact f e z
  .rw[mem_singleton.mp z];exists pt,Int.le_refl 1
 let b:=h;unfold sv at h ⊢;rw[Bool.and_eq_true] at h;rw[all_append,h.1,Fc a (λx _ c=>?_)]
 .simp[okp,i]
 .rw[qX,Es f b c,kX];unfold flw;show (0:Rat)+((if _ then Mq.val (0,1) else 0) + -(if _ then Mq.val (0,1) else 0)+qO [])=0;rw[Mq.mQ];show (0:Rat)+((if _ then (0:Rat) else 0) + -(if _ then (0:Rat) else 0)+0)=0;split<;>split<;>grind
theorem Yw(ds:List RD)(u v:Int)(b:Int):(iQ (ds++[(.pc,u,v,(1,b))])).length+bZ (ds++[(.pc,u,v,(1,b))])=(iQ ds).length+bZ ds:=by
 unfold iQ;rw[iK,filter_append,filter_cons_of_neg ⋯];simp[cT]
theorem r12{m:Nat}{p:Int}(c:1<=m)(a:0<=p)(b:p < m):R49 m (.pc,0,p,(1,2)):=
 ⟨⟨Int.le_refl 0,by show (0:Int) < m;lia,a,b,(show Mq.Low (1,2) from ⟨∅,∅⟩),λ_=>(show (0:Int) < 1 by decide),(⟨show (1:Nat) < 2 ^ 2 by decide,show (2:Nat) < 2 ^ 2 by decide⟩:Mq.Bd 2 (1,2)).mono ∅⟩,λ_=>⟨show (1:Nat) < 2 ^ 30 by decide,show (2:Nat)<=6 by decide⟩,λz=>absurd rfl z⟩
structure NSt(CN:Addr)(K:Frag)(H:Hp)(n ln r b:Addr)(us ys:vk)(m:Nat)(ds:List RD)(ss:List Mq.Q2):Prop where
 rs:RS K H r b m NP us ys ds ss
 nt:dB CN K H n ln (m:Int) ds
 sv:sv m (ds.zip ss)=true
 tp:(iQ ds).length+bZ ds<=12
 l24:ds.length<=24
theorem NSt.same(s:aS H H')(h:NSt CN K H n ln r b us ys m ds ss):NSt CN K H' n ln r b us ys m ds ss:=⟨h.rs.same s,h.nt.same s,h.sv,h.tp,h.l24⟩
theorem NSt.sI(h:NSt CN K H n ln r b us ys m ds ss):SvI K H m ds (.ref b) true:=.ls (SqL.of h.rs.eb) h.rs.F h.rs.l (λs hs=>(h.rs.dn s hs).mono ∅) h.sv
inductive Fu(K:Frag)(vs:vk)(H:Hp)(Q:VK)(E:XK):Prop where
 |mk (a:Addr) (ns:List Int):vs=[.ref a]->SqL K H a (ns.map V.int)->ns.length<=63->(∀H',Q (.bl true) H')->Fu K vs H Q E
abbrev Ey:Stmt:=top 104
theorem pS:aP ["_law_script","_law_many","_law_rows","_law_streams","_law_net_here","_law_one","_law_apart","_law_closed","_law_asked","_law_point"] ["_law_script"] (aI Ey):=sK9
theorem Fd:∀{a:List Value},W.kitAny K t a=some false->∀c∈a,W.kitOne K t c=some false
 | [],_,c,h=>by cases h
 |d :: r,e,c,h=>by
  unfold W.kitAny at e
  cases hd:W.kitOne K t d with
  |none=>rw[hd] at e;cases e
  |some b=>
   rw[hd] at e
   cases b with
   |true=>cases e
   |false=>
    rcases mem_cons.mp h with z | z
    .rw[z];exact hd
    .exact Fd e c z
theorem qj5{mg:Str->Option Value}(a:mg "NoStreams"=some (.ref n0))(h1:mg "Ring"=some (.ref n1))(h2:mg "Floats"=some (.ref n2)):∀(i:Nat)(n:Str),oNm[i]?=some n->∃c,[n0,n1,n2][i]?=some c/\mg n=some (.ref c):=λi n h=>by
 match i,h with
 |0,h=>cases h;exists 9,a
 |1,h=>cases h;exists 9,h1
 |2,h=>cases h;exists 9,h2
theorem Jc{d:List Addr}(ex:tX K C)(r:W.kitOne K (.ref C) (.type "ValueError")=some true)(hm:∀(i:Nat)(n:Str),oNm[i]?=some n->∃c,d[i]?=some c/\mg n=some (.ref c))(s:d[j]?=some C)(t:W.kitAny K (.ref C) ((d.eraseIdx j).map Value.ref)=some false)(u:∃f c1 g k l m c6 o p q,mg "Held"=some (.ref f)/\mg "Lame"=some (.ref c1)/\mg "NoName"=some (.ref g)/\mg "NoNumber"=some (.ref k)/\mg "NoPoint"=some (.ref l)/\mg "NoRoad"=some (.ref m)/\mg "NoRow"=some (.ref c6)/\mg "NoSize"=some (.ref o)/\mg "NoWord"=some (.ref p)/\mg "TooMany"=some (.ref q)/\W.kitAny K (.ref C) [.ref f,.ref c1,.ref g,.ref k,.ref l,.ref m,.ref c6,.ref o,.ref p,.ref q]=some false):OnC K mg C j:=
 ⟨ex,r,λi n h=>by
  let⟨c,a,b⟩:=hm i n h;refine⟨c,b,7⟩
  by_cases e:i=j
  .subst e;rw[s] at a;cases a;rw[decide_eq_true rfl];exact rN _ _
  .rw[decide_eq_false e];refine Fd t _ (mem_map.mpr ⟨c,7,8⟩);rw[mem_eraseIdx_iff_getElem?];exact⟨i,e,a⟩,u⟩
instance:Inhabited World:=⟨⟨λ_ _=>0,{strHash:=λ_=>0,shareClass:=id,mergeTok:=id,idOf:=λ_=>0,idOfShared:=λ_ _=>0,followText:=λ_=>true,idOfImm:=λ_=>0}⟩⟩
set_option genInjectivity false in
structure CZ where
 P:Program
 w:World
 K:Frag
 mg:Str->Option Value
 (c_Row c_Piece c_Push c_Hold c_Net c_Answer c_OhmError c_Ring c_Floats c_Held c_Lame c_NoName c_NoNumber c_NoPoint c_NoRoad c_NoRow c_NoSize c_NoWord c_TooMany c_NoStreams f1 f2 f3 f4 f5 f6 f7 f8 f9 f10 f11 f12 f13 f14 f15 f16 f17 f18 f19 f20 f21 f22 f23 f24 f25 f26 f27 f28 f29 f30 f31 f32 f33 f34 f35 f36 f37 f38 f39 f40 f41 f42 f43 f44 f45 f46 f47 f48 f49 f50 f51 f52 f53 f54 f55 f56 f57 f58 f59 f60 f61 f62 f63 f64 f65 f66 f67 f68 f69 f70 f71 f72 f73 f74 f75 f76 f77 f78 f79 f80 f81 f82 f83 f84 f85 f86 f87 f88 f89:Addr)
 (d1 d2 d3 d4 d5 d7 d8 d9 d10 d11 d12 d13 d14 d15 d16 d17 d18 d19 d20 d21 d22 d23 d24 d25 d26 d27 d28 d29 d30 d31 d32 d33 d34 d35 d36 d37 d38 d39 d41 d42 d43 d44 d45 d46 d47 d48 d49 d50 d51 d52 d53 d54 d55 d56 d57 d58 d59 d60 d61 d62 d63 d64 d65 d66 d67 d68 d69 d70 d71 d72 d73 d74 d75 d76 d77 d78 d79 d80 d81 d82 d83 d84 d85 d86 d87 d88:FuncData)
 (od6 an6:Option Addr)
 sl6:Array (Option Value)
 (oc6 kV6 dc6 pm6 cd6 ct6:Value)
 T6:Addr
 oT6:Value
 dT6:Option Addr
 nT6:Nat
 sT6:Array (Option Value)
 tk6:Tok
 (od40 an40:Option Addr)
 sl40:Array (Option Value)
 (oc40 kV40 dc40 pm40 cd40 ct40:Value)
 T40:Addr
 oT40:Value
 dT40:Option Addr
 nT40:Nat
 sT40:Array (Option Value)
 (od89 an89:Option Addr)
 sl89:Array (Option Value)
 (oc89 kV89 dc89 pm89 cd89 ct89:Value)
 (aO aN aJ:Addr)
 dJ:Option Addr
 nJ:Nat
 sJ:Array (Option Value)
 (tj0 tj1 tM tR:Tok)
 (nF qF:Str)
 NF:Addr
 bsF:List Value
 snF:List Str
 suF:List Value
 abF:Bool
 coF:Option Bool
 ddF:Option Addr
 (k0F k1F k2F k3F k5F:Option Value)
 (nE qE:Str)
 NE:Addr
 bsE:List Value
 snE:List Str
 suE:List Value
 abE:Bool
 coE:Option Bool
 ddE:Option Addr
 (k0E k1E k2E k3E k5E:Option Value)
 hdE:Bool
noncomputable instance:Inhabited CZ:=⟨by constructor<;>exact default⟩
class GZ(c:outParam CZ):Prop where
 mc_OhmError:mI9 c.mg "OhmError" c.c_OhmError
 mc_Ring:mI9 c.mg "Ring" c.c_Ring
 mc_Floats:mI9 c.mg "Floats" c.c_Floats
 mc_Held:mI9 c.mg "Held" c.c_Held
 mc_Lame:mI9 c.mg "Lame" c.c_Lame
 mc_NoName:mI9 c.mg "NoName" c.c_NoName
 mc_NoNumber:mI9 c.mg "NoNumber" c.c_NoNumber
 mc_NoPoint:mI9 c.mg "NoPoint" c.c_NoPoint
 mc_NoRoad:mI9 c.mg "NoRoad" c.c_NoRoad
 mc_NoRow:mI9 c.mg "NoRow" c.c_NoRow
 mc_NoSize:mI9 c.mg "NoSize" c.c_NoSize
 mc_NoWord:mI9 c.mg "NoWord" c.c_NoWord
 mc_TooMany:mI9 c.mg "TooMany" c.c_TooMany
 mc_NoStreams:mI9 c.mg "NoStreams" c.c_NoStreams
 i1:W.isFn c.K (.ref c.f1)=true
 F1:aV c.K "__init__" "Floats.__init__" Hw .none c.f1 c.d1
 F2:aV c.K "__init__" "Ring.__init__" Ei .none c.f2 c.d2
 m3:mI9 c.mg "is_whole" c.f3
 F3:aV c.K "is_whole" "is_whole" Ja .none c.f3 c.d3
 m4:mI9 c.mg "greatest_common" c.f4
 F4:aV c.K "greatest_common" "greatest_common" sGc .none c.f4 c.d4
 m5:mI9 c.mg "under" c.f5
 F5:aV c.K "under" "under" Ic .none c.f5 c.d5
 m6:mI9 c.mg "fraction" c.f6
 l6:c.K.lookup c.f6=some ⟨c.oc6,c.od6,.func (W.fnOf "fraction" "fraction" (fC mP) (dA mP) (aI mP) (.ref c.T6) c.kV6 c.dc6 c.pm6 c.an6 c.cd6 c.ct6),c.sl6⟩
 c6:W.codeIn c.K c.cd6 "fraction"=true
 k6:kI9 c.K c.f6
 lt6:c.K.lookup c.T6=some ⟨c.oT6,c.dT6,.seq #[.int 1 c.tk6] c.nT6,c.sT6⟩
 m7:mI9 c.mg "minus" c.f7
 F7:aV c.K "minus" "minus" Kv .none c.f7 c.d7
 m8:mI9 c.mg "plus" c.f8
 F8:aV c.K "plus" "plus" Va .none c.f8 c.d8
 F9:aV c.K "__init__" "Row.__init__" Jt .none c.f9 c.d9
 m10:mI9 c.mg "times" c.f10
 F10:aV c.K "times" "times" Ji .none c.f10 c.d10
 m11:mI9 c.mg "over" c.f11
 F11:aV c.K "over" "over" Ug .none c.f11 c.d11
 m12:mI9 c.mg "total" c.f12
 F12:aV c.K "total" "total" Ir .none c.f12 c.d12
 m13:mI9 c.mg "is_fraction" c.f13
 F13:aV c.K "is_fraction" "is_fraction" qj4 .none c.f13 c.d13
 a14_0:W.findIn c.K (.ref c.c_Piece) "word"=some (some (.ref c.f14))
 i14:W.isFn c.K (.ref c.f14)=true
 F14:aV c.K "word" "Piece.word" wF .none c.f14 c.d14
 a15_0:W.findIn c.K (.ref c.c_Push) "word"=some (some (.ref c.f15))
 i15:W.isFn c.K (.ref c.f15)=true
 F15:aV c.K "word" "Push.word" yM .none c.f15 c.d15
 a16_0:W.findIn c.K (.ref c.c_Hold) "word"=some (some (.ref c.f16))
 i16:W.isFn c.K (.ref c.f16)=true
 F16:aV c.K "word" "Hold.word" wG .none c.f16 c.d16
 a17_0:W.findIn c.K (.ref c.c_Piece) "joins"=some (some (.ref c.f17))
 i17:W.isFn c.K (.ref c.f17)=true
 F17:aV c.K "joins" "Piece.joins" tE .none c.f17 c.d17
 a18_0:W.findIn c.K (.ref c.c_Push) "joins"=some (some (.ref c.f18))
 i18:W.isFn c.K (.ref c.f18)=true
 F18:aV c.K "joins" "Push.joins" sM .none c.f18 c.d18
 a19_0:W.findIn c.K (.ref c.c_Hold) "joins"=some (some (.ref c.f19))
 i19:W.isFn c.K (.ref c.f19)=true
 F19:aV c.K "joins" "Hold.joins" sX .none c.f19 c.d19
 a20_0:W.findIn c.K (.ref c.c_Piece) "told"=some (some (.ref c.f20))
 a20_1:W.findIn c.K (.ref c.c_Push) "told"=some (some (.ref c.f20))
 a20_2:W.findIn c.K (.ref c.c_Hold) "told"=some (some (.ref c.f20))
 i20:W.isFn c.K (.ref c.f20)=true
 F20:aV c.K "told" "Row.told" Kc .none c.f20 c.d20
 m21:mI9 c.mg "row_of" c.f21
 F21:aV c.K "row_of" "row_of" Iw .none c.f21 c.d21
 a22_0:W.findIn c.K (.ref c.c_Piece) "stream"=some (some (.ref c.f22))
 i22:W.isFn c.K (.ref c.f22)=true
 F22:aV c.K "stream" "Piece.stream" qJ .none c.f22 c.d22
 a23_0:W.findIn c.K (.ref c.c_Push) "stream"=some (some (.ref c.f23))
 i23:W.isFn c.K (.ref c.f23)=true
 F23:aV c.K "stream" "Push.stream" qA .none c.f23 c.d23
 a24_0:W.findIn c.K (.ref c.c_Hold) "stream"=some (some (.ref c.f24))
 i24:W.isFn c.K (.ref c.f24)=true
 F24:aV c.K "stream" "Hold.stream" pY .none c.f24 c.d24
 m25:mI9 c.mg "is_piece_size" c.f25
 F25:aV c.K "is_piece_size" "is_piece_size" sPS .none c.f25 c.d25
 m26:mI9 c.mg "is_number_below" c.f26
 F26:aV c.K "is_number_below" "is_number_below" sNB .none c.f26 c.d26
 m27:mI9 c.mg "refuse_size" c.f27
 F27:aV c.K "refuse_size" "refuse_size" sRS .none c.f27 c.d27
 m28:mI9 c.mg "refuse_points" c.f28
 F28:aV c.K "refuse_points" "refuse_points" sRP .none c.f28 c.d28
 F29:aV c.K "__init__" "Net.__init__" Js .none c.f29 c.d29
 a30_0:W.findIn c.K (.ref c.c_Net) "many"=some (some (.ref c.f30))
 i30:W.isFn c.K (.ref c.f30)=true
 F30:aV c.K "many" "Net.many" Sw .none c.f30 c.d30
 a31_0:W.findIn c.K (.ref c.c_Net) "told"=some (some (.ref c.f31))
 F31:aV c.K "told" "Net.told" Ld .none c.f31 c.d31
 a32_0:W.findIn c.K (.ref c.c_Net) "add"=some (some (.ref c.f32))
 i32:W.isFn c.K (.ref c.f32)=true
 F32:aV c.K "add" "Net.add" qh3 .none c.f32 c.d32
 a33_0:W.findIn c.K (.ref c.c_Net) "rows"=some (some (.ref c.f33))
 i33:W.isFn c.K (.ref c.f33)=true
 F33:aV c.K "rows" "Net.rows" Tc .none c.f33 c.d33
 m34:mI9 c.mg "fall_of" c.f34
 F34:aV c.K "fall_of" "fall_of" Su .none c.f34 c.d34
 m35:mI9 c.mg "joined" c.f35
 F35:aV c.K "joined" "joined" Ek .none c.f35 c.d35
 m36:mI9 c.mg "marks_of" c.f36
 F36:aV c.K "marks_of" "marks_of" Kb .none c.f36 c.d36
 m37:mI9 c.mg "floating" c.f37
 F37:aV c.K "floating" "floating" Ky .none c.f37 c.d37
 m38:mI9 c.mg "steps_from" c.f38
 F38:aV c.K "steps_from" "steps_from" Jz .none c.f38 c.d38
 m39:mI9 c.mg "way_along" c.f39
 F39:aV c.K "way_along" "way_along" qm6 .none c.f39 c.d39
 m40:mI9 c.mg "rings" c.f40
 l40:c.K.lookup c.f40=some ⟨c.oc40,c.od40,.func (W.fnOf "rings" "rings" (fC iY) (dA iY) (aI iY) (.ref c.T40) c.kV40 c.dc40 c.pm40 c.an40 c.cd40 c.ct40),c.sl40⟩
 c40:W.codeIn c.K c.cd40 "rings"=true
 k40:kI9 c.K c.f40
 lt40:c.K.lookup c.T40=some ⟨c.oT40,c.dT40,.seq #[.none] c.nT40,c.sT40⟩
 m41:mI9 c.mg "ring_sum" c.f41
 F41:aV c.K "ring_sum" "ring_sum" Vs .none c.f41 c.d41
 m42:mI9 c.mg "raise_at" c.f42
 F42:aV c.K "raise_at" "raise_at" Iy .none c.f42 c.d42
 m43:mI9 c.mg "enter_stream" c.f43
 F43:aV c.K "enter_stream" "enter_stream" Jl .none c.f43 c.d43
 m44:mI9 c.mg "enter_piece" c.f44
 F44:aV c.K "enter_piece" "enter_piece" Dz .none c.f44 c.d44
 m45:mI9 c.mg "enter_push" c.f45
 F45:aV c.K "enter_push" "enter_push" Cf .none c.f45 c.d45
 m46:mI9 c.mg "enter_hold" c.f46
 F46:aV c.K "enter_hold" "enter_hold" Em .none c.f46 c.d46
 m47:mI9 c.mg "equations" c.f47
 F47:aV c.K "equations" "equations" qq1 .none c.f47 c.d47
 m48:mI9 c.mg "in_wholes" c.f48
 F48:aV c.K "in_wholes" "in_wholes" sIW .none c.f48 c.d48
 m49:mI9 c.mg "pivot_place" c.f49
 F49:aV c.K "pivot_place" "pivot_place" qn2 .none c.f49 c.d49
 m50:mI9 c.mg "cleared" c.f50
 F50:aV c.K "cleared" "cleared" qq9 .none c.f50 c.d50
 m51:mI9 c.mg "cleared_rows" c.f51
 F51:aV c.K "cleared_rows" "cleared_rows" xR .none c.f51 c.d51
 m52:mI9 c.mg "eliminated" c.f52
 F52:aV c.K "eliminated" "eliminated" Wp .none c.f52 c.d52
 m53:mI9 c.mg "solved" c.f53
 F53:aV c.K "solved" "solved" Ds .none c.f53 c.d53
 m54:mI9 c.mg "refuse_unanswered" c.f54
 F54:aV c.K "refuse_unanswered" "refuse_unanswered" qq4 .none c.f54 c.d54
 m55:mI9 c.mg "flows_of" c.f55
 F55:aV c.K "flows_of" "flows_of" Ki .none c.f55 c.d55
 F56:aV c.K "__init__" "Answer.__init__" Jf .none c.f56 c.d56
 a57_0:W.findIn c.K (.ref c.c_Answer) "heights"=some (some (.ref c.f57))
 i57:W.isFn c.K (.ref c.f57)=true
 F57:aV c.K "heights" "Answer.heights" Wv .none c.f57 c.d57
 a58_0:W.findIn c.K (.ref c.c_Answer) "streams"=some (some (.ref c.f58))
 i58:W.isFn c.K (.ref c.f58)=true
 F58:aV c.K "streams" "Answer.streams" Qr .none c.f58 c.d58
 a59_0:W.findIn c.K (.ref c.c_Net) "count"=some (some (.ref c.f59))
 i59:W.isFn c.K (.ref c.f59)=true
 F59:aV c.K "count" "Net.count" La .none c.f59 c.d59
 m60:mI9 c.mg "are_fractions" c.f60
 F60:aV c.K "are_fractions" "are_fractions" sAF .none c.f60 c.d60
 m61:mI9 c.mg "rests_of" c.f61
 F61:aV c.K "rests_of" "rests_of" Ij .none c.f61 c.d61
 m62:mI9 c.mg "serves" c.f62
 F62:aV c.K "serves" "serves" Er .none c.f62 c.d62
 m63:mI9 c.mg "rows_of" c.f63
 F63:aV c.K "rows_of" "rows_of" Cj .none c.f63 c.d63
 m64:mI9 c.mg "with_streams" c.f64
 F64:aV c.K "with_streams" "with_streams" Ii .none c.f64 c.d64
 m65:mI9 c.mg "held_total" c.f65
 F65:aV c.K "held_total" "held_total" Qw .none c.f65 c.d65
 m66:mI9 c.mg "pushed_total" c.f66
 F66:aV c.K "pushed_total" "pushed_total" Ih .none c.f66 c.d66
 m67:mI9 c.mg "amounts" c.f67
 F67:aV c.K "amounts" "amounts" qn0 .none c.f67 c.d67
 m68:mI9 c.mg "supplied" c.f68
 F68:aV c.K "supplied" "supplied" qq7 .none c.f68 c.d68
 m69:mI9 c.mg "_law_draw" c.f69
 F69:aV c.K "_law_draw" "_law_draw" Wd .none c.f69 c.d69
 m70:mI9 c.mg "_law_mix" c.f70
 F70:aV c.K "_law_mix" "_law_mix" Dh .none c.f70 c.d70
 m71:mI9 c.mg "_law_part" c.f71
 F71:aV c.K "_law_part" "_law_part" Vx .none c.f71 c.d71
 m72:mI9 c.mg "_law_far" c.f72
 F72:aV c.K "_law_far" "_law_far" qp2 .none c.f72 c.d72
 m73:mI9 c.mg "_law_lowest" c.f73
 F73:aV c.K "_law_lowest" "_law_lowest" Cy .none c.f73 c.d73
 m74:mI9 c.mg "_law_plus" c.f74
 F74:aV c.K "_law_plus" "_law_plus" Kz .none c.f74 c.d74
 m75:mI9 c.mg "_law_less" c.f75
 F75:aV c.K "_law_less" "_law_less" Kr .none c.f75 c.d75
 m76:mI9 c.mg "_law_number" c.f76
 F76:aV c.K "_law_number" "_law_number" Dx .none c.f76 c.d76
 m77:mI9 c.mg "_law_size" c.f77
 F77:aV c.K "_law_size" "_law_size" Rr .none c.f77 c.d77
 m78:mI9 c.mg "_law_told" c.f78
 F78:aV c.K "_law_told" "_law_told" Sy .none c.f78 c.d78
 m79:mI9 c.mg "_law_net" c.f79
 F79:aV c.K "_law_net" "_law_net" Ko .none c.f79 c.d79
 m80:mI9 c.mg "_law_drawn" c.f80
 F80:aV c.K "_law_drawn" "_law_drawn" Km .none c.f80 c.d80
 m81:mI9 c.mg "_law_joined" c.f81
 F81:aV c.K "_law_joined" "_law_joined" Ry .none c.f81 c.d81
 m82:mI9 c.mg "_law_first_ring" c.f82
 F82:aV c.K "_law_first_ring" "_law_first_ring" sFR .none c.f82 c.d82
 m83:mI9 c.mg "_law_floating" c.f83
 F83:aV c.K "_law_floating" "_law_floating" sAp .none c.f83 c.d83
 m84:mI9 c.mg "_law_refusal" c.f84
 F84:aV c.K "_law_refusal" "_law_refusal" qk4 .none c.f84 c.d84
 m85:mI9 c.mg "_law_only" c.f85
 F85:aV c.K "_law_only" "_law_only" sOn .none c.f85 c.d85
 m86:mI9 c.mg "_law_of_the_net" c.f86
 F86:aV c.K "_law_of_the_net" "_law_of_the_net" sOf .none c.f86 c.d86
 m87:mI9 c.mg "_law_let_by" c.f87
 F87:aV c.K "_law_let_by" "_law_let_by" qq3 .none c.f87 c.d87
 m88:mI9 c.mg "_law_bad" c.f88
 F88:aV c.K "_law_bad" "_law_bad" qi6 .none c.f88 c.d88
 m89:mI9 c.mg "law" c.f89
 l89:c.K.lookup c.f89=some ⟨c.oc89,c.od89,.func (W.fnOf "law" "law" (fC Ey) (dA Ey) (aI Ey) .none c.kV89 c.dc89 c.pm89 c.an89 c.cd89 c.ct89),c.sl89⟩
 c89:W.codeIn c.K c.cd89 "law"=true
 k89:kI9 c.K c.f89
 mv_ONE:mI9 c.mg "ONE" c.aO
 mv_NOUGHT:mI9 c.mg "NOUGHT" c.aN
 mv_JOINING_WORDS:mI9 c.mg "JOINING_WORDS" c.aJ
 mv_MOST_POINTS:c.mg "MOST_POINTS"=some (.int 20 c.tM)
 mv_MOST_ROWS:c.mg "MOST_ROWS"=some (.int 40 c.tR)
 lF:c.K.lookup c.c_Floats=some (excClassObj c.nF c.qF c.c_Floats c.NF c.bsF (.ref c.c_OhmError :: uV) true c.snF c.suF c.abF c.coF c.ddF c.k0F c.k1F c.k2F c.k3F c.k5F "ValueError.__new__")
 lE:c.K.lookup c.c_OhmError=some (excClassObj c.nE c.qE c.c_OhmError c.NE c.bsE uV c.hdE c.snE c.suE c.abE c.coE c.ddE c.k0E c.k1E c.k2E c.k3E c.k5E "ValueError.__new__")
 x1_NoStreams:W.excIn c.K c.c_NoStreams uV "ValueError.__new__"=true
 tF:W.kitAny c.K (.ref c.c_Floats) [.ref c.c_Held,.ref c.c_Lame,.ref c.c_NoName,.ref c.c_NoNumber,.ref c.c_NoPoint,.ref c.c_NoRoad,.ref c.c_NoRow,.ref c.c_NoSize,.ref c.c_NoWord,.ref c.c_TooMany]=some false
 tG:W.kitAny c.K (.ref c.c_Ring) [.ref c.c_Held,.ref c.c_Lame,.ref c.c_NoName,.ref c.c_NoNumber,.ref c.c_NoPoint,.ref c.c_NoRoad,.ref c.c_NoRow,.ref c.c_NoSize,.ref c.c_NoWord,.ref c.c_TooMany]=some false
 tP:W.kitAny c.K (.ref c.c_NoStreams) [.ref c.c_Held,.ref c.c_Lame,.ref c.c_NoName,.ref c.c_NoNumber,.ref c.c_NoPoint,.ref c.c_NoRoad,.ref c.c_NoRow,.ref c.c_NoSize,.ref c.c_NoWord,.ref c.c_TooMany]=some false
 oF:W.kitAny c.K (.ref c.c_Floats) [.ref c.c_NoStreams,.ref c.c_Ring]=some false
 oG:W.kitAny c.K (.ref c.c_Ring) [.ref c.c_NoStreams,.ref c.c_Floats]=some false
 oP:W.kitAny c.K (.ref c.c_NoStreams) [.ref c.c_Ring,.ref c.c_Floats]=some false
 vF:W.kitOne c.K (.ref c.c_Floats) (.type "ValueError")=some true
 vG:W.kitOne c.K (.ref c.c_Ring) (.type "ValueError")=some true
 vP:W.kitOne c.K (.ref c.c_NoStreams) (.type "ValueError")=some true
 x2_Floats:W.findIn c.K (.ref c.c_Floats) "__getattribute__"=some (some (.builtin "BaseException.__getattribute__"))
 x3_Floats:W.findIn c.K (.ref c.c_Floats) "__getattr__"=some none
 x4_Floats:W.mroIn c.K c.c_Floats (.type "BaseException")=some true
 x5_Floats:W.mroIn c.K c.c_Floats (.type "object")=some true
 x6_Floats:W.findIn c.K (.ref c.c_Floats) "__class__"=some (some (.builtin "object.__class__"))
 x7_Floats:W.specialIn c.K (.builtin "object.__class__") "__get__"=some (some (.builtin "getset_descriptor.__get__"))
 x8_Floats:W.takesIn c.K (.builtin "object.__class__")=some true
 x9_Floats:(W.clsIn c.K c.c_Floats).isSome=true
 x2_Ring:W.findIn c.K (.ref c.c_Ring) "__getattribute__"=some (some (.builtin "BaseException.__getattribute__"))
 x3_Ring:W.findIn c.K (.ref c.c_Ring) "__getattr__"=some none
 x4_Ring:W.mroIn c.K c.c_Ring (.type "BaseException")=some true
 x5_Ring:W.mroIn c.K c.c_Ring (.type "object")=some true
 x6_Ring:W.findIn c.K (.ref c.c_Ring) "__class__"=some (some (.builtin "object.__class__"))
 x7_Ring:W.specialIn c.K (.builtin "object.__class__") "__get__"=some (some (.builtin "getset_descriptor.__get__"))
 x8_Ring:W.takesIn c.K (.builtin "object.__class__")=some true
 x9_Ring:(W.clsIn c.K c.c_Ring).isSome=true
 x2_NoStreams:W.findIn c.K (.ref c.c_NoStreams) "__getattribute__"=some (some (.builtin "BaseException.__getattribute__"))
 x3_NoStreams:W.findIn c.K (.ref c.c_NoStreams) "__getattr__"=some none
 x4_NoStreams:W.mroIn c.K c.c_NoStreams (.type "BaseException")=some true
 x5_NoStreams:W.mroIn c.K c.c_NoStreams (.type "object")=some true
 x6_NoStreams:W.findIn c.K (.ref c.c_NoStreams) "__class__"=some (some (.builtin "object.__class__"))
 x7_NoStreams:W.specialIn c.K (.builtin "object.__class__") "__get__"=some (some (.builtin "getset_descriptor.__get__"))
 x8_NoStreams:W.takesIn c.K (.builtin "object.__class__")=some true
 x9_NoStreams:(W.clsIn c.K c.c_NoStreams).isSome=true
 lJ:c.K.lookup c.aJ=some ⟨.type "tuple",c.dJ,.seq #[.str "piece" c.tj0,.str "hold" c.tj1] c.nJ,c.sJ⟩
 n_len:c.mg "len"=none
 n_range:c.mg "range"=none
 n_str:c.mg "str"=none
 n_tuple:c.mg "tuple"=none
 n_list:c.mg "list"=none
 n_all:c.mg "all"=none
 n_zip:c.mg "zip"=none
 n_enumerate:c.mg "enumerate"=none
 n_ValueError:c.mg "ValueError"=none
 bl:Bl c.mg
 T:RT c.K c.mg c.c_Row (kd3 c.c_Piece c.c_Push c.c_Hold)
 fN:∀H:Hp,Fq c.K H c.aN (0,1)
 fO:∀H:Hp,Fq c.K H c.aO (1,1)
 NTx:NT c.K c.mg c.c_Net
 ABx:AB c.K c.mg c.c_Answer
 hm:∀(i:Nat)(n:Str),oNm[i]?=some n->∃(q:Addr),[c.c_NoStreams,c.c_Ring,c.c_Floats][i]?=some q ∧ c.mg n=some (.ref q)
 oc:OhC c.K c.mg c.c_NoStreams c.c_Ring c.c_Floats
 fc:FlC c.K c.c_Ring c.c_Floats
 qIF:lH c.K c.c_Floats c.c_OhmError c.f1
 qIG:lH c.K c.c_Ring c.c_OhmError c.f2
 cI:Wy c.K c.c_OhmError
 qFF:Ci c.K c.c_Floats ("points")
 qGr:Ci c.K c.c_Ring ("ring")
 qGt:Ci c.K c.c_Ring ("total")
 MK:∀k:Kd,Mk c.K (kd3 c.c_Piece c.c_Push c.c_Hold k) c.f9
 MN:Mk c.K c.c_Net c.f29
 MA:Mk c.K c.c_Answer c.f56
def OZ(c:CZ)(b:Heap):Prop:=aK c.P c.w c.K c.mg b CX0 12 c.f89 (W.fnOf ("law") ("law") (fC Ey) (dA Ey) (aI Ey) .none c.kV89 c.dc89 c.pm89 c.an89 c.cd89 c.ct89) ["_law_script"] (Fu c.K)
noncomputable def TZ:CZ×Heap:=Classical.epsilon λx=>GZ x.1/\¬OZ x.1 x.2
@[irreducible] noncomputable def Z:CZ:=TZ.1
@[irreducible] noncomputable def ZB:Heap:=TZ.2
abbrev FZ:=aK Z.P Z.w Z.K Z.mg ZB
abbrev DZ:=D9 Z.P Z.w Z.K Z.mg ZB
section
open Shp
abbrev zz3(c:CZ):Kd→Addr:=kd3 c.c_Piece c.c_Push c.c_Hold
open GZ hiding mk
variable [GZ Z]
theorem b1:aL Z.K Z.d1 ["self","points"] []:=F1.b2 "self" "points" (by intros;rfl)
theorem b2:aL Z.K Z.d2 ["self","ring","total"] []:=F2.b3 "self" "ring" "total" (by intros;rfl)
theorem F6:aV Z.K ("fraction") ("fraction") mP (.ref Z.T6) Z.f6 (W.fnOf ("fraction") ("fraction") (fC mP) (dA mP) (aI mP) (.ref Z.T6) Z.kV6 Z.dc6 Z.pm6 Z.an6 Z.cd6 Z.ct6):=vE (st:=mP) l6 c6 k6
theorem b6:aL Z.K (W.fnOf ("fraction") ("fraction") (fC mP) (dA mP) (aI mP) (.ref Z.T6) Z.kV6 Z.dc6 Z.pm6 Z.an6 Z.cd6 Z.ct6) ["top","bottom"] []:=λs a b c=>match a,c with | [_,_],_=>W.binds_K (fd:=W.fnOf "fraction" "fraction" (fC mP) (dA mP) (aI mP) (.ref Z.T6) Z.kV6 Z.dc6 Z.pm6 Z.an6 Z.cd6 Z.ct6) b rfl lt6 rfl rfl rfl
theorem bd6:aL Z.K (W.fnOf ("fraction") ("fraction") (fC mP) (dA mP) (aI mP) (.ref Z.T6) Z.kV6 Z.dc6 Z.pm6 Z.an6 Z.cd6 Z.ct6) ["top","bottom"] [.int 1 Z.tk6]:=λs a b c=>match a,(show a.length=1 by simp at c;lia) with | [_],_=>W.binds_K (fd:=W.fnOf "fraction" "fraction" (fC mP) (dA mP) (aI mP) (.ref Z.T6) Z.kV6 Z.dc6 Z.pm6 Z.an6 Z.cd6 Z.ct6) b rfl lt6 rfl rfl rfl
theorem b9:aL Z.K Z.d9 ["self","start","goal","size"] []:=F9.b4 "self" "start" "goal" "size" (by intros;rfl)
theorem b14:aL Z.K Z.d14 ["self"] []:=F14.b1 "self" (by intros;rfl)
theorem b15:aL Z.K Z.d15 ["self"] []:=F15.b1 "self" (by intros;rfl)
theorem b16:aL Z.K Z.d16 ["self"] []:=F16.b1 "self" (by intros;rfl)
theorem b17:aL Z.K Z.d17 ["self"] []:=F17.b1 "self" (by intros;rfl)
theorem b18:aL Z.K Z.d18 ["self"] []:=F18.b1 "self" (by intros;rfl)
theorem b19:aL Z.K Z.d19 ["self"] []:=F19.b1 "self" (by intros;rfl)
theorem b20:aL Z.K Z.d20 ["self"] []:=F20.b1 "self" (by intros;rfl)
theorem b22:aL Z.K Z.d22 ["self","fall","held"] []:=F22.b3 "self" "fall" "held" (by intros;rfl)
theorem b23:aL Z.K Z.d23 ["self","fall","held"] []:=F23.b3 "self" "fall" "held" (by intros;rfl)
theorem b24:aL Z.K Z.d24 ["self","fall","held"] []:=F24.b3 "self" "fall" "held" (by intros;rfl)
theorem b29:aL Z.K Z.d29 ["self","many"] []:=F29.b2 "self" "many" (by intros;rfl)
theorem b30:aL Z.K Z.d30 ["self"] []:=F30.b1 "self" (by intros;rfl)
theorem b31:aL Z.K Z.d31 ["self"] []:=F31.b1 "self" (by intros;rfl)
theorem b32:aL Z.K Z.d32 ["self","row"] []:=F32.b2 "self" "row" (by intros;rfl)
theorem b33:aL Z.K Z.d33 ["self"] []:=F33.b1 "self" (by intros;rfl)
theorem F40:aV Z.K ("rings") ("rings") iY (.ref Z.T40) Z.f40 (W.fnOf ("rings") ("rings") (fC iY) (dA iY) (aI iY) (.ref Z.T40) Z.kV40 Z.dc40 Z.pm40 Z.an40 Z.cd40 Z.ct40):=vE (st:=iY) l40 c40 k40
theorem b40:aL Z.K (W.fnOf ("rings") ("rings") (fC iY) (dA iY) (aI iY) (.ref Z.T40) Z.kV40 Z.dc40 Z.pm40 Z.an40 Z.cd40 Z.ct40) ["net","words"] []:=λs a b c=>match a,c with | [_,_],_=>W.binds_K (fd:=W.fnOf "rings" "rings" (fC iY) (dA iY) (aI iY) (.ref Z.T40) Z.kV40 Z.dc40 Z.pm40 Z.an40 Z.cd40 Z.ct40) b rfl lt40 rfl rfl rfl
theorem bd40:aL Z.K (W.fnOf ("rings") ("rings") (fC iY) (dA iY) (aI iY) (.ref Z.T40) Z.kV40 Z.dc40 Z.pm40 Z.an40 Z.cd40 Z.ct40) ["net","words"] [.none]:=λs a b c=>match a,(show a.length=1 by simp at c;lia) with | [_],_=>W.binds_K (fd:=W.fnOf "rings" "rings" (fC iY) (dA iY) (aI iY) (.ref Z.T40) Z.kV40 Z.dc40 Z.pm40 Z.an40 Z.cd40 Z.ct40) b rfl lt40 rfl rfl rfl
theorem b54:aL Z.K Z.d54 ["net"] []:=F54.b1 "net" (by intros;rfl)
theorem b56:aL Z.K Z.d56 ["self","net"] []:=F56.b2 "self" "net" (by intros;rfl)
theorem b57:aL Z.K Z.d57 ["self"] []:=F57.b1 "self" (by intros;rfl)
theorem b58:aL Z.K Z.d58 ["self"] []:=F58.b1 "self" (by intros;rfl)
theorem b59:aL Z.K Z.d59 ["self"] []:=F59.b1 "self" (by intros;rfl)
theorem b67:aL Z.K Z.d67 ["net","streams"] []:=F67.b2 "net" "streams" (by intros;rfl)
theorem b68:aL Z.K Z.d68 ["net"] []:=F68.b1 "net" (by intros;rfl)
theorem F89:aV Z.K ("law") ("law") Ey .none Z.f89 (W.fnOf ("law") ("law") (fC Ey) (dA Ey) (aI Ey) .none Z.kV89 Z.dc89 Z.pm89 Z.an89 Z.cd89 Z.ct89):=vE (st:=Ey) l89 c89 k89
theorem fJ0:∀H:Hp,SqT Z.K H Z.aJ [V.str ("piece"),V.str ("hold")]:=λH=>.inr ⟨_,_,_,lJ,8,8,(zl9 2),.cons ⟨9⟩ (.cons ⟨9⟩ .nil)⟩
theorem kP:OnC Z.K Z.mg Z.c_NoStreams 0:=Jc ⟨x2_NoStreams,x3_NoStreams,x4_NoStreams,x5_NoStreams,x6_NoStreams,x7_NoStreams,x8_NoStreams,x9_NoStreams⟩ vP hm rfl oP ⟨Z.c_Held,Z.c_Lame,Z.c_NoName,Z.c_NoNumber,Z.c_NoPoint,Z.c_NoRoad,Z.c_NoRow,Z.c_NoSize,Z.c_NoWord,Z.c_TooMany,mc_Held,mc_Lame,mc_NoName,mc_NoNumber,mc_NoPoint,mc_NoRoad,mc_NoRow,mc_NoSize,mc_NoWord,mc_TooMany,tP⟩
theorem kG:OnC Z.K Z.mg Z.c_Ring 1:=Jc ⟨x2_Ring,x3_Ring,x4_Ring,x5_Ring,x6_Ring,x7_Ring,x8_Ring,x9_Ring⟩ vG hm rfl oG ⟨Z.c_Held,Z.c_Lame,Z.c_NoName,Z.c_NoNumber,Z.c_NoPoint,Z.c_NoRoad,Z.c_NoRow,Z.c_NoSize,Z.c_NoWord,Z.c_TooMany,mc_Held,mc_Lame,mc_NoName,mc_NoNumber,mc_NoPoint,mc_NoRoad,mc_NoRow,mc_NoSize,mc_NoWord,mc_TooMany,tG⟩
theorem kF:OnC Z.K Z.mg Z.c_Floats 2:=Jc ⟨x2_Floats,x3_Floats,x4_Floats,x5_Floats,x6_Floats,x7_Floats,x8_Floats,x9_Floats⟩ vF hm rfl oF ⟨Z.c_Held,Z.c_Lame,Z.c_NoName,Z.c_NoNumber,Z.c_NoPoint,Z.c_NoRoad,Z.c_NoRow,Z.c_NoSize,Z.c_NoWord,Z.c_TooMany,mc_Held,mc_Lame,mc_NoName,mc_NoNumber,mc_NoPoint,mc_NoRoad,mc_NoRow,mc_NoSize,mc_NoWord,mc_TooMany,tF⟩
theorem R1:FZ CX0 1 Z.f1 Z.d1 ["self","points"] (Dv Z.K Z.c_Floats):=by
 refine F1.ok9 qb8 λy A u s H vs Q E B h=>?_;let⟨x,l,xs,rfl,g,k,v,q⟩:=h;exists _,(aD (bY (Im rfl mc_OhmError cI (aA (pv 0) (aA (gC kC rfl n_tuple PyProof.Rows.boot_tuple (aA (pv 1) aC)) aC)))) (aF (Yp (pv 0) (gC fY rfl n_list PyProof.Rows.boot_list (aA (pv 1) aC)) rfl))),7;exists 9,9,l,xs,8,.inl ⟨k,λt i=>?_⟩;let c:=aG i (.tup xs);let nt:t≠x:=λz=>by rw[z,g] at i;cases i
 generalize upd H t (.tup xs)=H1 at c ⊢;exists x,Z.c_Floats,Z.c_OhmError,Z.f1,none,9,c _ _ g,qIF,7;exists 9,l,xs,8,.inl (c.seq k),λd b=>?_;let j:=aG b (.lst xs);let e2:upd H1 d (.lst xs) d=some (.lst xs):=aB;let m:=c _ _ g;let n:d≠x:=λz=>by rw[z,m] at b;cases b
 generalize upd H1 d (.lst xs)=H2 at j e2 ⊢;let p:=j _ _ m;exists 9,x,Z.c_Floats,Z.c_OhmError,Z.f1,8,p,qIF,qFF,λdx a=>?_;let r:dx≠x:=λz=>by rw[z,p] at a;cases a
 let nl:d≠dx:=λz=>by rw[z] at e2;rw[e2] at a;cases a
 let f:=c.trans j;refine q dx d _ (f.free a) (c.free b) r n (λC o e w=>?_) aB ?_ ?_
 .rw[aQ w,aQ (λz=>by rw[z,f.free a] at e;cases e)];exact f _ _ e
 .rw[aQ r,aB]
 .rw[aQ n,aQ nl];exact e2
theorem R2:FZ CX0 1 Z.f2 Z.d2 ["self","ring","total"] (wC Z.K Z.c_Ring):=by
 refine F2.ok9 Rg λ_ _ _ s H _ Q E A h=>?_;let⟨x,l,B,xs,rfl,g,m,v,q⟩:=h;exists _,(aD (bY (Hu rfl mc_OhmError cI (aA (pv 0) (aA (gC kC rfl n_tuple PyProof.Rows.boot_tuple (aA (pv 1) aC)) (aA (pv 2) aC))))) (aD (Uw (pv 0) (gC fY rfl n_list PyProof.Rows.boot_list (aA (pv 1) aC)) rfl) (aF (Vd (pv 0) (pv 2) rfl)))),7;exists 9,9,l,xs,8,.inl ⟨m,λt i=>?_⟩;let d:=aG i (.tup xs);let nt:t≠x:=λz=>by rw[z,g] at i;cases i
 generalize upd H t (.tup xs)=H1 at d ⊢;exists 9,x,Z.c_Ring,Z.c_OhmError,Z.f2,none,_,9,d _ _ g,qIG,7;exists 9,l,xs,8,.inl (d.seq m),λb c=>?_;let j:=aG c (.lst xs);let e2:upd H1 b (.lst xs) b=some (.lst xs):=aB;let n:=d _ _ g;let p:b≠x:=λz=>by rw[z,n] at c;cases c
 generalize upd H1 b (.lst xs)=H2 at j e2 ⊢;let r:=j _ _ n;exists 9,x,Z.c_Ring,Z.c_OhmError,Z.f2,8,r,qIG,qGr,λdx a=>?_;let k:dx≠x:=λz=>by rw[z,r] at a;cases a
 let nl:b≠dx:=λz=>by rw[z] at e2;rw[e2] at a;cases a
 let f:=d.trans j;exists 9,9,x,Z.c_Ring,Z.c_OhmError,Z.f2,dx,"ring",.ref b,8,aB,by rw[aQ k,aB],∅,qIG,qGt,7;refine q dx b _ (f.free a) (d.free c) k p (λw o e y=>?_) ?_ aB ?_
 .let u:w≠dx:=λz=>by rw[z,f.free a] at e;cases e
  rw[aQ u,aQ y,aQ u];exact f _ _ e
 .rw[aQ (Ne.symm k),aB]
 .rw[aQ nl,aQ p,aQ nl];exact e2
theorem Y3:DZ 1 Z.f3 Z.d3 ["thing"] (pG Z.K) "is_whole":=by
 exists 7,F3.b1 _ (by intros;rfl),F3.kp,m3
 refine F3.ok9 Xg λ_ _ _ s H _ Q E a h=>?_;let⟨x,rfl,h⟩:=h;exists _,aF (aU (kR (iJ (i:=0) rfl (Or.inl rfl) bl.isi bl.int rfl rfl PyProof.Rows.boot_int) (oE (qp9 (iJ (i:=0) rfl (Or.inl rfl) bl.isi bl.bool rfl rfl PyProof.Rows.boot_bool))))),7;rcases h with ⟨i,rfl,q⟩ | ⟨t,ty,nw,q⟩
 .exists _,_,9,.of (.int i),8,9,fZ ⟨_,_,false,8,.of (.int i),(by with_unfolding_all rfl),9,q⟩
 .rcases nw with rfl | rfl | rfl | rfl | rfl
  .exists _,_,true,8,.of ty,(by with_unfolding_all rfl),9,fZ ⟨_,_,9,.of ty,8,9,q⟩
  all_goals exact⟨_,_,false,8,.of ty,(by with_unfolding_all rfl),9,gB q⟩
theorem Y4:DZ 1 Z.f4 Z.d4 ["one","other"] Tn "greatest_common":=by
 exists 7,F4.b2 _ _ (by intros;rfl),F4.kp,m4
 refine F4.ok9 qa0 λ_ _ _ s H _ Q E d h=>?_;let⟨x,y,rfl,q⟩:=h;refine⟨_,aD (xG PassesOwn.never (bH jQ (pv 1) aE (bL _)) (aD (qQ0 (i:=2) qa0.nd (aY rS (pv 0) (pv 1)))
  (aD (qQ0 (i:=0) qa0.nd (pv 1)) (aF (qQ0 (i:=1) qa0.nd (pv 2))))))
  (aF (aU (bX wR rfl bl.abs PyProof.Rows.boot_abs (aA (pv 0) aC)))),7⟩
 refine yN (λσ H'=>H'=H/\∃u v z,σ=[some (.int u),some (.int v),z]/\gc u v=gc x y) (λσ _=>match σ with | [_,some (.int v),_]=>v.natAbs | _=>0) ⟨8,x,y,none,8,8⟩ ?_ ?_
 .rintro σ H' ⟨rfl,u,v,z,rfl,e⟩;exists 9,8,9,7;refine rF (λc=>?_) (λc=>?_)
  .let a:v≠0:=by intro q;subst q;simp at c
   exists 9,9,_,9,8,a,9,9,⟨8,v,Int.fmod u v,9,(Ly u v).trans e⟩,zV a
  .let a:v=0:=by
    simp at c;exact c
   subst a;exists 9,9,7;rw[<- Ln,e];exact q
 .rintro σ H Q f m ⟨v,h1,h2,k,b,h4⟩;exists v,h1,h2,k,b,m _ _ h4
theorem Y5:DZ 1 Z.f5 Z.d5 ["one","other"] (Eu Z.K) "under":=by
 exists 7,F5.b2 _ _ (by intros;rfl),F5.kp,m5
 refine F5.ok9 qd7 λ_ _ _ s H _ Q E f h=>?_;let⟨a,b,p,q,n,m,rfl,c,d,e,bq,g,z⟩:=h;exists _,aF (aU (iA yG (aY cV (aR bC (pv 0) aE) (aR bC (pv 1) aE)) (aY cV (aR bC (pv 1) aE) (aR bC (pv 0) aE)) (bL _))),7;exact fQ rfl c (cY rfl d (cU e.a bq.b () () (fQ rfl d (cY rfl c (cU bq.a e.b () () ⟨_,9,8,z⟩)))))
theorem Y6:DZ 2 Z.f6 (W.fnOf ("fraction") ("fraction") (fC mP) (dA mP) (aI mP) (.ref Z.T6) Z.kV6 Z.dc6 Z.pm6 Z.an6 Z.cd6 Z.ct6) ["top","bottom"] hZ "fraction":=by
 exists 7,b6,F6.kp,m6
 refine F6.ok9 Kk λ_ _ _ s H _ Q E j h=>?_;let⟨t,b,n,rfl,k,m,g,q⟩:=h;refine⟨_,aD (cD (PW.pt (kU (fX (dQ (d9 Y3 j rfl (aA (pv 0) aC)))) (kU (fX (dQ (d9 Y3 j rfl (aA (pv 1) aC)))) (kN (bH eO (pv 1) aE (bL _)))))) Pc bN)
  (aD (qQ0 (i:=2) Kk.nd (d9 Y4 j rfl (aA (pv 0) (aA (pv 1) aC))))
  (aD (cD (bH yG (pv 1) aE (bL _)) (aF (qQ0 (i:=2) Kk.nd (Fo wD (pv 2)))) bN)
  (aF (aU (dD (aA (aY jN (pv 0) (pv 2)) (aA (aY jN (pv 1) (pv 2)) aC))))))),7⟩
 let d:=tS (t:=t) k;let a:Mq.B n (dvr t b):=m.le (Il k);let o:decide (V.int b=V.int 0)=false:=decide_eq_false (λz=>k (by cases z;rfl));exists 9,9,.inl ⟨t,8,9,gB ⟨9,9,.inl ⟨b,8,9,gB ⟨9,8,9,7⟩⟩⟩⟩;rw[o];refine gB ⟨9,9,t,b,8,7⟩;exists 9,_,9,8,9,7;refine rF (λc=>?_) (λc=>?_)
 .let f:b < 0:=of_decide_eq_true c;let e:dvr t b=-gc t b:=by unfold dvr;rw[if_pos f]
  rw[e] at d a;let l:mH H Q (t.fdiv (-gc t b),b.fdiv (-gc t b)):=by
   let z:=q;unfold red at z;rw[e] at z;exact z
  exists 9,9,7;exists 9,9,7;refine gR d a g ⟨9,9,gR d a g ⟨zl9 2,λp hp=>?_⟩⟩;exact l p _ (aG hp _) aB
 .let f:¬b < 0:=λz=>c (decide_eq_true z);let e:dvr t b=gc t b:=by unfold dvr;rw[if_neg f]
  rw[e] at d a;let l:mH H Q (t.fdiv (gc t b),b.fdiv (gc t b)):=by
   let z:=q;unfold red at z;rw[e] at z;exact z
  exists 9,9,7;refine gR d a g ⟨9,9,gR d a g ⟨zl9 2,λp hp=>?_⟩⟩;exact l p _ (aG hp _) aB
theorem Y7:DZ 3 Z.f7 Z.d7 ["one","other"] (fH Z.K Mq.minus) "minus":=by
 exists 7,F7.b2 _ _ (by intros;rfl),F7.kp,m7
 refine F7.ok9 Yz λ_ _ _ s H _ Q E f h=>?_;let⟨a,b,p,q,n,m,rfl,d,e,g,i,c,bq,j,z⟩:=h;refine⟨_,aF (aU (d9 Y6 f rfl (aA
  (aY kD (aY cV (aR bC (pv 0) aE) (aR bC (pv 1) aE)) (aY cV (aR bC (pv 1) aE) (aR bC (pv 0) aE)))
  (aA (aY cV (aR bC (pv 0) aE) (aR bC (pv 1) aE)) aC)))),7⟩
 refine fQ rfl d (cY rfl e (cU c.a bq.b () () (fQ rfl e (cY rfl d (cU bq.a c.b () () ⟨_,9,8,7⟩)))));refine cY rfl d (cY rfl e (cU c.b bq.b () () ⟨_,_,n+m,8,iG g i,c.b.mul bq.b,6,z⟩))
theorem Y8:DZ 3 Z.f8 Z.d8 ["one","other"] (fH Z.K Mq.plus) "plus":=by
 exists 7,F8.b2 _ _ (by intros;rfl),F8.kp,m8
 refine F8.ok9 qo1 λ_ _ _ s H _ Q E f h=>?_;let⟨a,b,p,q,n,m,rfl,d,e,g,i,c,bq,j,z⟩:=h;refine⟨_,aF (aU (d9 Y6 f rfl (aA
  (aY eK (aY cV (aR bC (pv 0) aE) (aR bC (pv 1) aE)) (aY cV (aR bC (pv 1) aE) (aR bC (pv 0) aE)))
  (aA (aY cV (aR bC (pv 0) aE) (aR bC (pv 1) aE)) aC)))),7⟩
 refine fQ rfl d (cY rfl e (cU c.a bq.b () () (fQ rfl e (cY rfl d (cU bq.a c.b () () ⟨_,9,8,7⟩)))));refine cY rfl d (cY rfl e (cU c.b bq.b () () ⟨_,_,n+m,8,iG g i,c.b.mul bq.b,6,z⟩))
theorem R9:FZ CX0 1 Z.f9 Z.d9 ["self","start","goal","size"] (Cq (zz3 Z)):=by
 refine F9.ok9 qb3 λ_ _ _ s H _ Q E c h=>?_;let⟨x,dx,k,s,g,z,rfl,a,q⟩:=h;exists _,(aD (oS (pv 0) (pv 1) rfl) (aD (oS (pv 0) (pv 2) rfl) (aF (oS (pv 0) (pv 3) rfl)))),7;let b:=fV ("start":Str) s [];let d:=fV ("goal":Str) g (fM "start" s []);simp only[length_nil] at b;exists 9,9,x,(zz3 Z) k,dx,[],8,a,T.cl k,T.nS k,(by show 0 < 1000;decide),7;exists 9,9,x,(zz3 Z) k,dx,9,aB,T.cl k,T.nG k,6,7;exists 9,9,x,(zz3 Z) k,dx,9,aB,T.cl k,T.nZ k,6,7;rw[sE,sE];exact q
theorem Y10:DZ 3 Z.f10 Z.d10 ["one","other"] (fH Z.K Mq.mU) "times":=by
 exists 7,F10.b2 _ _ (by intros;rfl),F10.kp,m10
 refine F10.ok9 Yc λ_ _ _ s H _ Q E f h=>?_;let⟨a,b,p,q,n,m,rfl,d,e,g,i,c,bq,j,z⟩:=h;refine⟨_,aF (aU (d9 Y6 f rfl (aA
  (aY cV (aR bC (pv 0) aE) (aR bC (pv 1) aE))
  (aA (aY cV (aR bC (pv 0) aE) (aR bC (pv 1) aE)) aC)))),7⟩
 refine fQ rfl d (fQ rfl e (cU c.a bq.a () () ?_));refine cY rfl d (cY rfl e (cU c.b bq.b () () ⟨_,_,n+m,8,iG g i,c.b.mul bq.b,6,z⟩))
theorem Y11:DZ 3 Z.f11 Z.d11 ["one","other"] (Co Z.K) "over":=by
 exists 7,F11.b2 _ _ (by intros;rfl),F11.kp,m11
 refine F11.ok9 qm1 λ_ _ _ s H _ Q E g h=>?_;let⟨a,b,p,q,n,m,rfl,f,c,i,j,k,d,bq,l,z⟩:=h;refine⟨_,(aD (cD (bH eO (aR bC (pv 1) aE) aE (bL _)) (aF iV) bN)
  (aF (aU (d9 Y6 g rfl (aA (aY cV (aR bC (pv 0) aE) (aR bC (pv 1) aE)) (aA (aY cV (aR bC (pv 0) aE) (aR bC (pv 1) aE)) aC)))))),7⟩
 refine fQ rfl c ⟨8,9,7⟩;rw[decide_eq_false (λe=>absurd (show q.1=0 by injection e) ())];refine gB ?_;refine fQ rfl f (cY rfl c (cU d.a bq.b () () ?_));exact cY rfl f (fQ rfl c (cU d.b bq.a () () ⟨_,_,n+m,8,Mq.uY i (),d.b.mul bq.a,6,z⟩))
theorem Y12:DZ 4 Z.f12 Z.d12 ["some"] (wY Z.K) "total":=by
 exists 7,F12.b1 _ (by intros;rfl),F12.kp,m12
 refine F12.ok9 uX λI A l s H vs Q E m h=>?_;let⟨a,xs,ps,rfl,g,j,e,z⟩:=h;let k:=e.p;refine⟨_,aD (qQ0 (i:=1) uX.nd (dL (v:=.ref Z.aN) rfl mv_NOUGHT rfl))
  (aD (dE PassesOwn.never rfl (cF (pv 0)) (qQ1 (i:=2) uX.nd) (aF (qQ0 (i:=1) uX.nd (d9 Y8 m rfl (aA (pv 1) (aA (pv 2) aC))))))
  (aF (aU (pv 1)))),7⟩
 let n:=j.length;exists 9,a,8,⟨_,g⟩,7;refine eX (xs:=xs) (λi σ H'=>aS H H'/\∃r y,σ=[some (.ref a),some (.ref r),y]/\Fq Z.K H' r (tot (ps.take i))) ⟨aS.refl H,Z.aN,none,8,fN H⟩ (λi σ H' _ h=>h.1.seq g) ?_ ?_
 .rintro i x σ H' o ⟨c,r,y,rfl,er⟩;let⟨q,p,rfl,hp,fp⟩:=j.get o;let hi:i < ps.length:=(wk.mp hp).1;let d:p∈ps:=mem_of_getElem? hp;let pt:Mq.Pos (ps.take i):=λf t=>k f (mem_of_mem_take t);let u:=e.a i;let w:=e.b p d;exists 9,9,r,q,tot (ps.take i),p,_,9,er,c.fq fp,(mI pt).pos,k p d,u,w,6,λB H1 C D=>?_;exists c.trans C,B,9,7;let F:ps.take (i+1)=ps.take i++[p]:=by rw[take_add_one,hp];rfl
  let G:tot (ps.take (i+1))=Mq.plus (tot (ps.take i)) p:=by
   rw[F];unfold tot;rw[foldl_append];rfl
  rw[G];exact Fq.of D
 .rintro σ H' ⟨c,r,y,rfl,er⟩;exists 9,7;refine z r H' c ?_;rw[n,take_length] at er;exact er
theorem Y13:DZ 2 Z.f13 Z.d13 ["thing"] (Jn Z.K) "is_fraction":=by
 exists 7,F13.b1 _ (by intros;rfl),F13.kp,m13
 refine F13.ok9 qv0 λ_ _ _ s H _ Q E a h=>?_;let⟨v,o,rfl,b,q⟩:=h;refine⟨_,(aD (cD (PW.pt (kU (fX (dQ (iJ (i:=0) rfl (Or.inl rfl) bl.isi n_tuple rfl rfl PyProof.Rows.boot_tuple))) (kN (bH jQ (bX bV rfl n_len PySem.boot_len (aA (pv 0) aC)) aE (bL _))))) (aF (aU jD)) bN)
  (aD (cD (PW.pt (kU (fX (dQ (d9 Y3 a rfl (aA (aR bC (pv 0) aE) aC)))) (kN (fX (dQ (d9 Y3 a rfl (aA (aR bC (pv 0) aE) aC))))))) (aF (aU jD)) bN)
  (aF (aU (kR (iA Vy (aR bC (pv 0) aE) aE (bL _)) (oE (iA eO (d9 Y4 a rfl (aA (aR bC (pv 0) aE) (aA (aR bC (pv 0) aE) aC))) aE (bL _)))))))),7⟩
 cases b with
 |fr fa hp=>
  exists _,_,true,8,.tup fa,8,9,gB ⟨9,_,9,.inr fa,8,9,gB ?_⟩;refine fQ rfl fa ⟨9,.inl ⟨9,9,gB (cY rfl fa ⟨9,.inl ⟨9,9,gB ?_⟩⟩)⟩⟩;let h1:=hp.pos;refine cY rfl fa ⟨_,9,8,9,ifT (decide_eq_true ()) (fQ rfl fa (cY rfl fa ⟨_,9,8,7⟩))⟩;rw[hp.one];exact q
 |ty h n=>exact⟨_,_,false,8,h,n,9,fZ q⟩
 |len h=>exact⟨_,_,true,8,.tup h,8,9,gB ⟨9,_,9,.inr h,8,9,fZ q⟩⟩
 |n0 h ty n=>
  exists _,_,true,8,.tup h,8,9,gB ⟨9,_,9,.inr h,8,9,gB ?_⟩;exists 9,_,_,0,9,8,h,8,9,.inr ⟨_,ty,n,9,fZ q⟩
 |n1 h ty n=>
  exists _,_,true,8,.tup h,8,9,gB ⟨9,_,9,.inr h,8,9,gB ?_⟩;exists 9,_,_,0,9,8,h,8,9,.inl ⟨9,9,gB ⟨9,_,_,1,9,8,h,8,9,.inr ⟨_,ty,n,9,fZ q⟩⟩⟩
 |fb fa c=>
  exists _,_,true,8,.tup fa,8,9,gB ⟨9,_,9,.inr fa,8,9,gB ?_⟩;refine fQ rfl fa ⟨9,.inl ⟨9,9,gB (cY rfl fa ⟨9,.inl ⟨9,9,gB ?_⟩⟩)⟩⟩;rcases c with c | ⟨c,d⟩
  .exact cY rfl fa ⟨_,9,8,9,ifF (decide_eq_false ()) q⟩
  .refine cY rfl fa ⟨_,9,8,9,ifT (decide_eq_true c) (fQ rfl fa (cY rfl fa ⟨_,9,8,7⟩))⟩;rw[decide_eq_false (λe=>d (by injection e))];exact q
theorem R14:FZ CX0 1 Z.f14 Z.d14 ["self"] (iZ Kd.pc):=by
 refine F14.ok9 Oq λ_ _ _ s H _ Q E a h=>?_;let⟨x,rfl,q⟩:=h;exists _,(aF (aU cC)),q
theorem R15:FZ CX0 1 Z.f15 Z.d15 ["self"] (iZ Kd.pu):=by
 refine F15.ok9 Pq λ_ _ _ s H _ Q E a h=>?_;let⟨x,rfl,q⟩:=h;exists _,(aF (aU cC)),q
theorem R16:FZ CX0 1 Z.f16 Z.d16 ["self"] (iZ Kd.ho):=by
 refine F16.ok9 Om λ_ _ _ s H _ Q E a h=>?_;let⟨x,rfl,q⟩:=h;exists _,(aF (aU cC)),q
theorem GW:∀k:Kd,aK Z.P Z.w Z.K Z.mg ZB CX0 1 (kd3 Z.f14 Z.f15 Z.f16 k) (kd3 Z.d14 Z.d15 Z.d16 k) ["self"] (iZ k):=jV (R14) (R15) (R16)
theorem bW:∀k:Kd,aL Z.K (kd3 Z.d14 Z.d15 Z.d16 k) ["self"] []:=jV (b14) (b15) (b16)
theorem mW:∀k:Kd,gG Z.K (zz3 Z k) ("word") (kd3 Z.f14 Z.f15 Z.f16 k):=jV (⟨a14_0,i14,F14.kp⟩) (⟨a15_0,i15,F15.kp⟩) (⟨a16_0,i16,F16.kp⟩)
theorem R17:FZ CX0 1 Z.f17 Z.d17 ["self"] (oU Kd.pc):=by
 refine F17.ok9 Iu λ_ _ _ s H _ Q E a h=>?_;let⟨x,rfl,q⟩:=h;exists _,(aF (aU jD)),q
theorem R18:FZ CX0 1 Z.f18 Z.d18 ["self"] (oU Kd.pu):=by
 refine F18.ok9 Ik λ_ _ _ s H _ Q E a h=>?_;let⟨x,rfl,q⟩:=h;exists _,(aF (aU jD)),q
theorem R19:FZ CX0 1 Z.f19 Z.d19 ["self"] (oU Kd.ho):=by
 refine F19.ok9 Jx λa A outer s H vs Q E b h=>?_;let⟨x,rfl,q⟩:=h;exists _,(aF (aU jD)),q
theorem GJ:∀k:Kd,aK Z.P Z.w Z.K Z.mg ZB CX0 1 (kd3 Z.f17 Z.f18 Z.f19 k) (kd3 Z.d17 Z.d18 Z.d19 k) ["self"] (oU k):=jV (R17) (R18) (R19)
theorem bJ:∀k:Kd,aL Z.K (kd3 Z.d17 Z.d18 Z.d19 k) ["self"] []:=jV (b17) (b18) (b19)
theorem mJ:∀k:Kd,gG Z.K (zz3 Z k) ("joins") (kd3 Z.f17 Z.f18 Z.f19 k):=jV (⟨a17_0,i17,F17.kp⟩) (⟨a18_0,i18,F18.kp⟩) (⟨a19_0,i19,F19.kp⟩)
theorem R20:FZ CX0 2 Z.f20 Z.d20 ["self"] (vK (zz3 Z)):=by
 refine F20.ok9 qd8 λ_ _ _ s H _ Q E b h=>?_;let⟨x,k,s,g,z,rfl,⟨dx,a⟩,q⟩:=h;exists _,(aF (aU (dD (aA (fR (pv 0) T.cl mW GW b bW .nil aM) (aA (cA (pv 0) rfl) (aA (cA (pv 0) rfl) (aA (cA (pv 0) rfl) aC))))))),7;exists 9,k,x,dx,9,a,(eJ _ _ _ ∅ ∅ ∅),9,7;exists 9,x,(zz3 Z) k,dx,_,9,a,T.cl k,T.nS k,dH _ _ _,7;exists 9,x,(zz3 Z) k,dx,_,9,a,T.cl k,T.nG k,dZ _ _ _,7;exists 9,x,(zz3 Z) k,dx,_,9,a,T.cl k,T.nZ k,eQ _ _ _,7;exists zl9 4,q
theorem mT:∀k:Kd,gG Z.K (zz3 Z k) ("told") Z.f20:=jV (⟨a20_0,i20,F20.kp⟩) (⟨a20_1,i20,F20.kp⟩) (⟨a20_2,i20,F20.kp⟩)
theorem Y21:DZ 3 Z.f21 Z.d21 ["told"] (nY Z.K (zz3 Z)) "row_of":=by
 exists 7,F21.b1 _ (by intros;rfl),F21.kp,m21
 refine F21.ok9 Li λ_ _ _ s H _ Q E c h=>?_;let⟨t,v,s,g,z,rfl,a,k,rfl,q⟩:=h;refine⟨_,(aD (qQ0 (i:=1) Li.nd (aR bC (pv 0) aE))
  (aD (cD (PW.pt (kO (dQ (iJ (i:=1) rfl (Or.inl rfl) bl.isi n_str rfl rfl PyProof.Rows.boot_str)) (jL (bH eO (pv 1) cC (bL _))))) (aF (aU (pF (MK .pc) R9 c rfl (T.mK .pc) b9 .nil aM (aA (aR bC (pv 0) aE) (aA (aR bC (pv 0) aE) (aA (aR bC (pv 0) aE) aC)))))) bN)
  (aD (cD (PW.pt (kO (dQ (iJ (i:=1) rfl (Or.inl rfl) bl.isi n_str rfl rfl PyProof.Rows.boot_str)) (jL (bH eO (pv 1) cC (bL _))))) (aF (aU (pF (MK .pu) R9 c rfl (T.mK .pu) b9 .nil aM (aA (aR bC (pv 0) aE) (aA (aR bC (pv 0) aE) (aA (aR bC (pv 0) aE) aC)))))) bN)
  (aD (cD (PW.pt (kO (dQ (iJ (i:=1) rfl (Or.inl rfl) bl.isi n_str rfl rfl PyProof.Rows.boot_str)) (jL (bH eO (pv 1) cC (bL _))))) (aF (aU (pF (MK .ho) R9 c rfl (T.mK .ho) b9 .nil aM (aA (aR bC (pv 0) aE) (aA (aR bC (pv 0) aE) (aA (aR bC (pv 0) aE) aC)))))) bN)
  (aF iV))))),7⟩
 cases k
 .refine qq5 (λ_ _=>False) (λX _=>?_) (λ_ _ h=>h.elim);exists 9,t,_,0,9,8,a,8,7;exists _,_,true,8,.of (.str _),8,9,fZ ⟨9,8,9,ifT (dX .pc .pc) ⟨9,t,_,1,s,8,8,a,8,9,t,_,2,g,8,8,a,8,9,t,_,3,z,8,8,a,8,λx dx h1 h2 b=>⟨x,dx,.pc,s,g,z,8,aB,8,by rw[sE];exact q x _ (Rw.new h1 h2 b) h1 ⟨dx,aB⟩⟩⟩⟩
 .refine aAf (λ_ _=>False) (λX _=>?_) (λ_ _ h=>h.elim);exists 9,t,_,0,9,8,a,8,7;exists _,_,true,8,.of (.str _),8,9,fZ ⟨9,8,9,ifF (dX .pu .pc) (⟨_,_,true,8,.of (.str _),8,9,fZ ⟨9,8,9,ifT (dX .pu .pu) ⟨9,t,_,1,s,8,8,a,8,9,t,_,2,g,8,8,a,8,9,t,_,3,z,8,8,a,8,λx dx h1 h2 b=>⟨x,dx,.pu,s,g,z,8,aB,8,by rw[sE];exact q x _ (Rw.new h1 h2 b) h1 ⟨dx,aB⟩⟩⟩⟩⟩)⟩
 .refine aAu (λ_ _=>False) (λX _=>?_) (λ_ _ h=>h.elim);exists 9,t,_,0,9,8,a,8,7;exists _,_,true,8,.of (.str _),8,9,fZ ⟨9,8,9,ifF (dX .ho .pc) (⟨_,_,true,8,.of (.str _),8,9,fZ ⟨9,8,9,ifF (dX .ho .pu) (⟨_,_,true,8,.of (.str _),8,9,fZ ⟨9,8,9,ifT (dX .ho .ho) ⟨9,t,_,1,s,8,8,a,8,9,t,_,2,g,8,8,a,8,9,t,_,3,z,8,8,a,8,λx dx h1 h2 b=>⟨x,dx,.ho,s,g,z,8,aB,8,by rw[sE];exact q x _ (Rw.new h1 h2 b) h1 ⟨dx,aB⟩⟩⟩⟩⟩)⟩⟩)⟩
theorem R22:FZ CX0 4 Z.f22 Z.d22 ["self","fall","held"] (tU Z.K (zz3 Z) Kd.pc):=by
 refine F22.ok9 He λ_ _ _ s H _ Q E b h=>?_;let⟨x,z,a,h,s,g,p,u,v,n,m,rfl,⟨dx,c⟩,d,e,t,hp,f,i,j,w,k,q⟩:=h;exists _,(aF (aU (d9 Y11 b rfl (aA (pv 1) (aA (cA (pv 0) rfl) aC))))),7;exists 9,9,x,(zz3 Z) .pc,dx,_,9,c,T.cl _,T.nZ _,eQ _ _ _,a,z,u,p,m,n,8,e,d,f,hp,k rfl,j,i,6,λr H1 l o=>q r H1 l (Fq.of o)
theorem R23:FZ CX0 4 Z.f23 Z.d23 ["self","fall","held"] (tU Z.K (zz3 Z) Kd.pu):=Dt (P:=Z.P) (w:=Z.w) (mg:=Z.mg) (base:=ZB) (CX:=CX0) F23 T
theorem R24:FZ CX0 4 Z.f24 Z.d24 ["self","fall","held"] (tU Z.K (zz3 Z) Kd.ho):=By (P:=Z.P) (w:=Z.w) (mg:=Z.mg) (base:=ZB) (CX:=CX0) F24 T
theorem GS:∀k:Kd,aK Z.P Z.w Z.K Z.mg ZB CX0 4 (kd3 Z.f22 Z.f23 Z.f24 k) (kd3 Z.d22 Z.d23 Z.d24 k) ["self","fall","held"] (tU Z.K (zz3 Z) k):=jV (R22) (R23) (R24)
theorem bS:∀k:Kd,aL Z.K (kd3 Z.d22 Z.d23 Z.d24 k) ["self","fall","held"] []:=jV (b22) (b23) (b24)
theorem mS:∀k:Kd,gG Z.K (zz3 Z k) ("stream") (kd3 Z.f22 Z.f23 Z.f24 k):=jV (⟨a22_0,i22,F22.kp⟩) (⟨a23_0,i23,F23.kp⟩) (⟨a24_0,i24,F24.kp⟩)
theorem X1:D9 Z.P Z.w Z.K Z.mg ZB 2 Z.f13 Z.d13 ["thing"] (Fx Z.K) "is_fraction":=⟨yK Y13.G,Y13.b,F13.kp,m13⟩
theorem Y25:DZ 3 Z.f25 Z.d25 ["thing"] (qp3 Z.K) "is_piece_size":=by
 exists 7,F25.b1 _ (by intros;rfl),F25.kp,m25
 refine F25.ok9 aBa λ_ _ _ s H _ Q E b h=>?_;let⟨a,p,n,rfl,c,hp,f,d,g,q⟩:=h;let e:=b.mono (show 1<=2 by lia);exists _,(aF (aU (kR (d9 X1 b rfl (aA (pv 0) aC)) (oE (d9 Y5 e rfl (aA (dL (v:=.ref Z.aN) rfl mv_NOUGHT rfl) (aA (pv 0) aC))))))),7;exists 9,a,p,8,c,hp,9,fZ ⟨9,Z.aN,a,_,p,1,n,8,fN _,c,⟨show (0:Nat) < 2 ^ 1 by decide,show (1:Nat) < 2 ^ 1 by decide⟩,d,6,7⟩;rw[decide_eq_true (show (0:Int)*p.2 < p.1*1 by lia)];exact q
theorem Y26:DZ 2 Z.f26 Z.d26 ["thing","bound"] qn4 "is_number_below":=by
 exists 7,F26.b2 _ _ (by intros;rfl),F26.kp,m26
 refine F26.ok9 aAj λ_ _ _ s H _ Q E a h=>?_;let⟨i,b,rfl,c,h1,q⟩:=h;exists _,(aF (aU (kR (d9 Y3 a rfl (aA (pv 0) aC)) (kR (iA Vy (pv 0) aE (bL _)) (oE (iA yG (pv 0) (pv 1) (bL _))))))),7;exists 9,9,.inl ⟨i,8,9,fZ ⟨9,_,9,8,9,ifT (decide_eq_true c) ⟨9,9,_,9,8,7⟩⟩⟩;show Q (.bl (decide (i < b))) H;rw[decide_eq_true h1];exact q
theorem Y27:DZ 4 Z.f27 Z.d27 ["word","size"] (qk9 Z.K) "refuse_size":=by
 exists 7,F27.b2 _ _ (by intros;rfl),F27.kp,m27
 refine F27.ok9 aAp λ_ _ _ s H _ Q E a h=>?_;let⟨k,z,p,rfl,b,hp,c,d,q⟩:=h;let e:=a.mono (show 2<=3 by lia);refine⟨_,(aD (cD (fX (dQ (d9 X1 e rfl (aA (pv 1) aC)))) (aF iV) bN)
  (aF (cD (PW.pt (kO (bH eO (pv 0) cC (bL _)) (jL (fX (dQ (d9 Y25 a rfl (aA (pv 1) aC))))))) (aF iV) bN))),7⟩
 exists 9,z,p,8,b,hp,9,gB ?_
 cases k
 .exists 9,8,9,ifT (dX .pc .pc) ⟨9,z,p,9,b,hp,c rfl,d,6,9,gB q⟩
 .exists 9,8,9,ifF (dX .pu .pc) (gB q)
 .exists 9,8,9,ifF (dX .ho .pc) (gB q)
theorem Y28:DZ 3 Z.f28 Z.d28 ["some","many"] (qj1 Z.K) "refuse_points":=by
 exists 7,F28.b2 _ _ (by intros;rfl),F28.kp,m28
 refine F28.ok9 aAt λ_ _ _ s H _ Q E f h=>?_;let⟨l,i,j,m,rfl,b,g,i1,o,p,q⟩:=h;refine⟨_,(aF (cD (fX (dQ (bX (rH rfl) rfl n_all PyProof.Rows.boot_all (aA (dM (nl:=1) (fr:=[1]) (Nc:=["point","many"]) (cl:=[("many",s.heap.objs.size+1)]) rfl ⟨8,8,∅,∅,λx c h=>h,dY rfl,8,λi n h=>match i,h with | 0,h=>by cases h;exact⟨1,8,8,8,8,.inl rfl⟩ | k+1,h=>by rw[show 1+(k+1)=k+2 by lia] at h;cases h⟩
    (cF (pv 0)) (λ_ _ _ _ _=>(qQ1 (i:=0) zG)) (λ_ _ _ _ _=>eU)
    (λ_ _ _ _ _=>(d9 Y26 f rfl (aA (pv 0) (aA (pv 1) aC))))) aC)))) (aF iV) bN)),7⟩
 exists 9,l,8,⟨_,b⟩,λD d=>?_;refine clS d (xs:=[.int i,.int j]) (λk zs H'=>zs=(replicate k true).map V.bl) rfl (λ_ h=>h.seq b) ?_ ?_
 .rintro k zs x H1 e ⟨s1,a,rfl⟩ C r;let v:k < 2:=(wk.mp e).1;obtain⟨y,rfl,t,u⟩:∃y,x=.int y/\0<=y/\y < m:=by
   rcases mem_cons.mp (mem_of_getElem? e) with z | z
   .exists i,z,g,i1
   .exists j,by simpa using z,o,p
  exists dU.1,dU.2,fZ ?_;exists 9,9,y,m,8,t,u,a,aZ (by rw[length_map,length_replicate];lia),r _ _ ⟨s1.change d,aB,7⟩;rw[replicate_succ',map_append];rfl
 .rintro zs H1 ⟨s1,a,rfl⟩;exists D,9,SqL.of a,9,ifF ?_ ?_
  .simp
  .exact q _ s1
theorem R29:FZ CX0 2 Z.f29 Z.d29 ["self","many"] (Cr Z.c_Net):=by
 refine F29.ok9 qc5 λ_ _ _ s H _ Q E f h=>?_;let⟨n,dx,m,rfl,g,h1,j,q⟩:=h;refine⟨_,(aD (cD (PW.pt (kU (fX (dQ (d9 Y3 f rfl (aA (pv 1) aC)))) (kU (bH yG (pv 1) aE (bL _)) (kN (bH Gz (pv 1) (dL (v:=.int 20) rfl mv_MOST_POINTS ⟨9⟩) (bL _)))))) (aF iV) bN)
  (aD (oS (pv 0) (pv 1) rfl)
  (aF (oS (pv 0) (cS aC) rfl)))),7⟩
 exists 9,9,.inl ⟨m,8,9,gB ⟨9,_,9,8,9,ifF (decide_eq_false ()) ⟨9,_,9,8,9,ifF (decide_eq_false ()) ?_⟩⟩⟩;exists 9,9,n,Z.c_Net,dx,[],8,g,NTx.cl,NTx.nP,(by show 0 < 1000;decide),7;exists zl9 0,λl a=>?_;let nl:n≠l:=λz=>by subst z;rw[aB] at a;cases a
 let c:H l=none:=by rw[aQ (Ne.symm nl)] at a;exact a
 let i:=fV ("point_count":Str) (.int m) [];simp only[length_nil] at i;exists 9,n,Z.c_Net,dx,fM "point_count" (.int m) [],8,by rw[aQ nl];exact aB,NTx.cl,NTx.nK,(),?_;refine q l _ c (λb o e d=>?_) aB (by rw[aQ (Ne.symm nl)];exact aB);rw[aQ d,aQ (bA e c),aQ d];exact e
theorem R30:FZ CX0 1 Z.f30 Z.d30 ["self"] (tN Z.c_Net Z.K):=by
 refine F30.ok9 qg9 λ_ _ _ s H _ Q E c h=>?_;let⟨n,l,m,ds,rfl,⟨⟨dx,a⟩,ts,d,b⟩,q⟩:=h;exists _,(aF (aU (cA (pv 0) rfl))),9,n,Z.c_Net,dx,_,9,a,NTx.cl,NTx.nP,Ge _ _,q
theorem R31:FZ CX0 1 Z.f31 Z.d31 ["self"] (Ny Z.c_Net Z.K):=by
 refine F31.ok9 Yu λ_ _ _ s H _ Q E g h=>?_;let⟨n,l,m,ds,rfl,⟨⟨dx,e⟩,ts,f,b⟩,q⟩:=h;exists _,(aF (aU (gC fY rfl n_list PyProof.Rows.boot_list (aA (cA (pv 0) rfl) aC)))),9,n,Z.c_Net,dx,_,9,e,NTx.cl,NTx.nK,iO _ _,l,ts,8,.inl (SqL.of f),λa c=>?_;let d:=aG c (.lst ts);exact q a ts _ d c aB (b.same d)
theorem R32:FZ CX0 5 Z.f32 Z.d32 ["self","row"] (Lv Z.c_Net Z.K (zz3 Z)):=by
 refine F32.ok9 qg1 λ_ _ _ s H _ Q E r h=>?_;let⟨n,l,x,z,m,ds,k,i,j,p,rfl,⟨⟨dx,D⟩,ts,G,u⟩,rw,w,⟨I,i1,J,L,M,N,O⟩,a0,q⟩:=h;let P:=r.mono (show 2<=4 by lia);let R:=r.mono (show 3<=4 by lia);refine⟨_,(aD (qQ0 (i:=2) qg1.nd (fR (f:=λ_=>Z.f20) (fd:=λ_=>Z.d20) (sp:=λ_=>vK (zz3 Z)) (pv 1) T.cl mT (λ_=>R20) P (λ_=>b20) .nil aM))
  (aD (bY (d9 Y28 R rfl (aA (cS (aA (aR bC (pv 2) aE) (aA (aR bC (pv 2) aE) aC))) (aA (cA (pv 0) rfl) aC))))
  (aD (bY (d9 Y27 r rfl (aA (aR bC (pv 2) aE) (aA (aR bC (pv 2) aE) aC))))
  (aD (cD (bH Vy (bX bV rfl n_len PySem.boot_len (aA (cA (pv 0) rfl) aC)) (dL (v:=.int 40) rfl mv_MOST_ROWS ⟨9⟩) (bL _)) (aF iV) bN)
  (aD (bY (iS PySem.F.plainAttrs_list PySem.F.slot_list_append PySem.F.type_list_append dG (cA (pv 0) rfl) (aA (pv 2) aC)))
  (aF (aU (aY kD (bX bV rfl n_len PySem.boot_len (aA (cA (pv 0) rfl) aC)) aE)))))))),7⟩
 let⟨S,U⟩:=id rw;let len:=u.length;exists 9,k,x,S,9,U,(eJ _ _ _ ∅ ∅ ∅),x,k,_,_,9,rw,λt W=>?_;let⟨y,e,st,c⟩:=nw W (.tup [.str k.wd,.int i,.int j,.ref z]);rw[e];let c:SqT Z.K y t [.str k.wd,.int i,.int j,.ref z]:=SqT.of c;let a:=st _ _ D;let b:=st _ _ G;exists 9,t,_,1,9,8,c,8,9,t,_,2,9,8,c,8,zl9 2,λX A=>?_;let⟨a1,e,B,Y⟩:=nw A (.lst [.int i,.int j]);rw[e];let C:=B _ _ a;exists 9,n,Z.c_Net,dx,_,9,C,NTx.cl,NTx.nP,Ge _ _,X,i,j,m,8,SqL.of Y,I,i1,J,L,λH1 sc=>?_;let d:=B.trans sc;let st:=st.trans d;let c:=d.seqT c;let a:=d _ _ a;let b:=d _ _ b;exists 9,t,_,0,9,8,c,8,9,t,_,3,9,8,c,8,k,z,p,8,st.fq w,M,N,O,7;exists 9,n,Z.c_Net,dx,_,9,a,NTx.cl,NTx.nK,iO _ _,l,ts,8,.inl (SqL.of b),_,9,8,9,ifF (decide_eq_false ()) ?_;exists 9,n,Z.c_Net,dx,_,9,a,NTx.cl,NTx.nK,iO _ _,.inl ⟨8,_,SqL.of b⟩,9,l,ts,.ref t,8,8,b,aZ (),7;let nn:n≠l:=gV a b (λz=>by cases z);let g:upd H1 l (.lst (ts++[.ref t])) n=some (.ins Z.c_Net dx (pO m l)):=by rw[aQ nn];exact a
 let o:upd H1 l (.lst (ts++[.ref t])) l=some (.lst (ts++[.ref t])):=aB;exists 9,n,Z.c_Net,dx,_,9,g,NTx.cl,NTx.nK,iO _ _,l,9,.inl (SqL.of o),_,9,8,7;show Q (.int (((ts++[V.ref t]).length:Int) - 1)) _;rw[wq,length_singleton,len,show (((ds.length+1:Nat):Int) - 1)=(ds.length:Int) by lia];refine q _ (st.x.write) ⟨⟨dx,g⟩,_,o,Rts.upd b ((u.same st).app (.cons c (st.fq w) .nil))⟩
theorem R33:FZ CX0 4 Z.f33 Z.d33 ["self"] (kI Z.c_Net Z.K (zz3 Z)):=by
 refine F33.ok9 qr0 λ_ _ _ s H _ Q E A h=>?_;let⟨n,l,m,ds,rfl,⟨⟨dx,B⟩,ts,j,o⟩,F,q⟩:=h;refine⟨_,(aF (aU (dM (nl:=1) (fr:=[]) (Nc:=["told"]) (cl:=[]) rfl ⟨8,8,∅,∅,λx c h=>(by cases h),dY rfl,8,λi n h=>(by simp at h)⟩
    (cF (cA (pv 0) rfl)) (λ_ _ _ _ _=>(qQ1 (i:=0) Yt)) (λ_ _ _ _ _=>eU)
    (λ_ _ _ _ _=>(d9 Y21 A rfl (aA (pv 0) aC)))))),7⟩
 let len:=o.length;exists 9,n,Z.c_Net,dx,_,9,B,NTx.cl,NTx.nK,iO _ _,l,8,⟨_,SqL.of j⟩,λD e=>?_;refine clS e (xs:=ts) (λi zs H'=>gZ (zz3 Z) Z.K H' zs (ds.take i)) .nil (λ_ h=>h.seq (SqL.of j)) ?_ ?_
 .rintro i zs x H1 f ⟨a,g,R1⟩ C G;let hi:i < ds.length:=by
   have:=(wk.mp f).1;lia
  obtain⟨⟨k,u,v,p⟩,r⟩:∃d,ds[i]?=some d:=⟨_,getElem?_eq_getElem hi⟩
  let⟨t,z,I,J,L⟩:=o.at r;let ex:x=.ref t:=by rw[I] at f;exact(Option.some.inj f).symm
  subst ex;let M:=R1.length;rw[length_take] at M;exists dU.1,dU.2,fZ ?_;exists 9,t,_,_,_,9,a.seqT J,k,8,λy H2 b N rw=>?_;let w:=b _ _ g;exists w,aZ (),G _ _ ⟨(a.trans b).change e,aB,7⟩;rw[take_add_one,r];exact gZ.upd w ((R1.same b).app (.cons rw ((a.trans b).fq L) .nil))
 .rintro zs H1 ⟨a,g,R1⟩;rw[len,take_length] at R1;exact q D zs H1 a e g R1
theorem Y34:DZ 4 Z.f34 Z.d34 ["row","heights"] (vL Z.K (zz3 Z)) "fall_of":=by
 exists 7,F34.b2 _ _ (by intros;rfl),F34.kp,m34
 refine F34.ok9 qi5 λF A o s H vs Q E r h=>?_;let⟨x,a,⟨k,i,j,p⟩,z,xs,hp,n,rfl,rw,st,pt,q⟩:=h;exists _,(aF (aU (d9 Y7 r rfl (aA (aR bK (pv 1) (cA (pv 0) rfl)) (aA (aR bK (pv 1) (cA (pv 0) rfl)) aC))))),7;let⟨dx,c⟩:=id rw;obtain⟨G,i1,I,J⟩:cO (n:Int) i j:=pt;let L:=st.l;let d:=lQ (ps:=hp) (j:=i.toNat) ();let e:=lQ (ps:=hp) (j:=j.toNat) ();let⟨u,t,w⟩:=st.f.at d;let⟨v,y,B⟩:=st.f.at e;let C:atI xs i=some (.ref u):=by
  have:=bM t
  rwa [show ((i.toNat:Nat):Int)=i by lia] at this
 let D:atI xs j=some (.ref v):=by
  have:=bM y
  rwa [show ((j.toNat:Nat):Int)=j by lia] at this
 exists 9,9,x,(zz3 Z) _,_,_,9,c,T.cl _,T.nS _,dH _ _ _,a,xs,_,9,8,st.s,C,7;exists 9,9,x,(zz3 Z) _,_,_,9,c,T.cl _,T.nG _,dZ _ _ _,a,xs,_,9,8,st.s,D,7;let g:=st.b _ (mem_of_getElem? d);let m:=st.b _ (mem_of_getElem? e);exists u,v,_,_,3900,3900,8,w,B,g.1.pos,m.1.pos,g.2,m.2,6,q
theorem Y35:DZ 1 Z.f35 Z.d35 ["marks","row"] (yX Z.K (zz3 Z)) "joined":=by
 exists 7,F35.b2 _ _ (by intros;rfl),F35.kp,m35
 refine F35.ok9 xZ λ_ _ _ s H _ Q E A h=>?_;let⟨a,x,b,k,e,d,z,rfl,f,rw,hs,w,y,q⟩:=h;refine⟨_,(aD (aT (i:=2) xZ.nd rfl (Or.inr rfl) (aR bK (pv 0) (cA (pv 1) rfl)))
  (aD (aT (i:=3) xZ.nd rfl (Or.inr rfl) (aR bK (pv 0) (cA (pv 1) rfl)))
  (aF (aU (dM (nl:=1) (fr:=[3,2]) (Nc:=["mark","lost","kept"]) (cl:=[("lost",s.heap.objs.size+2),("kept",s.heap.objs.size+1)]) rfl ⟨8,8,∅,∅,(fL rfl (fL rfl (qQ))),dY rfl,8,λi n h=>match i,h with | 0,h=>by cases h;exact⟨3,8,8,8,8,.inl rfl⟩ | 1,h=>by cases h;exact⟨2,8,8,8,8,.inl rfl⟩ | k+2,h=>by rw[show 1+(k+2)=k+3 by lia] at h;cases h⟩
    (cF (pv 0)) (λ_ _ _ _ _=>(qQ1 (i:=0) rT)) (λ_ _ _ _ _=>eU)
    (λ_ _ _ _ _=>(nX (bH eO (pv 0) (pv 1) (bL _)) (pv 2) (pv 0)))))))),7⟩
 let⟨dx,p⟩:=id rw;let r:∀{j:Nat},j < b.length->atI (b.map V.int) (j:Int)=some (.int (b.getD j 0)):=λh=>bM (by rw[getElem?_map,getElem?_eq_getElem h,getD_eq_getElem?_getD,getElem?_eq_getElem h];rfl);exists 9,9,x,(zz3 Z) _,_,_,9,p,T.cl _,T.nS _,dH _ _ _,a,_,_,9,8,f,r hs,7;exists 9,9,x,(zz3 Z) _,_,_,9,p,T.cl _,T.nG _,dZ _ _ _,a,_,_,9,8,f,r w,7;exists 9,a,8,⟨_,f⟩,λD g=>?_;refine clS g (xs:=b.map V.int) (λi zs H'=>zs=((jn b e d).take i).map V.int) rfl (λ_ h=>h.seq f) ?_ ?_
 .rintro i zs x H1 o ⟨l,e1,rfl⟩ C t;rw[getElem?_map] at o;let⟨c,u,rfl⟩:=Option.map_eq_some_iff.mp o;let hi:i < b.length:=(wk.mp u).1;let m:(jn b e d)[i]?=some (if c=b.getD d 0 then b.getD e 0 else c):=by unfold jn;rw[getElem?_map,u];rfl
  let v:(jn b e d).length=b.length:=by unfold jn;rw[length_map]
  exists dU.1,dU.2,fZ ?_;exists 9,9,8,9,7
  by_cases h:c=b.getD d 0
  .rw[if_pos h] at m;refine ifT (decide_eq_true (by rw[h])) ⟨9,e1,aZ (by rw[length_map,length_take];lia),t _ _ ⟨l.change g,aB,7⟩⟩;rw[take_add_one,m,map_append];rfl
  .rw[if_neg h] at m;refine ifF (decide_eq_false (λz=>h (by injection z))) ⟨9,e1,aZ (by rw[length_map,length_take];lia),t _ _ ⟨l.change g,aB,7⟩⟩;rw[take_add_one,m,map_append];rfl
 .rintro zs H1 ⟨l,e1,rfl⟩;let v:(jn b e d).length=b.length:=by unfold jn;rw[length_map]
  rw[length_map,<- v,take_length] at e1;exact q D H1 l g e1
theorem X2:gG Z.K Z.c_Net "many" Z.f30:=⟨a30_0,i30,F30.kp⟩
theorem X3:gG Z.K Z.c_Net "rows" Z.f33:=⟨a33_0,i33,F33.kp⟩
theorem Y36:DZ 5 Z.f36 Z.d36 ["net"] (Ed Z.c_Net Z.K) "marks_of":=by
 exists 7,F36.b1 _ (by intros;rfl),F36.kp,m36
 refine F36.ok9 vO λ_ _ _ s H _ Q E A h=>?_;let⟨n,l,m,ds,rfl,nt,pt,hm,g,q⟩:=h;let j:=A.mono (show 1<=4 by lia);refine⟨_,(aD (qQ0 (i:=1) vO.nd (mE rfl rfl n_list rfl n_range (aA (eI (pv 0) NTx.cl X2 R30 j b30 .nil aM) aC)))
  (aD (dE PassesOwn.never rfl (cF (eI (pv 0) NTx.cl X3 R33 A b33 .nil aM)) (qQ1 (i:=2) vO.nd)
   (aF (cD (dQ (fR (pv 2) T.cl mJ GJ j bJ .nil aM)) (aF (qQ0 (i:=1) vO.nd (d9 Y35 j rfl (aA (pv 1) (aA (pv 2) aC))))) bN)))
  (aF (aU (pv 1))))),7⟩
 let⟨dx,B⟩:=nt.ob;exists 9,n,dx,9,B,eE _ _ ∅ ∅,n,l,_,ds,8,nt,m,8,6,λD C=>?_;let b:=aG C (.lst ((List.range m).map λ(i:Nat)=>V.int (i:Int)));let F:upd H D (.lst ((List.range m).map λ(i:Nat)=>V.int (i:Int))) D=some (.lst ((mks m (ds.take 0)).map V.int)):=by
  rw[aB];show some (HO.lst _)=some (HO.lst ((Pg m).map V.int));unfold Pg;rw[map_map];rfl
 generalize upd H D (.lst ((List.range m).map λ(i:Nat)=>V.int (i:Int)))=H1 at b F ⊢;exists 9,n,dx,9,b _ _ B,eE _ _ ∅ ∅,n,l,_,ds,8,nt.same b,g,λa xs H2 o X G I=>?_;let J:=I.length;exists a,8,⟨_,SqL.of G⟩,7;refine eX (xs:=xs) (λi σ H'=>aS H2 H'/\∃(c:Addr)(z:Option V),σ=[some (.ref n),some (.ref c),z]/\H c=none/\H' c=some (.lst ((mks m (ds.take i)).map V.int))) ⟨aS.refl _,D,none,8,C,o _ _ F⟩ (λi σ H' _ h=>h.1.seq (SqL.of G)) ?_ ?_
 .rintro i x σ H3 r ⟨s3,c,z,rfl,t,ec⟩;let hi:i < ds.length:=by
   have:=(wk.mp r).1;lia
  obtain⟨⟨k,u,v,p⟩,w⟩:∃d,ds[i]?=some d:=⟨_,getElem?_eq_getElem hi⟩
  let⟨y,O,P,rw,Y⟩:=I.at w;let ex:x=.ref y:=by rw[P] at r;exact(Option.some.inj r).symm
  subst ex;let f:=rw.same s3;let⟨R,S⟩:=id f;let L:ds.take (i+1)=ds.take i++[(k,u,v,p)]:=by rw[take_add_one,w];rfl
  obtain⟨u0,u1,v0,v1⟩:cO (m:Int) u v:=pt _ (mem_of_getElem? w);exists 9,k,y,R,9,S,(eJ _ _ _ ∅ ∅ ∅),9,9,7
  by_cases e:k=.pu
  .refine ifF (decide_eq_false (λz=>z e)) ⟨s3,c,9,t,7⟩;rw[L,lL];unfold iM;rw[if_pos e];exact ec
  .refine ifT (decide_eq_true e) ⟨9,9,c,y,mks m (ds.take i),k,u.toNat,v.toNat,.ref O,8,SqL.of ec,7,by rw[hJ];lia,by rw[hJ];lia,by rw[hJ];lia,λU H4 W M N=>⟨s3.trans W,U,9,7,7⟩⟩
   .rw[show ((u.toNat:Nat):Int)=u by lia,show ((v.toNat:Nat):Int)=v by lia];exact f
   .exact((b.trans o).trans s3).free M
   .rw[L,lL];unfold iM;rw[if_neg e];exact N
 .rintro σ H3 ⟨s3,c,z,rfl,t,ec⟩;rw[show ds.take xs.length=ds by rw[J,take_length]] at ec;exists 9,q c H3 ((b.trans o).trans s3) t ec
theorem Y37:DZ 6 Z.f37 Z.d37 ["net"] (Bw Z.c_Net Z.K) "floating":=by
 exists 7,F37.b1 _ (by intros;rfl),F37.kp,m37
 refine F37.ok9 Ms λ_ _ _ s H _ Q E A h=>?_;let⟨n,l,m,ds,rfl,nt,pt,h1,hm,b,q⟩:=h;refine⟨_,(aD (aT (i:=1) Ms.nd rfl (Or.inr rfl) (d9 Y36 A rfl (aA (pv 0) aC)))
  (aF (aU (dM (nl:=2) (fr:=[1]) (Nc:=["point","mark","marks"]) (cl:=[("marks",s.heap.objs.size+1)]) (g:=(Dc Z.K 2 (iU (gX 0) (iU (gX 1) Dy)))) rfl ⟨8,8,∅,∅,λx c h=>h,dY rfl,8,λi n h=>match i,h with | 0,h=>by cases h;exact⟨1,8,8,8,8,.inl rfl⟩ | k+1,h=>by rw[show 2+(k+1)=k+3 by lia] at h;cases h⟩
    (Ea rfl n_enumerate rfl (aA (pv 1) aC)) (λ_ _ _ _ _=>(gW rfl (bU (qQ1 (i:=0) jE) (bU (qQ1 (i:=1) jE) fK)))) (λ_ _ _ _ _=>(lV (bH jQ (pv 1) (aR (iT (K:=Z.K) rfl) (pv 2) aE) (bL _))))
    (λ_ _ _ _ _=>(pv 0)))))),7⟩
 exists 9,n,l,m,ds,8,nt,pt,hm,b,λM H1 t L B=>?_;let d:=hJ m ds;let e:SqL Z.K H1 M ((mks m ds).map V.int):=SqL.of B;exists 9,M,8,⟨_,e⟩,λD f=>?_;let F:=aG f (.lst []);refine Ax (xs:=(mks m ds).map V.int) (λi zs H'=>aS H1 H'/\H' D=some (.lst zs)/\zs=(((List.range i).filter λp=>decide (mk m ds p≠mk m ds 0)).map λ(p:Nat)=>V.int (p:Int))) ⟨F,aB,8⟩ (λi zs H' h=>h.2.1) (λi zs H' _ h=>h.1.seq e) ?_ ?_
 .rintro i zs x H2 u v ⟨o,a,rfl⟩ G C w;rw[getElem?_map] at v;let⟨c,y,rfl⟩:=Option.map_eq_some_iff.mp v;let hi:i < m:=by have:=(wk.mp y).1;lia
  let I:c=mk m ds i:=by unfold mk;rw[getD_eq_getElem?_getD,y];rfl
  let J:atI ((mks m ds).map V.int) 0=some (.int (mk m ds 0)):=bM (j:=0) (by unfold mk;rw[getElem?_map,getElem?_eq_getElem (),getD_eq_getElem?_getD,getElem?_eq_getElem ()];rfl);let N:(((List.range i).filter λp=>decide (mk m ds p≠mk m ds 0)).map λ(p:Nat)=>V.int (p:Int)).length<=20:=by
   rw[length_map];have:=length_filter_le (λp=>decide (mk m ds p≠mk m ds 0)) (List.range i);rw[length_range] at this;lia
  let r:=aG G (.tup [.int (i:Int),.int c]);exists u,9,SqT.of aB,8,_,9,_,9,8,jC.1,jC.2,7;generalize upd H2 u (.tup [.int (i:Int),.int c])=H3 at r ⊢;let s3:=o.trans r;let z:=r _ _ a;exists 9,9,M,_,_,9,8,s3.seq e,J,8,9,7;subst I
  by_cases h:mk m ds i=mk m ds 0
  .refine ifF (by rw[h];simp) (w _ _ ⟨s3,z,7⟩);rw[range_succ,filter_append,filter_cons_of_neg (by simp[h])];simp
  .refine ifT (by simp[h]) ⟨9,z,aZ (),w _ _ ⟨s3.change f,aB,7⟩⟩;rw[range_succ,filter_append,filter_cons_of_pos (by simp[h]),map_append];rfl
 .rintro zs H2 ⟨o,a,rfl⟩;refine q D H2 (t.trans o) (t.free f) ?_;rw[length_map,d] at a;rw[a];unfold cZ;rw[map_map];rfl
theorem Y38:DZ 1 Z.f38 Z.d38 ["rows","numbers","point"] (Du Z.K (zz3 Z)) "steps_from":=by
 exists 7,F38.b3 _ _ _ (by intros;rfl),F38.kp,m38
 refine F38.ok9 vQ λ_ _ _ s H _ Q E hr h=>?_;let⟨a,b,xs,ds,es,p,rfl,Y,Rb,O,hE,a0,q⟩:=h;refine⟨_,(aD (qQ0 (i:=3) vQ.nd (cS aC))
  (aD (dE PassesOwn.never rfl (cF (pv 1)) (qQ1 (i:=4) vQ.nd)
   (aD (qQ0 (i:=5) vQ.nd (aR bK (pv 0) (pv 4)))
  (aF (cD (bH eO (cA (pv 5) rfl) (pv 2) (bL _)) (aF (bY (iS PySem.F.plainAttrs_list PySem.F.slot_list_append PySem.F.type_list_append dG (pv 3) (aA (dD (aA (dD (aA (pv 4) (aA aE aC))) (aA (cA (pv 5) rfl) aC))) aC)))) (aF (cD (bH eO (cA (pv 5) rfl) (pv 2) (bL _)) (aF (bY (iS PySem.F.plainAttrs_list PySem.F.slot_list_append PySem.F.type_list_append dG (pv 3) (aA (dD (aA (dD (aA (pv 4) (aA (Fo wD aE) aC))) (aA (cA (pv 5) rfl) aC))) aC)))) bN))))))
  (aF (aU (pv 3))))),7⟩
 exists zl9 0,λl C=>?_;let⟨H1,c,P,e1⟩:=nw C (.lst []);rw[c];exists 9,b,8,⟨_,P.seq O⟩,7;refine eX (xs:=es.map λ(e:Br)=>V.int ((e.1:Nat):Int)) (λi σ H'=>aS H H'/\∃(ys:vk)(I J:Option V),σ=[some (.ref a),some (.ref b),some (.int (p:Int)),some (.ref l),I,J]/\H' l=some (.lst ys)/\Sds Z.K H' ys (stF (es.take i) p)) ⟨P,[],none,none,8,e1,.nil⟩ (λi σ H' _ h=>h.1.seq O) ?_ ?_
 .rintro i x σ H2 R ⟨g,ys,I,J,rfl,j,S2⟩;rw[getElem?_map] at R;let⟨e,n,rfl⟩:=Option.map_eq_some_iff.mp R;let hi:i < es.length:=(wk.mp n).1;let⟨⟨k,u,v,S⟩,hd,d,L⟩:=hE e (mem_of_getElem? n);let d:u=(e.2.1:Int):=d;let L:v=(e.2.2:Int):=L;subst d;subst L;let⟨y,z,ey,U,fz⟩:=Rb.at hd;let o:=U.same g;let⟨dx,G⟩:=id o;let W:atI xs (e.1:Int)=some (.ref y):=bM ey;let ly:ys.length<=es.length:=by
   let h1:=S2.length;let h2:(stF (es.take i) p).length<=(es.take i).length:=length_filterMap_le _ _;rw[length_take] at h2;lia
  exists 9,9,a,xs,_,9,8,g.seq Y,W,7;exists 9,y,(zz3 Z) _,_,_,9,G,T.cl _,T.nS _,dH _ _ _,9,8,9,7
  by_cases c1:e.2.1=p
  .let tk:stF (es.take (i+1)) p=stF (es.take i) p++[((e.1,1),e.2.2)]:=by
    unfold stF;rw[take_add_one,n,filterMap_append];show _++[e].filterMap _=_;rw[filterMap_cons,if_pos c1];rfl
   refine ifT (decide_eq_true (by rw[c1])) ?_;exists 9,.inl ⟨8,_,SqL.of j⟩,9,zl9 2,λu r=>?_;let⟨H3,c,w,d⟩:=nw r (.tup [.int (e.1:Int),.int (1)]);rw[c];let d:SqT Z.K H3 u [.int (e.1:Int),.int (1)]:=SqT.of d;let⟨X,A⟩:=id (o.same w);exists 9,y,(zz3 Z) _,_,_,9,A,T.cl _,T.nG _,dZ _ _ _,zl9 2,λt M=>?_;rw[show (k,(e.2.1:Int),(e.2.2:Int),S).2.2.1=(e.2.2:Int) from rfl];let⟨N,c,st,m⟩:=nw M (.tup [.ref u,.int (e.2.2:Int)]);rw[c];let m:SqT Z.K N t [.ref u,.int (e.2.2:Int)]:=SqT.of m;let f:=w.trans st;let B:=f _ _ j;exists l,_,9,8,B,aZ (),⟨(g.trans f).change C,_,_,9,aB,7⟩;rw[tk];exact Sds.upd B ((S2.same f).app (.cons m (st.seqT d) .nil))
  .refine ifF (decide_eq_false (λz=>c1 (by have:(e.2.1:Int)=(p:Int):=(by injection z);lia))) ?_;exists 9,y,(zz3 Z) _,_,_,9,G,T.cl _,T.nG _,dZ _ _ _,9,8,9,7
   by_cases D:e.2.2=p
   .let tk:stF (es.take (i+1)) p=stF (es.take i) p++[((e.1,-1),e.2.1)]:=by
     unfold stF;rw[take_add_one,n,filterMap_append];show _++[e].filterMap _=_;rw[filterMap_cons,if_neg c1,if_pos D];rfl
    refine ifT (decide_eq_true (by rw[D])) ?_;exists 9,.inl ⟨8,_,SqL.of j⟩,9,9,zl9 2,λu r=>?_;let⟨H3,c,w,d⟩:=nw r (.tup [.int (e.1:Int),.int (-1)]);rw[c];let d:SqT Z.K H3 u [.int (e.1:Int),.int (-1)]:=SqT.of d;let⟨X,A⟩:=id (o.same w);exists 9,y,(zz3 Z) _,_,_,9,A,T.cl _,T.nS _,dH _ _ _,zl9 2,λt M=>?_;rw[show (k,(e.2.1:Int),(e.2.2:Int),S).2.1=(e.2.1:Int) from rfl];let⟨N,c,st,m⟩:=nw M (.tup [.ref u,.int (e.2.1:Int)]);rw[c];let m:SqT Z.K N t [.ref u,.int (e.2.1:Int)]:=SqT.of m;let f:=w.trans st;let B:=f _ _ j;exists l,_,9,8,B,aZ (),⟨(g.trans f).change C,_,_,9,aB,7⟩;rw[tk];exact Sds.upd B ((S2.same f).app (.cons m (st.seqT d) .nil))
   .let tk:stF (es.take (i+1)) p=stF (es.take i) p:=by
     unfold stF;rw[take_add_one,n,filterMap_append];show _++[e].filterMap _=_;rw[filterMap_cons,if_neg c1,if_neg D];simp
    refine ifF (decide_eq_false (λz=>D (by have:(e.2.2:Int)=(p:Int):=(by injection z);lia))) ⟨g,ys,_,9,j,7⟩;rw[tk];exact S2
 rintro σ H2 ⟨g,ys,I,J,rfl,j,S2⟩;rw[length_map,take_length] at S2;exists 9,q l ys H2 g C j S2
theorem Y39:DZ 2 Z.f39 Z.d39 ["rows","numbers","begin","end"] (Wi Z.K (zz3 Z)) "way_along":=by
 exists 7,F39.b4 _ _ _ _ (by intros;rfl),F39.kp,m39
 refine F39.ok9 Go λ_ _ _ s H _ Q E Y h=>?_;let⟨a,b,xs,ds,es,m,f,t,rfl,hA,Rb,hB,hE,ac,hm,J,M,qN,qS⟩:=h;refine⟨_,(aD (qQ0 (i:=4) Go.nd (Mv (oJ (pv 2) (cS aC) Lk) rfl rfl ⋯ ∅))
  (aD (qQ0 (i:=5) Go.nd (cS (aA (pv 2) aC)))
  (aD (xG PassesOwn.never (bH Gz (bX bV rfl n_len PySem.boot_len (aA (pv 5) aC)) aE (bL _))
   (aD (qQ0 (i:=6) Go.nd (qn5 PySem.F.plainAttrs_list PySem.F.slot_list_pop PySem.F.type_list_pop qr6 (pv 5)))
   (aF (dE PassesOwn.never rfl (cF (d9 Y38 Y rfl (aA (pv 0) (aA (pv 1) (aA (pv 6) aC))))) (qQ1 (i:=7) Go.nd)
    (aF (cD (oH (Pi (Gi Y) (aR bC (pv 7) aE) (pv 4)))
     (aD (Xh (Gi Y) (pv 4) (aR bC (pv 7) aE) (aY mM (vT (Gi Y) (pv 4) (pv 6) (λ_ _=>rfl)) (cS (aA (aR bC (pv 7) aE) aC))) rfl)
     (aF (bY (iS PySem.F.plainAttrs_list PySem.F.slot_list_append PySem.F.type_list_append dG (pv 5) (aA (aR bC (pv 7) aE) aC)))))
     bN))))))
  (aF (aU (Ru (Gi Y) (pv 4) (pv 3) ⟨8,8,8,8⟩)))))),7⟩
 refine λD hD=>?_;let⟨H1,q,sD,eD⟩:=nw hD (.dK []);rw[q];exists 9,zl9 0,λL hL=>?_;let ad:L≠D:=Ne.symm (bA eD hL);let nL:H L=none:=sD.free hL;let⟨H2,q,sL,eL⟩:=nw hL (.lst []);rw[q];exists sL _ _ eD,[((Sum.inl (f:Int):Key),V.ref L)],8,by show 1<=15;decide,?_;let s3:aS H (upd H2 D (.dK (kE [] [((Sum.inl (f:Int):Key),V.ref L)]))):=(sD.trans sL).change hD;let e3:upd H2 D (.dK (kE [] [((Sum.inl (f:Int):Key),V.ref L)])) D=some (.dK [((Sum.inl (f:Int):Key),V.ref L)]):=aB;let a0:upd H2 D (.dK (kE [] [((Sum.inl (f:Int):Key),V.ref L)])) L=some (.lst []):=by rw[aQ ad];exact eL
 generalize upd H2 D (.dK (kE [] [((Sum.inl (f:Int):Key),V.ref L)]))=H3 at s3 e3 a0 ⊢;exists 9,zl9 1,λW hW=>?_;let ae:L≠W:=bA a0 hW;let a1:D≠W:=bA e3 hW;let nW:H W=none:=s3.free hW;let⟨H4,q,sW,eW⟩:=nw hW (.lst [.int (f:Int)]);rw[q];let s4:=s3.trans sW;let w4:Wys Z.K H W H4 [((Sum.inl (f:Int):Key),V.ref L)] (cK es f 0).1:=.cons nL ae (sW _ _ a0) .nil .nil;refine yN (λσ H'=>aS H H'/\∃(i:Nat)(r:List (Key × V))(z6 N:Option V),σ=[some (.ref a),some (.ref b),some (.int (f:Int)),some (.int (t:Int)),some (.ref D),some (.ref W),z6,N]/\H' D=some (.dK r)/\H' W=some (.lst ((cK es f i).2.map λ(p:Nat)=>V.int (p:Int)))/\Wys Z.K H W H' r (cK es f i).1/\i<=40) muW ⟨s4,0,_,none,none,8,sW _ _ e3,eW,w4,6⟩ ?_ ?_
 .rintro σ O ⟨s5,i,r,z6,N,rfl,e5,P,w5,hi⟩;let lk:=w5.length;let wi:=jM es f i;let ay:=Sf hm M wi.nd wi.pt;exists 9,W,9,.inl (SqL.of P),_,9,8,9,7
  by_cases y:(cK es f i).2=[]
  .-- it ends
   rw[y] at P;refine ifF (by rw[y];rfl) ?_;let a7:=Zx y ();exists 9,D,8,.inl ⟨r,.inl e5⟩,9,_,kY.k (k:=Sum.inl (t:Int)) e5,7
   by_cases c:t∈cJ (cK es f i).1
   .let⟨l,ys,st,ev,eg,nl,_,hl,f'⟩:=w5.some_ c;rw[ev];refine qS st ?_ l ys O s5 nl hl f';unfold jI;rw[a7];exact eg
   .rw[(w5.none_ c).1];refine qN ?_ O s5;unfold jI;rw[a7];exact sV c
  .let af:=Wu (a:=some (.ref a)) (b:=some (.ref b)) (c:=some (.int (f:Int))) (d:=some (.int (t:Int))) (e:=z6) (f:=N) e5 P;let az:i+muF (cK es f i)<=39:=by
    rcases sZ hm M J i with z | z
    .exact absurd z y
    .exact z
   let stp:cK es f (i+1)=(stF es ((cK es f i).2.getLastD 0)).foldl (inF ((cK es f i).2.getLastD 0)) ((cK es f i).1,(cK es f i).2.dropLast):=by
    show mX es (cK es f i)=_;unfold mX;rw[if_neg y]
   let iM:=Lf hm M J wi y;let iM:muF (cK es f (i+1))+1<=muF (cK es f i):=iM;let a2:=wX wi y;let pk:=a2.kp;let⟨ag,ah⟩:=Tt y;generalize hp:(cK es f i).2.getLastD 0=p at *
   let ll:0 < ((cK es f i).2.map λ(p:Nat)=>V.int (p:Int)).length:=by rw[length_map];exact length_pos_iff.mpr y
   refine ifT (by show decide (0 < ((((cK es f i).2.map λ(p:Nat)=>V.int (p:Int)).length:Nat):Int))=true;exact decide_eq_true ()) ?_;exists 9,.inl ⟨8,_,SqL.of P⟩,W,_,9,8,P,ag,7;rw[ah];let R:aS H (upd O W (.lst ((cK es f i).2.dropLast.map λ(p:Nat)=>V.int (p:Int)))):=s5.change nW;let e6:upd O W (.lst ((cK es f i).2.dropLast.map λ(p:Nat)=>V.int (p:Int))) D=some (.dK r):=by rw[aQ a1];exact e5
   let q6:upd O W (.lst ((cK es f i).2.dropLast.map λ(p:Nat)=>V.int (p:Int))) W=some (.lst ((cK es f i).2.dropLast.map λ(p:Nat)=>V.int (p:Int))):=aB;let w6:=w5.updW (o:=.lst ((cK es f i).2.dropLast.map λ(p:Nat)=>V.int (p:Int))) P;generalize upd O W (.lst ((cK es f i).2.dropLast.map λ(p:Nat)=>V.int (p:Int)))=H6 at R e6 q6 w6 ⊢;exists 9,9,9,a,b,xs,ds,es,p,8,R.seq hA,Rb.same R,R.seq hB,hE,ac,λl ys H7 s7 nl el S7=>?_;let ai:=R.trans s7;let aj:l≠W:=Ne.symm (bA q6 nl);let ak:l≠D:=Ne.symm (bA e6 nl);let b7:H l=none:=R.free nl;let al:=S7.length;exists l,8,⟨_,SqL.of el⟩,7;refine eX (xs:=ys) (λj σ H'=>aS H H'/\H' l=some (.lst ys)/\Sds Z.K H' ys (stF es p)/\∃(r:List (Key × V))(N:Option V),σ=[some (.ref a),some (.ref b),some (.int (f:Int)),some (.int (t:Int)),some (.ref D),some (.ref W),some (.int (p:Int)),N]/\H' D=some (.dK r)/\H' W=some (.lst ((((stF es p).take j).foldl (inF p) ((cK es f i).1,(cK es f i).2.dropLast)).2.map λ(p:Nat)=>V.int (p:Int)))/\Wys Z.K H W H' r (((stF es p).take j).foldl (inF p) ((cK es f i).1,(cK es f i).2.dropLast)).1) ⟨ai,el,S7,r,N,8,s7 _ _ e6,s7 _ _ q6,w6.same s7⟩ (λj σ H' _ h=>SqL.of h.2.1) ?_ ?_
   .rintro j x σ H8 hx ⟨s8,a3,S8,g,am,rfl,A,B,w⟩;let⟨tt,u,s,rfl,a4,U,hU⟩:=S8.get hx;let hj:j < (stF es p).length:=(wk.mp a4).1;let gs:rO es s.1 p s.2:=nV (mem_of_getElem? a4);let G:=Dm ((stF es p).take j) [] a2 λz hz=>nV (mem_of_mem_take hz);let a6:((stF es p).take (j+1)).foldl (inF p) ((cK es f i).1,(cK es f i).2.dropLast)=inF p (((stF es p).take j).foldl (inF p) ((cK es f i).1,(cK es f i).2.dropLast)) s:=by
     rw[take_add_one,a4,foldl_append];rfl
    rw[a6];let an:=Oa G gs;let ao:=Sf hm M G.nd G.pt;let lS:=qo2 hm M J a2 (j:=j) (T:=stF es p) (λz hz=>nV hz);let mb:=Ht y;generalize ((stF es p).take j).foldl (inF p) ((cK es f i).1,(cK es f i).2.dropLast)=S at B w G an ao lS ⊢;let b8:S.2.length<=100:=by lia
    let a8:=w.length;let⟨⟨sn,sw⟩,sx⟩:=s;let U:SqT Z.K H8 tt [.ref u,.int (sx:Int)]:=U;exists 9,tt,_,1,9,8,U,8,9,D,9,kY.k (k:=Sum.inl (sx:Int)) A,9,7
    by_cases c:sx∈cJ S.1
    .refine ifF (by rw[w.isSome,decide_eq_true c];rfl) ⟨s8,a3,S8,g,9,A,7,7⟩
     .show H8 W=some (.lst ((inF p S ((sn,sw),sx)).2.map λ(p:Nat)=>V.int (p:Int)));unfold inF;rw[if_pos c];exact B
     .show Wys Z.K H W H8 g (inF p S ((sn,sw),sx)).1;unfold inF;rw[if_pos c];exact w
    .refine ifT (by rw[w.isSome,decide_eq_false c];rfl) ?_;let⟨ap,xp,sp,ev,eg,ba,bb,aq,fp⟩:=w.some_ G.kp;let bc:=fp.length;let b0:sp.length<=20:=by
      let⟨be,ar,as⟩:=G.pt p sp (gS eg);exact qo5 hm M J G.nd G.pt ar as
     exists 9,9,D,.ref ap,8,(by have:=kY.k (k:=Sum.inl (p:Int)) A;rw[ev] at this;exact this),7;exists 9,tt,_,0,9,8,U,8,zl9 1,λL1 au=>?_;let⟨H9,q,s9,e9⟩:=nw au (.lst [.ref u]);rw[q];exists ap,L1,_,9,8,s9 _ _ aq,e9,by rw[sizeLine_eq];simp only[length_cons,length_nil];lia,λC hC=>?_;let a5:H8 C=none:=s9.free hC;let⟨X,q,sA,eA⟩:=nw hC (.lst (xp++[.ref u]));rw[q];let n:=s9.trans sA;let av:C≠W:=Ne.symm (bA B a5);let aw:C≠D:=Ne.symm (bA A a5);let I:=n _ _ A;exists 9,9,tt,_,1,9,8,n.seqT U,8,D,9,Wj.k (k:=Sum.inl (sx:Int)) I (by rw[sizeLine_eq];lia),7;let put:nA g (Sum.inl (sx:Int)) (.ref C)=g++[(Sum.inl (sx:Int),.ref C)]:=by unfold nA;rw[if_neg (by rw[(w.none_ c).2];simp)]
     rw[put];let eB:upd X D (.dK (g++[(Sum.inl (sx:Int),.ref C)])) D=some (.dK (g++[(Sum.inl (sx:Int),.ref C)])):=aB;let qB:upd X D (.dK (g++[(Sum.inl (sx:Int),.ref C)])) W=some (.lst (S.2.map λ(p:Nat)=>V.int (p:Int))):=by rw[aQ (Ne.symm a1)];exact n _ _ B
     let sB:aS H (upd X D (.dK (g++[(Sum.inl (sx:Int),.ref C)]))):=(s8.trans n).change hD;let wB:Wys Z.K H W (upd X D (.dK (g++[(Sum.inl (sx:Int),.ref C)]))) (g++[(Sum.inl (sx:Int),.ref C)]) (S.1++[(sx,sp++[(sn,sw)])]):=
      Wys.snoc (s8.free a5) av (by rw[aQ aw];exact eA) (((fp.same n).app (.cons (n.seqT hU) .nil)).updD I) ((w.same n).updD I)
     let a9:upd X D (.dK (g++[(Sum.inl (sx:Int),.ref C)])) l=some (.lst ys):=by rw[aQ ak];exact n _ _ a3
     let SB:=(S8.same n).updD (o:=.dK (g++[(Sum.inl (sx:Int),.ref C)])) I;let aa:=SqT.updD (o:=.dK (g++[(Sum.inl (sx:Int),.ref C)])) (n.seqT U) I;generalize upd X D (.dK (g++[(Sum.inl (sx:Int),.ref C)]))=HB at eB qB sB wB a9 SB aa ⊢;exists 9,.inl ⟨8,_,SqL.of qB⟩,9,tt,_,1,9,8,aa,8,W,_,9,8,qB,aZ (by rw[length_map];lia),7;let ax:inF p S ((sn,sw),sx)=(S.1++[(sx,sp++[(sn,sw)])],S.2++[sx]):=by
      unfold inF;rw[if_neg c,eg];rfl
     rw[ax];exists sB.change nW,by rw[aQ aj];exact a9,SB.upd qB,_,_,rfl,by rw[aQ a1];exact eB,?_,wB.updW qB;rw[aB,map_append];rfl
   .rintro σ H8 ⟨s8,a3,S8,g,am,rfl,A,B,w⟩;rw[al,take_length,<- stp] at B w;let a8:=w.length;exists ⟨s8,i+1,g,_,9,A,B,w,6⟩,7;rw[af,Wu A B,length_map,length_map,lk,a8];unfold muF at iM;lia
 .rintro σ H Q Q' mono ⟨v,h1,p',ys,h2,h3,i,j,h4,h5,k,h6,h7⟩;exists v,h1,p',ys,h2,h3,i,j,h4,h5,k,h6,mono _ _ h7
theorem Y40:DZ 5 Z.f40 (W.fnOf ("rings") ("rings") (fC iY) (dA iY) (aI iY) (.ref Z.T40) Z.kV40 Z.dc40 Z.pm40 Z.an40 Z.cd40 Z.ct40) ["net","words"] (vJ Z.c_Net Z.K) "rings":=by
 exists 7,b40,F40.kp,m40
 refine F40.ok9 jZ λ_ _ _ s H _ Q E hr h=>?_;let⟨n,l,v,m,ds,W,rfl,nt,pt,ac,as,hW,q⟩:=h;let r1:=hr.mono (show 1<=4 by lia);let r2:=hr.mono (show 2<=4 by lia);refine⟨_,(aD (qQ0 (i:=2) jZ.nd (nX (oH (uG (pv 1))) (dL (v:=.ref Z.aJ) rfl mv_JOINING_WORDS rfl) (pv 1)))
  (aD (qQ0 (i:=3) jZ.nd (eI (pv 0) NTx.cl X3 R33 hr b33 .nil aM))
  (aD (qQ0 (i:=4) jZ.nd (cS aC))
  (aD (qQ0 (i:=5) jZ.nd (cS aC))
  (aD (dE PassesOwn.never rfl (Ea rfl n_enumerate rfl (aA (pv 3) aC)) (gW rfl (bU (qQ1 (i:=6) jZ.nd) (bU (qQ1 (i:=7) jZ.nd) fK)))
   (aF (cD (bH Ow (fR (pv 7) T.cl mW GW r1 bW .nil aM) (pv 2) rfl) (aD (qQ0 (i:=8) jZ.nd (d9 Y39 r2 rfl (aA (pv 3) (aA (pv 4) (aA (cA (pv 7) rfl) (aA (cA (pv 7) rfl) aC))))))
  (aF (cD (oH (uG (pv 8))) (aF (bY (iS PySem.F.plainAttrs_list PySem.F.slot_list_append PySem.F.type_list_append dG (pv 4) (aA (pv 6) aC)))) (aF (bY (iS PySem.F.plainAttrs_list PySem.F.slot_list_append PySem.F.type_list_append dG (pv 5) (aA (aY mM (cS (aA (dD (aA (pv 6) (aA aE aC))) aC)) (pv 8)) aC))))))) bN)))
  (aF (aU (pv 5)))))))),7⟩
 refine pK (λaz H'=>H'=H/\∃wv,az=[some (.ref n),some v,some wv,none,none,none,none,none,none]/\WdA Z.K H wv W) (λX hX=>?_) ?_
 .cases hW with
  |non=>exact⟨9,9,ifT rfl (hX _ _ ⟨8,9,Z.aJ,9,.inr (fJ0 H),8,qy6⟩)⟩
  | @seq a M h Z.f40=>exact⟨9,9,ifF rfl ⟨9,hX _ _ ⟨8,9,a,9,.inl h,Z.f40,λ_=>rfl⟩⟩⟩
 rintro az H' ⟨ad,wv,rfl,hw⟩;subst ad;let⟨dx,hn⟩:=nt.ob;exists 9,n,dx,9,hn,eE _ _ ∅ ∅,n,l,_,ds,8,nt,6,λa xs H1 G na N Rb=>?_;let ae:=Rb.length;exists zl9 0,λB hB=>?_;let nB:H' B=none:=G.free hB;let⟨H2,b,I,eB⟩:=nw hB (.lst []);rw[b];exists zl9 0,λF40 O=>?_;let nF:H' F40=none:=(G.trans I).free O;let a5:B≠F40:=bA eB O;let⟨H3,b,sF,eF⟩:=nw O (.lst []);rw[b];let s3:=G.trans (I.trans sF);let af:=(I.trans sF) _ _ N;let au:a≠B:=bA N hB;let av:a≠F40:=bA (I _ _ N) O;let sk:=qD ds;let ag:=xM pt;let ah:=I.trans sF;exists 9,a,8,⟨_,SqL.of af⟩,7;let ai:H1 B=none:=hB;let aj:H1 F40=none:=I.free O;refine Qm (xs:=xs) (λi σ P=>aS H1 P/\∃(o:vk)(z6 z7 z8:Option V),σ=[some (.ref n),some v,some wv,some (.ref a),some (.ref B),some (.ref F40),z6,z7,z8]/\P B=some (.lst ((bO W (skl ds) i).1.map λ(e:Br)=>V.int ((e.1:Nat):Int)))/\P F40=some (.lst o)/\Rgs Z.K H' P o ((bO W (skl ds) i).2.map (·.2))/\∀x∈o,x≠.ref F40/\x≠.ref B) ⟨ah,[],none,none,none,8,sF _ _ eB,eF,.nil,λx c=>(by cases c)⟩ (λi σ P _ h=>h.1.seq (SqL.of N)) ?_ ?_
 .rintro i x σ H4 T2 c ⟨s4,o,z6,z7,z8,rfl,R,U,J,f⟩ hT;let hi:i < ds.length:=by
   have:=(wk.mp c).1;lia
  obtain⟨⟨k0,u,v0,p0⟩,hd⟩:∃d,ds[i]?=some d:=⟨_,getElem?_eq_getElem hi⟩
  let⟨y,z,ey,ak,aw⟩:=Rb.at hd;let ex:x=.ref y:=by rw[ey] at c;exact(Option.some.inj c).symm
  subst ex;obtain⟨u0,u1,v1,v2⟩:cO (m:Int) u v0:=pt _ (mem_of_getElem? hd);obtain⟨j,rfl⟩:∃n:Nat,u=(n:Int):=⟨u.toNat,6⟩
  obtain⟨g,rfl⟩:∃n:Nat,v0=(n:Int):=⟨v0.toNat,6⟩
  let al:(skl ds)[i]?=some (k0,j,g):=by
   have:=qf0 hd
   rwa [show ((k0,(j:Int),(g:Int),p0):RD).2.1.toNat=j from Int.toNat_natCast j,show ((k0,(j:Int),(g:Int),p0):RD).2.2.1.toNat=g from Int.toNat_natCast g] at this
  let Y:=iC (W:=W) ag i ();let bo:=qa6 pt Y;let am:=Rn (W:=W) (sk:=skl ds) i;let gl:=J.l;rw[length_map] at gl;let rl:=Y.rl;let succ:=dF (W:=W) al;generalize bO W (skl ds) i=S at R J Y bo am gl rl succ;let sT:=aG hT (.tup [.int (i:Int),.ref y]);exists T2,9,SqT.of aB,8,_,9,_,9,8,7;let ax:H1 T2=none:=s4.free hT;generalize upd H4 T2 (.tup [.int (i:Int),.ref y])=H5 at sT ⊢;let A:=s4.trans sT;let p:=sT _ _ R;let a0:=sT _ _ U;let G5:=J.same sT;let⟨dr,hy⟩:=id (ak.same A);let⟨pw,M,ew,an,fl,aa⟩:=hw.same (G.trans A);exists 9,k0,y,dr,9,hy,(eJ _ _ _ ∅ ∅ ∅),9,9,pw,M,ew,an,8,fl,9,7;let a6:inV (.str k0.wd) M=W k0:=aa k0
  by_cases hk:W k0=true
  .refine ifT (by show (if false=true then _ else inV (V.str k0.wd) M)=true;rw[if_neg ∅,a6];exact hk) ?_;exists 9,9,9,y,(zz3 Z) _,_,_,9,hy,T.cl _,T.nG _,dZ _ _ _,9,y,(zz3 Z) _,_,_,9,hy,T.cl _,T.nS _,dH _ _ _,a,B,xs,ds,S.1,m,g,j,8,A.seq (SqL.of N),Rb.same A,SqL.of p,bo,6,Y.pt,ac,6,λa4 H6 k=>?_,λst a7 l' ys H6 k nl el S6=>?_
   .exists 9,9,ifT rfl ?_;let a1:=k _ _ p;let D:=A.trans k;exists 9,.inl ⟨8,_,SqL.of a1⟩,9,B,_,9,8,a1,aZ (by rw[length_map];lia),7;let eS:eY W S i (k0,j,g)=(S.1++[(i,j,g)],S.2):=by
     unfold eY;rw[if_pos hk,a4]
    rw[succ,eS];exists D.change ai,o,_,_,9,7,by rw[aQ (Ne.symm a5)];exact k _ _ a0,(G5.same k).updO a1 (λx c=>(f x c).2),f;rw[aB,map_append];rfl
   .exists 9,9,ifF rfl ?_;let a2:=k _ _ a0;let D:=A.trans k;exists 9,.inl ⟨8,_,SqL.of a2⟩,9,zl9 2,λt ht=>?_;let⟨H7,b,r,et⟩:=nw ht (.tup [.int (i:Int),.int 1]);rw[b];let et:SqT Z.K H7 t [.int (i:Int),.int 1]:=SqT.of et;exists zl9 1,λL1 ao=>?_;let⟨H8,b,L,e8⟩:=nw ao (.lst [.ref t]);rw[b];let ar:=zW Y.pt (show g < m by lia) a7;let ay:=S6.length;exists 9,L1,l',_,9,8,e8,(r.trans L) _ _ el,by rw[sizeLine_eq];simp only[length_cons,length_nil];lia,λC hC=>?_;let a3:H8 C=none:=hC;let⟨H9,b,s9,e9⟩:=nw hC (.lst ([.ref t]++ys));rw[b];let w:=r.trans (L.trans s9);let a8:=w _ _ a2;let ap:=D.trans w;let a9:C≠F40:=Ne.symm (bA ((r.trans L) _ _ a2) a3);let aq:C≠B:=Ne.symm (bA ((r.trans L) _ _ (k _ _ p)) a3);exists F40,_,9,8,a8,aZ (),7;let eS:eY W S i (k0,j,g)=(S.1,S.2++[(i,(i,1) :: st)]):=by
     unfold eY;rw[if_pos hk,a7]
    rw[succ,eS];let SC:Sts Z.K H9 ([.ref t]++ys) ((i,1) :: st):=.cons ((L.trans s9).seqT et) (S6.same w);exists ap.change aj,o++[.ref C],_,_,9,by rw[aQ a5];exact w _ _ (k _ _ p),aB,?_,λx c=>?_
    .rw[map_append];let G9:=((G5.same k).same w).snoc (((G.trans D).trans (r.trans L)).free a3) e9 SC;refine G9.updO a8 λx c=>?_;rcases mem_append.mp c with z | z
     .exact(f x z).1
     .have:x=.ref C:=by simpa using z
      rw[this];exact λz=>a9 (by injection z)
    .rcases mem_append.mp c with z | z
     .exact f x z
     .have:x=.ref C:=by simpa using z
      rw[this];exists λz=>a9 (by injection z),λz=>aq (by injection z)
  .refine ifF (by show (if false=true then _ else inV (V.str k0.wd) M)=false;rw[if_neg ∅,a6];simpa using hk) ?_;let eS:eY W S i (k0,j,g)=S:=by
    unfold eY;rw[if_neg hk]
   rw[succ,eS];exists A,o,_,_,9,p,a0,G5,f
 rintro σ H4 ⟨s4,o,z6,z7,z8,rfl,R,U,J,f⟩;rw[ae] at J;exists 9,q F40 o H4 (G.trans s4) nF U J λx c=>(f x c).1
theorem X4:cB [.int 1] ([.int 1 Z.tk6]):=.cons ⟨9⟩ .nil
theorem Y41:DZ 5 Z.f41 Z.d41 ["net","ring"] (Jj Z.c_Net Z.K) "ring_sum":=by
 exists 7,F41.b2 _ _ (by intros;rfl),F41.kp,m41
 refine F41.ok9 Sz λa0 A U s H vs Q E j h=>?_;let⟨n,l,b,m,ds,xs,st,rfl,nt,w,B,J,L,a1,e,q⟩:=h;let V:=j.mono (show 2<=4 by lia);let W:=j.mono (show 3<=4 by lia);refine⟨_,(aD (aT (i:=2) Sz.nd rfl (Or.inr rfl) (eI (pv 0) NTx.cl X3 R33 j b33 .nil aM))
  (aF (aU (aH Y12.G j rfl m12 F12.kp Y12.b .nil aM (aA (dM (nl:=2) (fr:=[2]) (Nc:=["number","way","rows"]) (cl:=[("rows",s.heap.objs.size+1)]) (g:=(Dc Z.K 2 (iU (gX 0) (iU (gX 1) Dy)))) rfl ⟨8,8,∅,∅,λx c h=>h,dY rfl,8,λi n h=>match i,h with | 0,h=>by cases h;exact⟨2,8,8,8,8,.inl rfl⟩ | k+1,h=>by rw[show 2+(k+1)=k+3 by lia] at h;cases h⟩
    (cF (pv 1)) (λ_ _ _ _ _=>(gW rfl (bU (qQ1 (i:=0) jS) (bU (qQ1 (i:=1) jS) fK)))) (λ_ _ _ _ _=>eU)
    (λ_ _ _ _ _=>(aH Y10.G W rfl m10 F10.kp Y10.b .nil aM (aA (aH Y6.G V rfl m6 F6.kp bd6 X4 aM (aA (pv 1) aC)) (aA (Db (K:=Z.K) rfl (aR (iT (K:=Z.K) rfl) (pv 2) (pv 0)) rfl) aC))))) aC))))),7⟩
 let⟨dx,X⟩:=nt.ob;exists 9,n,dx,9,X,eE _ _ ∅ ∅,n,l,_,ds,8,nt,w,λa ys H1 o na Y Rb=>?_;let lx:=L.length;exists 9,b,8,⟨_,o.seq J⟩,λD M=>?_;refine clS M (xs:=xs) (λi zs H'=>Fqs Z.K H' zs ((st.take i).map (gU ds))) .nil (λ_ h=>(o.trans h).seq J) ?_ ?_
 .rintro i zs x H2 hx ⟨d,F,F2⟩ C hC;let⟨tt,s,rfl,es,hT⟩:=(L.same (o.trans d)).get hx;let hi:i < st.length:=(wk.mp es).1;let⟨N,hw⟩:=e s (mem_of_getElem? es);let I:ds[s.1]?=some ds[s.1]:=getElem?_eq_getElem N;let⟨y,z,ey,p,fz⟩:=Rb.at I;let⟨dr,hy⟩:=id (p.same d);let O:atI ys (s.1:Int)=some (.ref y):=bM ey;let⟨P,lw,bw⟩:=qf1 hw;let⟨lp,bp⟩:=B _ (mem_of_getElem? I);let lz:=F2.length;rw[length_map,length_take] at lz;exists tt,9,hT,8,_,9,_,9,8,jC.1,jC.2,fZ ?_;exists 9,s.2,1,1,8,∅,by show (1:Nat) < 2 ^ 1;decide,(),λu H3 s3 R=>?_;rw[P] at R;exists 9,9,a,ys,_,9,8,SqL.of ((d.trans s3) _ _ Y),O,7;let⟨a2,S⟩:=id (p.same (d.trans s3));exists y,(zz3 Z) _,_,_,9,S,T.cl _,T.nZ _,eQ _ _ _,u,z,(s.2,1),_,1,61,8,Fq.of R,(d.trans s3).fq fz,lw.pos,lp.pos,bw,bp,6,λv H4 s4 e4=>?_;let f:=s3.trans s4;let t:=f _ _ F;exists t,aZ (),hC _ _ ⟨(d.trans f).change M,aB,7⟩;let ee:(st.take (i+1)).map (gU ds)=(st.take i).map (gU ds)++[mU (s.2,1) ds[s.1].2.2.2]:=by
   rw[take_add_one,es,map_append];show _++[gU ds s]=_;unfold gU;rw[P,getD_eq_getElem?_getD,I];rfl
  rw[ee];exact((F2.same f).app (.cons (Fq.of e4) .nil)).upd t
 rintro zs H2 ⟨d,F,F2⟩;rw[lx,take_length] at F2;exists D,zs,9,SqL.of F,F2,PB.of_wt (Hi B e) (Py B e) (),λr H3 s3 f3=>q r H3 (o.trans (d.trans s3)) f3
theorem Y42:DZ 4 Z.f42 Z.d42 ["line","column","amount"] (rD Z.K) "raise_at":=by
 exists 7,F42.b3 _ _ _ (by intros;rfl),F42.kp,m42
 refine F42.ok9 qb6 λ_ _ _ s H _ Q E e h=>?_;let⟨l,z,j,xs,ps,a,n,m,rfl,b,c,f,g,i,k,o,p,r,q⟩:=h;exists _,(aF (jB (d9 Y8 e rfl (aA (aR bK (pv 0) (pv 1)) (aA (pv 2) aC))) (kL (pv 0) (pv 1) gY))),7;let y:=c.length;let⟨u,t,w⟩:=c.at (lQ f);exists 9,9,l,xs,_,9,8,SqL.of b,bM t,9,u,z,_,a,n,m,8,w,k,g,o,i,p,r,λv H1 d x=>?_;exists 9,9,l,xs,_,j,8,8,d _ _ b,iR (),q v H1 d (Fq.of x)
theorem Y43:DZ 5 Z.f43 Z.d43 ["matrix","row","column","amount"] (vB Z.K (zz3 Z)) "enter_stream":=by
 exists 7,F43.b4 _ _ _ _ (by intros;rfl),F43.kp,m43
 refine F43.ok9 Zy λ_ _ _ s H _ Q E U h=>?_;let⟨D,x,z,zz,o,M,⟨k0,u,v,p⟩,w,n,k,c,a,rfl,t,y,rw,pt,A,W,L,N,hn,q⟩:=h;let r3:=U.mono (show 3<=4 by lia);refine⟨_,(aD (bY (aH Y42.G U rfl m42 F42.kp Y42.b .nil aM (aA (aR bK (pv 0) (cA (pv 1) rfl)) (aA (pv 2) (aA (pv 3) aC)))))
  (aF (bY (aH Y42.G U rfl m42 F42.kp Y42.b .nil aM (aA (aR bK (pv 0) (cA (pv 1) rfl)) (aA (pv 2) (aA (aH Y7.G r3 rfl m7 F7.kp Y7.b .nil aM (aA (dL (v:=.ref Z.aN) rfl mv_NOUGHT rfl) (aA (pv 3) aC))) aC))))))),7⟩
 obtain⟨i0,i1,j0,j1⟩:cO (w:Int) u v:=pt;obtain⟨f,rfl⟩:∃f:Nat,u=(f:Int):=⟨u.toNat,6⟩
 obtain⟨l,rfl⟩:∃l:Nat,v=(l:Int):=⟨v.toNat,6⟩
 let g:f < w:=by lia
 let B:l < w:=by lia
 let⟨ln,bn,_⟩:=oB L N;let⟨dx,hx⟩:=id rw;let⟨X,m42,w1⟩:=y.row g;let⟨e2,l2,Y7.b⟩:=y.at g A;let O:=t.la;obtain⟨m,C⟩:∃m,o[f]?=some m:=⟨_,getElem?_eq_getElem (by rw[O,y.h];exact g)⟩
 let⟨xs,P,Y⟩:=t.r f m _ C X;let a0:atI (o.map V.ref) (f:Int)=some (.ref m):=bM (by rw[getElem?_map,C];rfl);exists 9,9,x,(zz3 Z) _,_,_,9,hx,T.cl _,T.nS _,dH _ _ _,D,_,_,9,8,SqL.of t.d,a0,9,9,m,z,c,xs,_,a,n,k,8,P,Y,by rw[w1];exact A,l2.pos,Y7.b,W,L.pos,N,(),λv1 H1 s1 f1=>?_;let⟨e,i⟩:=t.set (j:=c) C X P Y s1 f1;let R:=y.rz g A L N;generalize upd H1 m (.lst (xs.set c (.ref v1)))=H2 at e i ⊢;let e:Mx Z.K H2 D o (rz M f c a):=e;let ls:=t.lsts;let a3:Fq Z.K H2 z a:=i.seqT ls W;let⟨a8,a4⟩:=id (i.rw ls rw);let⟨e3,m3,w3⟩:=R.row B;let⟨e4,l4,b4⟩:=R.at B A;obtain⟨F,I⟩:∃F,o[l]?=some F:=⟨_,getElem?_eq_getElem (by rw[O,y.h];exact B)⟩
 let⟨a5,J,S⟩:=e.r l F _ I e3;let at2:atI (o.map V.ref) (l:Int)=some (.ref F):=bM (by rw[getElem?_map,I];rfl);let a6:Mq.Bd 1 (0,1):=⟨show (0:Nat) < 2 ^ 1 by decide,show (1:Nat) < 2 ^ 1 by decide⟩
 exists 9,9,x,(zz3 Z) _,_,_,9,a4,T.cl _,T.nG _,dZ _ _ _,D,_,_,9,8,SqL.of e.d,at2,9,9,Z.aN,z,(0,1),a,1,k,8,fN _,a3,∅,L.pos,a6,N,6,λv3 H3 s3 e5=>?_;exists F,v3,c,a5,_,_,n+k+1,k+2,8,s3 _ _ J,S.same s3,by rw[w3];exact A,l4.pos,b4,Fq.of e5,ln.pos,bn,(),λv4 H4 s4 f4=>?_;let⟨mx3,a7⟩:=(e.same s3).set (j:=c) I e3 (s3 _ _ J) (S.same s3) s4 f4;exact q _ (i.trans (s3.sx.trans a7)) mx3
theorem Y44:DZ 6 Z.f44 Z.d44 ["matrix","row"] (vX Z.K (zz3 Z)) "enter_piece":=by
 exists 7,F44.b2 _ _ (by intros;rfl),F44.kp,m44
 refine F44.ok9 Gg λ_ _ _ s H _ Q E t h=>?_;let⟨D,x,z,A,M,⟨k0,u,v,p⟩,w,n,k,rfl,P,B,rw,fp,pt,j,l,m,hn,q⟩:=h;let C:=t.mono (show 3<=5 by lia);refine⟨_,(aD (qQ0 (i:=2) Gg.nd (d9 Y11 C rfl (aA (dL (v:=.ref Z.aO) rfl mv_ONE rfl) (aA (cA (pv 1) rfl) aC))))
  (aD (bY (d9 Y43 t rfl (aA (pv 0) (aA (pv 1) (aA (cA (pv 1) rfl) (aA (pv 2) aC))))))
  (aF (bY (d9 Y43 t rfl (aA (pv 0) (aA (pv 1) (aA (cA (pv 1) rfl) (aA (d9 Y7 C rfl (aA (dL (v:=.ref Z.aN) rfl mv_NOUGHT rfl) (aA (pv 2) aC))) aC))))))))),7⟩
 let j:Mq.Low p:=j;let l:0 < p.1:=l;let m:Mq.Bd k p:=m;let fp:Fq Z.K H z p:=fp;obtain⟨R,i1,S,U⟩:cO (w:Int) u v:=pt;obtain⟨a,rfl⟩:∃a:Nat,u=(a:Int):=⟨u.toNat,6⟩
 obtain⟨b,rfl⟩:∃b:Nat,v=(b:Int):=⟨v.toNat,6⟩
 let⟨ls,bs,_⟩:=Gp j l m;let⟨V,W,_⟩:=oB ls bs;let e:cO (w:Int) (a:Int) (b:Int):=⟨R,i1,S,U⟩
 let⟨dx,X⟩:=id rw;exists 9,x,(zz3 Z) _,_,_,9,X,T.cl _,T.nZ _,eQ _ _ _,Z.aO,z,(1,1),p,1,k,8,fO _,fp,h11,j.pos,l,jU,m,6,λs' H1 y Y=>?_;let fs:Fq Z.K H1 s' (rE (1,1) p):=Fq.of Y;let f:=rw.same y;let⟨a0,F⟩:=id f;let o:=P.same y;exists 9,9,9,x,(zz3 Z) _,_,_,9,F,T.cl _,T.nS _,dH _ _ _,9,D,x,s',_,A,M,(k0,(a:Int),(b:Int),p),w,n,k+1,a,9,o,B,f,e,6,fs,ls,bs,6,λH2 g G=>?_;let lst:=o.lsts;let I:Fq Z.K H2 s' (rE (1,1) p):=g.seqT lst fs;let r:=g.rw lst f;let⟨a1,J⟩:=id r;let⟨L,_⟩:=Ho (d:=(k0,(a:Int),(b:Int),p)) B e (c:=a) () ls bs;let N:Mq.Bd 1 (0,1):=⟨show (0:Nat) < 2 ^ 1 by decide,show (1:Nat) < 2 ^ 1 by decide⟩
 exists 9,9,9,x,(zz3 Z) _,_,_,9,J,T.cl _,T.nG _,dZ _ _ _,9,Z.aN,s',(0,1),_,1,k+1,8,fN _,I,∅,ls.pos,N,bs,6,λv3 H3 s3 e3=>?_;exists D,x,v3,_,A,_,(k0,(a:Int),(b:Int),p),w,n+2*(k+1)+4,k+3,b,9,G.same s3,L,r.same s3,e,6,Fq.of e3,V,W,6,λH4 O mx4=>?_;exact q H4 (y.sx.trans (g.trans (s3.sx.trans O))) mx4
theorem Y45:DZ 5 Z.f45 Z.d45 ["right","row"] (yA Z.K (zz3 Z)) "enter_push":=by
 exists 7,F45.b2 _ _ (by intros;rfl),F45.kp,m45
 refine F45.ok9 Tp λ_ _ _ s H _ Q E z h=>?_;let⟨R,x,i,ys,rs,⟨k0,u,v,p⟩,w,n,k,rfl,F,G,A,rw,fp,pt,d,e,hn,q⟩:=h;let N:=z.mono (show 3<=4 by lia);refine⟨_,(aD (bY (d9 Y42 z rfl (aA (pv 0) (aA (cA (pv 1) rfl) (aA (d9 Y7 N rfl (aA (dL (v:=.ref Z.aN) rfl mv_NOUGHT rfl) (aA (cA (pv 1) rfl) aC))) aC)))))
  (aF (bY (d9 Y42 z rfl (aA (pv 0) (aA (cA (pv 1) rfl) (aA (cA (pv 1) rfl) aC))))))),7⟩
 let d:Mq.Low p:=d;let e:Mq.Bd k p:=e;let fp:Fq Z.K H i p:=fp;obtain⟨i0,i1,j0,j1⟩:cO (w:Int) u v:=pt;obtain⟨a,rfl⟩:∃a:Nat,u=(a:Int):=⟨u.toNat,6⟩
 obtain⟨f,rfl⟩:∃f:Nat,v=(f:Int):=⟨v.toNat,6⟩
 let⟨I,J,_⟩:=oB d e;let⟨dx,L⟩:=id rw;let⟨_,O,b1⟩:=A.at (j:=a) ();let M:Mq.Bd 1 (0,1):=⟨show (0:Nat) < 2 ^ 1 by decide,show (1:Nat) < 2 ^ 1 by decide⟩
 exists 9,9,x,(zz3 Z) _,_,_,9,L,T.cl _,T.nS _,dH _ _ _,9,x,(zz3 Z) _,_,_,9,L,T.cl _,T.nZ _,eQ _ _ _,Z.aN,i,(0,1),p,1,k,8,fN _,fp,∅,d.pos,M,e,6,λP H1 B S=>?_;exists R,P,a,ys,rs,_,n,k+2,8,B _ _ F,G.same B,by rw[A.w];lia,O.pos,b1,Fq.of S,I.pos,J,(),λb H2 U V=>?_;let c:=B.trans U;let g:=c _ _ F;let F3:=(Fqs.set V a (G.same c)).upd (o:=.lst (ys.set a (.ref b))) g;let C:upd H2 R (.lst (ys.set a (.ref b))) R=some (.lst (ys.set a (.ref b))):=aB;let l:SX [R] H (upd H2 R (.lst (ys.set a (.ref b)))):=c.sx.write ⋯;let m:Fq Z.K (upd H2 R (.lst (ys.set a (.ref b)))) i p:=SqT.upd (c.fq fp) g;let r:=(rw.same c).upd (o:=.lst (ys.set a (.ref b))) g;generalize upd H2 R (.lst (ys.set a (.ref b)))=H3 at F3 C l m r ⊢;let t:=A.rz (j:=a) () I J;let F3:Fqs Z.K H3 (ys.set a (.ref b)) (rzl rs a (Mq.minus (0,1) p)):=F3;let⟨_,W,b4⟩:=t.at (j:=f) ();let⟨Y,y⟩:=id r;exists 9,9,x,(zz3 Z) _,_,_,9,y,T.cl _,T.nG _,dZ _ _ _,9,x,(zz3 Z) _,_,_,9,y,T.cl _,T.nZ _,eQ _ _ _,R,i,f,_,_,p,n+(k+2)+1,k,8,C,F3,by rw[t.w];lia,W.pos,b4,m,d.pos,e,(),λv5 H5 D X=>?_;refine q _ _ (l.trans (D.sx.write ⋯)) aB ?_;exact(Fqs.set X f (F3.same D)).upd (D _ _ C)
theorem Y46:DZ 6 Z.f46 Z.d46 ["matrix","right","row","column"] (wW Z.K (zz3 Z)) "enter_hold":=by
 exists 7,F46.b4 _ _ _ _ (by intros;rfl),F46.kp,m46
 refine F46.ok9 Qt λ_ _ _ s H _ Q E hr h=>?_;let⟨D,R,x,L,I,M,ys,rs,⟨k0,u,v,p⟩,w,n,c,rfl,mx,mb,eR,a5,lr,a6,B,rw,fp,pt,l,hn,q⟩:=h;let r3:=hr.mono (show 3<=5 by lia);let r4:=hr.mono (show 4<=5 by lia);refine⟨_,(aD (bY (aH Y43.G hr rfl m43 F43.kp Y43.b .nil aM (aA (pv 0) (aA (pv 2) (aA (pv 3) (aA (dL (v:=.ref Z.aO) rfl mv_ONE rfl) aC))))))
  (aD (bY (aH Y42.G r4 rfl m42 F42.kp Y42.b .nil aM (aA (aR bK (pv 0) (pv 3)) (aA (cA (pv 2) rfl) (aA (dL (v:=.ref Z.aO) rfl mv_ONE rfl) aC)))))
  (aD (bY (aH Y42.G r4 rfl m42 F42.kp Y42.b .nil aM (aA (aR bK (pv 0) (pv 3)) (aA (cA (pv 2) rfl) (aA (aH Y7.G r3 rfl m7 F7.kp Y7.b .nil aM (aA (dL (v:=.ref Z.aN) rfl mv_NOUGHT rfl) (aA (dL (v:=.ref Z.aO) rfl mv_ONE rfl) aC))) aC)))))
  (aF (jB (cA (pv 2) rfl) (kL (pv 1) (pv 3) gY)))))),7⟩
 let fp:Fq Z.K H L p:=fp;obtain⟨i0,i1,j0,j1⟩:cO (w:Int) u v:=pt;obtain⟨a,rfl⟩:∃a:Nat,u=(a:Int):=⟨u.toNat,6⟩
 obtain⟨e,rfl⟩:∃e:Nat,v=(e:Int):=⟨v.toNat,6⟩
 let S:cO (w:Int) (a:Int) (e:Int):=⟨i0,i1,j0,j1⟩
 let⟨ln,bn,_⟩:=oB kA jU;let a7:=mx.la;exists 9,9,9,D,x,Z.aO,_,I,M,(k0,(a:Int),(e:Int),p),w,n,1,c,(1,1),8,mx,mb,rw,S,l,fO _,kA,jU,6,λH1 m t=>?_;let lst:=mx.lsts;let U:=m.rw lst rw;let a8:Fq Z.K H1 L p:=m.seqT lst fp;let a9:=m _ _ eR B;let aa:=SX.fqs lst m a5;let⟨C,_⟩:=Ho (d:=(k0,(a:Int),(e:Int),p)) mb S l kA jU;generalize hM1:en M (k0,(a:Int),(e:Int),p) c (1,1)=M1 at t C;obtain⟨k,y⟩:∃k,I[c]?=some k:=⟨_,getElem?_eq_getElem (by rw[a7,mb.h];exact l)⟩
 let W:atI (I.map V.ref) (c:Int)=some (.ref k):=bM (by rw[getElem?_map,y];rfl);let⟨e1,m43,w1⟩:=C.row l;let⟨_,l2,Y42.b⟩:=C.at l (j:=a) ();let⟨xs,X,hF⟩:=t.r c k _ y e1;let⟨al,ad⟩:=id U;exists 9,9,D,_,_,9,8,SqL.of t.d,W,9,x,(zz3 Z) _,_,_,9,ad,T.cl _,T.nS _,dH _ _ _,k,Z.aO,a,xs,_,(1,1),n+2*1+4,1,8,X,hF,by rw[w1];lia,l2.pos,Y42.b,fO _,h11,jU,(),λv1 H2 s2 f2=>?_;let⟨g,i⟩:=t.set (j:=a) y e1 X hF s2 f2;let z:=t.lsts;generalize upd H2 k (.lst (xs.set a (.ref v1)))=H3 at g i ⊢;let N:=C.rz l (j:=a) () kA jU;let g:Mx Z.K H3 D I (rz M1 c a (1,1)):=g;let Y:=i.rw z U;let ae:Fq Z.K H3 L p:=i.seqT z a8;let af:=i _ _ a9 B;let ag:=SX.fqs z i aa;generalize hM3:rz M1 c a (1,1)=M3 at g N;let⟨e3,m7,w3⟩:=N.row l;let⟨_,l4,b4⟩:=N.at l (j:=e) ();let⟨a0,O,a1⟩:=g.r c k _ y e3;let⟨am,ah⟩:=id Y;exists 9,9,D,_,_,9,8,SqL.of g.d,W,9,x,(zz3 Z) _,_,_,9,ah,T.cl _,T.nG _,dZ _ _ _,Z.aN,Z.aO,(0,1),(1,1),1,1,8,fN _,fO _,∅,h11,⟨show (0:Nat) < 2 ^ 1 by decide,show (1:Nat) < 2 ^ 1 by decide⟩,jU,6,λv4 H4 J e4=>?_;exists k,v4,e,a0,_,_,n+2*1+4+1+1,1+2,8,J _ _ O,a1.same J,by rw[w3];lia,l4.pos,b4,Fq.of e4,ln.pos,bn,(),λv5 H5 s5 f5=>?_;let⟨F,a2⟩:=(g.same J).set (j:=e) y e3 (J _ _ O) (a1.same J) s5 f5;let f:=(aS.sx (as:=I) J).trans a2;let A:=g.lsts;generalize upd H5 k (.lst (a0.set e (.ref v5)))=H6 at F a2 f ⊢;let F:Mx Z.K H6 D I (rz M3 c e (Mq.minus (0,1) (1,1))):=F;let ai:=f.rw A Y;let aj:Fq Z.K H6 L p:=f.seqT A ae;let P:=f _ _ af B;let a3:=SX.fqs A f ag;let⟨an,ak⟩:=id ai;let ly:=a3.length;exists 9,x,(zz3 Z) _,_,_,9,ak,T.cl _,T.nZ _,eQ _ _ _,9,9,R,ys,_,c,8,8,P,iR (),7;let eM:hM M (k0,(a:Int),(e:Int),p) c=rz M3 c e (Mq.minus (0,1) (1,1)):=by rw[<- hM3,<- hM1];rfl
 let a4:=F.other (o:=.lst (ys.set c (.ref L))) P a6 B;rw[<- eM] at a4;refine q _ _ ?_ a4 aB ((Fqs.set aj c a3).upd P);refine SX.write (SX.mono (m.trans (i.trans f)) λx hx=>mem_cons_of_mem _ hx) ⋯
theorem Y47:DZ 7 Z.f47 Z.d47 ["net"] (Kh Z.c_Net Z.K) "equations":=by
 exists 7,F47.b1 _ (by intros;rfl),F47.kp,m47
 refine F47.ok9 rA λ_ _ _ s H _ Q E hr h=>?_;let⟨n,l,m,e,ds,rfl,nt,hK,bh,bf,bi,bg,q⟩:=h;let r1:=hr.mono (show 1<=6 by lia);let r4:=hr.mono (show 4<=6 by lia);let r5:=hr.mono (show 5<=6 by lia);refine⟨_,(aD (qQ0 (i:=1) rA.nd (eI (pv 0) NTx.cl X3 R33 r4 b33 .nil aM))
  (aD (qQ0 (i:=2) rA.nd (eI (pv 0) NTx.cl X2 R30 r1 b30 .nil aM))
  (aD (aT (i:=3) rA.nd rfl (Or.inr rfl) (aY eK (pv 2) (bX bV rfl n_len PySem.boot_len (aA (dM (nl:=1) (fr:=[]) (Nc:=["row"]) (cl:=[]) rfl ⟨8,8,∅,∅,λx c h=>(by cases h),dY rfl,8,λi n h=>(by simp at h)⟩
    (cF (pv 1)) (λ_ _ _ _ _=>(qQ1 (i:=0) qh0)) (λ_ _ _ _ _=>(lV (bH eO (fR (pv 0) T.cl mW GW r1 bW .nil aM) cC (bL _))))
    (λ_ _ _ _ _=>(pv 0))) aC))))
  (aD (vD (i:=4) (nl:=1) (fr:=[3]) (Nc:=["line","width"]) (cl:=[("width",s.heap.objs.size+1)]) rA.nd rfl rfl rfl ⟨8,8,∅,∅,λx c h=>h,dY rfl,8,λi n h=>match i,h with | 0,h=>by cases h;exact⟨3,8,8,8,8,.inl rfl⟩ | k+1,h=>by rw[show 1+(k+1)=k+2 by lia] at h;cases h⟩
    (gE rfl n_range (aA (pv 3) aC)) (λ_ _ _ _ _=>(qQ1 (i:=0) yZ)) (λ_ _ _ _ _=>eU)
    (λ_ _ _ _ _=>(aY tW (cS (aA (dL (v:=.ref Z.aN) rfl mv_NOUGHT rfl) aC)) (pv 1))) rfl)
  (aD (qQ0 (i:=5) rA.nd (aY tW (cS (aA (dL (v:=.ref Z.aN) rfl mv_NOUGHT rfl) aC)) (pv 3)))
  (aD (qQ0 (i:=6) rA.nd (pv 2))
  (aD (dE PassesOwn.never rfl (cF (pv 1)) (qQ1 (i:=7) rA.nd)
   (aF (cD (bH eO (fR (pv 7) T.cl mW GW r1 bW .nil aM) cC (bL _)) (aF (bY (d9 Y44 hr rfl (aA (pv 4) (aA (pv 7) aC))))) (aF (cD (bH eO (fR (pv 7) T.cl mW GW r1 bW .nil aM) cC (bL _)) (aF (bY (d9 Y45 r5 rfl (aA (pv 5) (aA (pv 7) aC))))) (aD (bY (d9 Y46 hr rfl (aA (pv 4) (aA (pv 5) (aA (pv 7) (aA (pv 6) aC))))))
  (aF (Jg (i:=6) rA.nd rfl (Or.inl rfl) aE Id))))))))
  (aF (aU (dD (aA (dM (nl:=1) (fr:=[]) (Nc:=["line"]) (cl:=[]) rfl ⟨8,8,∅,∅,λx c h=>(by cases h),dY rfl,8,λi n h=>(by simp at h)⟩
    (cF (fU iH (pv 4) (eZ aE) jK)) (λ_ _ _ _ _=>(qQ1 (i:=0) Yr)) (λ_ _ _ _ _=>eU)
    (λ_ _ _ _ _=>(fU (Pb (K:=Z.K) rfl) (pv 0) (eZ aE) jK))) (aA (fU iH (pv 5) (eZ aE) jK) aC)))))))))))),7⟩
 let⟨dx,hn⟩:=nt.ob;exists 9,n,dx,9,hn,eE _ _ ∅ ∅,n,l,_,ds,8,nt,6,λa xs H1 s1 na ea Rb=>?_;let ak:=Rb.length;let⟨aw,ax⟩:=(nt.same s1).ob;exists 9,n,aw,9,ax,eE _ _ ∅ ∅,n,l,_,ds,8,nt.same s1,7;exists 9,9,a,8,⟨_,SqL.of ea⟩,λC0 a3=>?_;let ay:=aG a3 (.lst []);refine clS a3 (xs:=xs) (λi zs H'=>zs.length=bZ (ds.take i)) rfl (λ_ h=>h.seq (SqL.of ea)) ?_ ?_
 .rintro i zs x H2 F ⟨s2,e2,lz⟩ C hC;let hi:i < ds.length:=by
   have:=(wk.mp F).1;lia
  obtain⟨⟨k0,u,v,p⟩,hd⟩:∃d,ds[i]?=some d:=⟨_,getElem?_eq_getElem hi⟩
  let⟨y,z,ey,rw,fz⟩:=Rb.at hd;let ex:x=.ref y:=by rw[ey] at F;exact(Option.some.inj F).symm
  subst ex;let⟨X,Y⟩:=id (rw.same s2);let et:ds.take (i+1)=ds.take i++[(k0,u,v,p)]:=by rw[take_add_one,hd];rfl
  let lh:=Vu (ds:=ds) i;let az:bZ ds<=ds.length:=length_filter_le _ _;exists dU.1,dU.2,7;exists 9,k0,y,X,9,Y,(eJ _ _ _ ∅ ∅ ∅),9,8,9,7
  by_cases hk:k0=.ho
  .refine ifT (zzT k0 .ho hk) ⟨9,e2,aZ (),hC _ _ ⟨s2.change a3,aB,7⟩⟩;rw[et,iK,wq,lz];show _+1=_+cT k0;unfold cT;rw[if_pos hk]
  .refine ifF (zzF k0 .ho hk) (hC _ _ ⟨s2,e2,7⟩);rw[et,iK,lz];show _=_+cT k0;unfold cT;rw[if_neg hk];rfl
 rintro a4 H2 ⟨s2,e2,al⟩;rw[ak,take_length] at al;exists C0,a4,8,.inl (SqL.of e2),_,9,8,7;obtain⟨W,hW⟩:∃W:Nat,W=m+bZ ds:=⟨9⟩
 let az:bZ ds<=ds.length:=length_filter_le _ _;let eW:(m:Int)+(a4.length:Int)=(W:Int):=by rw[al,hW];lia
 show kH _ _ _ [some (.ref n),some (.ref a),some (.int (m:Int)),some (.int ((m:Int)+(a4.length:Int))),none,none,none,none] H2;rw[eW];let a5:W<=60:=by lia
 let a6:m<=W:=by lia
 let a0:=s2;clear e2 ay;exists 9,(W:Int),8,6,6,λD hD=>?_;rw[Int.toNat_natCast];refine qo3 (K:=Z.K) hD a5 (λi H3 Zq s3 zq=>?_) λas H3 s3 a7 fr=>?_
 .exists zl9 1,λl1 a8=>?_;let⟨H4,o,J,e4⟩:=nw a8 (.lst [.ref Z.aN]);rw[o];exists 9,l1,(W:Int),[.ref Z.aN],8,8,e4,6,6,7,λb hb=>?_
  .rw[Int.toNat_natCast,sizeLine_eq];simp only[length_cons,length_nil];lia
  rw[Int.toNat_natCast,oC];exact zq b _ _ (J.trans (aG hb _)) (J.free hb) aB (jW (fN _) W)
 let bj:H2 D=none:=hD;exists zl9 1,λl1 a8=>?_;let⟨H4,o,J,e4⟩:=nw a8 (.lst [.ref Z.aN]);rw[o];exists 9,l1,(W:Int),[.ref Z.aN],8,8,e4,6,6,7,λR hR=>?_
 .rw[Int.toNat_natCast,sizeLine_eq];simp only[length_cons,length_nil];lia
 rw[Int.toNat_natCast,oC];let⟨H5,o,s5,e5⟩:=nw hR (.lst (replicate W (.ref Z.aN)));rw[o];let am:=s3.trans (J.trans s5);let an:H2 R=none:=(s3.trans J).free hR;let ao:R≠D:=Ne.symm (bA ((J) _ _ a7.d) hR);let a9:R∉as:=λz=>by let⟨ws,h⟩:=a7.lsts R z;rw[J _ _ h] at hR;cases hR
 let b0:=(a7.same J).same s5;let av:∀b∈R :: as,H2 b=none:=λb hb=>by
  rcases mem_cons.mp hb with z | z
  .rw[z];exact an
  .exact fr b z
 let F5:Fqs Z.K H5 (replicate W (.ref Z.aN)) (replicate W (0,1)):=jW (fN _) W;exists 9,7;let ap:=a0 _ _ ea;let b7:=Rb.same a0;exists 9,a,8,⟨_,SqL.of (am _ _ ap)⟩,7;refine eX (xs:=xs) (λi σ H'=>aS H2 H'/\∃(M:List (List Mq.Q2))(ys:vk)(rs:List Mq.Q2)(z7:Option V),σ=[some (.ref n),some (.ref a),some (.int (m:Int)),some (.int (W:Int)),some (.ref D),some (.ref R),some (.int ((m+bZ (ds.take i):Nat):Int)),z7]/\Mx Z.K H' D as M/\MxB M W W (mL e i+1)/\H' R=some (.lst ys)/\Fqs Z.K H' ys rs/\LnB rs W (mL e i+1)/\(∀x y,Mq.val (kQ M x y)=eqM m (ds.take i) x y)/\∀x,Mq.val (rs.getD x (0,1))=eqR m (ds.take i) x) ⟨am,_,_,_,none,8,b0,Xj W,e5,F5,Xt W,λx y=>by rw[Ux,Mq.mQ];rfl,λx=>by rw[Ar,Mq.mQ];rfl⟩ (λi σ H' _ h=>h.1.seq (SqL.of ap)) ?_ ?_
 .rintro i x σ H6 F ⟨L,M,ys,rs,z7,rfl,A,I,eR,FR,N,vM,O⟩;let hi:i < ds.length:=by
   have:=(wk.mp F).1;lia
  obtain⟨⟨k0,u,v,p⟩,hd⟩:∃d,ds[i]?=some d:=⟨_,getElem?_eq_getElem hi⟩
  let⟨y,z,ey,b8,ba⟩:=b7.at hd;let ex:x=.ref y:=by rw[ey] at F;exact(Option.some.inj F).symm
  subst ex;let⟨G,bp⟩:=hK i _ hd;let lp:Mq.Low p:=G.2.2.2.2.1;let bp:Mq.Bd (e i) p:=bp;let aa:cO (m:Int) u v:=⟨G.1,G.2.1,G.2.2.1,G.2.2.2.1⟩
  let ac:cO (W:Int) u v:=⟨G.1,by have:=G.2.1;show u < (W:Int);let h2:u < (m:Int):=this;lia,G.2.2.1,by let h2:v < (m:Int):=G.2.2.2.1;show v < (W:Int);lia⟩
  let a1:=b8.same L;let ad:Fq Z.K H6 z p:=L.fq ba;let⟨X,Y⟩:=id a1;let et:ds.take (i+1)=ds.take i++[(k0,u,v,p)]:=by rw[take_add_one,hd];rfl
  let hh:=Vu (ds:=ds) (i+1);rw[et,iK] at hh;let hh:bZ (ds.take i)+cT k0<=bZ ds:=hh;let eN:mL e (i+1)+1=(mL e i+1)+(4*e i+20):=by show mL e i+(4*e i+20)+1=_;lia
  let bn:mL e i+(4*e i+20)<=mL e ds.length:=zP e (i:=i+1) hi;let eM:∀x y,eqM m (ds.take (i+1)) x y=eqM m (ds.take i) x y+cM (k0,u,v,p) (m+bZ (ds.take i)) x y:=λx y=>by rw[et,Fv]
  let ae:∀x,eqR m (ds.take (i+1)) x=eqR m (ds.take i) x+cR (k0,u,v,p) (m+bZ (ds.take i)) x:=λx=>by rw[et,Hs]
  let eH:bZ (ds.take (i+1))=bZ (ds.take i)+cT k0:=by rw[et,iK]
  rw[eN,eH];let lst:=A.lsts
  cases k0 with
  |pc=>
   let p0:0 < p.1:=G.2.2.2.2.2.1 rfl;exists 9,Kd.pc,y,X,9,Y,(eJ _ _ _ ∅ ∅ ∅),9,8,9,ifT (zzT .pc .pc rfl) ?_;exists 9,9,D,y,z,as,M,(.pc,u,v,p),W,mL e i+1,e i,8,A,I,a1,ad,ac,lp,p0,bp,6,λH7 g B=>?_;let⟨af,v7⟩:=qs0 (d:=(.pc,u,v,p)) (h:=m+bZ (ds.take i)) I aa a6 rfl lp p0 bp;let S:=g _ _ eR a9;exists SX.same L g fr,_,ys,rs,9,B,af.mono (),S,SX.fqs lst g FR,N.mono (),λx y=>by rw[v7,vM,eM],λx=>?_;rw[O,ae];show _=_+(0:Rat)
   rw[Rat.add_zero]
  |pu=>
   exists 9,Kd.pu,y,X,9,Y,(eJ _ _ _ ∅ ∅ ∅),9,8,9,ifF (zzF .pu .pc ∅) ?_;exists 9,Kd.pu,y,X,9,Y,(eJ _ _ _ ∅ ∅ ∅),9,8,9,ifT (zzT .pu .pu rfl) ?_;exists 9,9,R,y,z,ys,rs,(.pu,u,v,p),W,mL e i+1,e i,8,eR,FR,N,a1,ad,ac,lp,bp,6,λag H7 g S F7=>?_;let⟨ah,v7⟩:=qx7 (d:=(.pu,u,v,p)) (h:=m+bZ (ds.take i)) N aa a6 rfl lp bp;let B:Mx Z.K H7 D as M:=⟨g _ _ A.d (by simp;exact Ne.symm ao),A.n,A.nd,A.la,λi' b ps h1 h2=>by
    let⟨ws,h,f⟩:=A.r i' b ps h1 h2;refine⟨ws,g _ _ h (by simp;exact λz=>a9 (by rw[<- z];exact mem_of_getElem? h1)),SX.fqs (as:=[R]) (λc hc=>?_) g f⟩;have:c=R:=by simpa using hc
    exact⟨ys,by rw[this];exact eR⟩⟩
   refine⟨SX.same L g (λc hc=>by have:c=R:=(by simpa using hc);rw[this];exact an),M,ag,_,9,B,I.mono (),S,F7,ah.mono (),λx y=>?_,λx=>by rw[v7,O,ae]⟩;rw[vM,eM];show _=_+(0:Rat)
   rw[Rat.add_zero]
  |ho=>
   let aq:cT Kd.ho=1:=rfl;rw[aq] at hh;let ai:m+bZ (ds.take i) < W:=by lia
   exists 9,Kd.ho,y,X,9,Y,(eJ _ _ _ ∅ ∅ ∅),9,8,9,ifF (zzF .ho .pc ∅) ?_;exists 9,Kd.ho,y,X,9,Y,(eJ _ _ _ ∅ ∅ ∅),9,8,9,ifF (zzF .ho .pu ∅) ?_;exists 9,9,9,9,D,R,y,z,as,M,ys,rs,(.ho,u,v,p),W,mL e i+1,m+bZ (ds.take i),8,A,I,eR,FR,N.w,ao,a9,a1,ad,ac,ai,6,λag H7 g B S F7=>?_;let⟨af,v7⟩:=qx6 (d:=(.ho,u,v,p)) I aa a6 ai rfl;let z0:Mq.val (rs.getD (m+bZ (ds.take i)) (0,1))=0:=by
    rw[O];exact zR (m:=m) _ _ _ (λd bb=>by
     let⟨i1,bc⟩:=getElem?_of_mem (mem_of_mem_take bb);have:=(hK i1 d bc).1;exact⟨this.1,this.2.1,this.2.2.1,this.2.2.2.1⟩) (Nat.le_refl _) (Nat.le_refl _)
   let⟨ah,w7⟩:=qw2 (m:=m) (d:=(.ho,u,v,p)) N ai rfl lp bp z0;exists 9,_,9,8,7;refine⟨SX.same L g av,_,ag,_,some (.ref y),7,B,af.mono (),S,F7,ah.mono (),λx y=>by rw[v7,vM,eM],λx=>by rw[w7,O,ae]⟩;let e1:((m+bZ (ds.take i):Nat):Int)+1=((m+(bZ (ds.take i)+cT Kd.ho):Nat):Int):=by rw[aq];lia
   rw[<- e1];rfl
 rintro σ H6 ⟨L,M,ys,rs,z7,rfl,A,I,eR,FR,N,vM,O⟩;rw[ak] at I N vM O;rw[take_length] at vM O;exists 9,1,8,D,9,SqL.of A.d,λC hC=>?_;rw[Vg];let⟨H7,o,s7,e7⟩:=nw hC (.lst ((as.map V.ref).drop 1));rw[o];let B:=A.same s7;exists C,8,⟨_,SqL.of e7⟩,λP hP=>?_;refine Wq B e7 hP (by rw[I.h];exact a5) λus H8 s8 e8 fm nP=>?_;let aj:=s7.trans s8;let be:=aj _ _ eR;exists 9,1,8,R,9,SqL.of be,λr a2=>?_;rw[Vg];let⟨H9,o,s9,e9⟩:=nw a2 (.lst (ys.drop 1));rw[o];exists zl9 2,λt ht=>?_;let sT:=aG ht (.tup [.ref P,.ref r]);let U:=s9.trans sT;let s0:aS H (upd H9 t (.tup [.ref P,.ref r])):=s1.trans (a0.trans (L.trans (aj.trans U)));let ar:aS H H7:=s1.trans (a0.trans (L.trans s7));let fl:∀c,H7 c=none->H c=none:=λc h=>ar.free h;refine q t P r us (ys.drop 1) ((M.drop 1).map (List.drop 1)) (rs.drop 1) _ s0 aB (fl P hP) ((ar.trans s8).free a2) (U _ _ e8) (sT _ _ e9) ⟨fm.l,λi x ps h1 h2=>?_⟩ (Fqs.drop1 (FR.same (aj.trans U))) (λx F=>⟨nP x F,7⟩) ⟨7,7,7,7⟩
 .let⟨a',au,q1,q2,q3,q4⟩:=fm.r i x ps h1 h2;exists a',au,q1,fl a' q2,U _ _ q3,q4.same U
 .intro z;let⟨i,hi⟩:=getElem?_of_mem F;let il:i < ((M.drop 1).map (List.drop 1)).length:=by rw[<- fm.l];exact(wk.mp hi).1
  let⟨a',au,q1,q2,q3,q4⟩:=fm.r i x _ hi (getElem?_eq_getElem il);rw[q1] at z;have:a'=r:=by injection z
  rw[<- this,q3] at a2
  cases a2
 .have:=Vl I
  rwa [show W - 1=m - 1+bZ ds by lia] at this
 .have:=Qu N
  rwa [show W - 1=m - 1+bZ ds by lia] at this
 .intro i j;rw[Po];exact vM _ _
 .intro i;rw[wQ];exact O _
theorem Y48:DZ 2 Z.f48 Z.d48 ["some"] (Shp.Tw Z.K) "in_wholes":=by
 exists 7,F48.b1 _ (by intros;rfl),F48.kp,m48
 refine F48.ok9 Yi λ_ _ _ s H _ Q E R h=>?_;let⟨a,xs,ps,n,rfl,l,F,m,g,S,hn,q⟩:=h;refine⟨_,(aD (aT (i:=1) Yi.nd rfl (Or.inr rfl) aE)
  (aD (dE PassesOwn.never rfl (cF (pv 0)) (qQ1 (i:=2) Yi.nd)
   (aF (aT (i:=1) Yi.nd rfl (Or.inr rfl) (aY cV (aY jN (pv 1) (d9 Y4 R rfl (aA (pv 1) (aA (aR bC (pv 2) aE) aC)))) (aR bC (pv 2) aE)))))
  (aF (aU (dD (aA (dM (nl:=1) (fr:=[1]) (Nc:=["one","bottom"]) (cl:=[("bottom",s.heap.objs.size+1)]) rfl ⟨8,8,∅,∅,λx c h=>h,dY rfl,8,λi n h=>match i,h with | 0,h=>by cases h;exact⟨1,8,8,8,8,.inl rfl⟩ | k+1,h=>by rw[show 1+(k+1)=k+2 by lia] at h;cases h⟩
    (cF (pv 0)) (λ_ _ _ _ _=>(qQ1 (i:=0) zK)) (λ_ _ _ _ _=>eU)
    (λ_ _ _ _ _=>(aY cV (aR (rW (K:=Z.K) rfl) (pv 0) aE) (aY jN (pv 1) (aR (rW (K:=Z.K) rfl) (pv 0) aE))))) (aA (pv 1) aC))))))),7⟩
 let L:=F.length;exists 9,a,8,⟨_,l⟩,7;refine eX (xs:=xs) (λi σ H'=>H'=H/\i<=ps.length/\∃z,σ=[some (.ref a),some (.int (fB (ps.take i))),z]) ⟨8,Nat.zero_le _,none,8⟩ (λi σ H' _ h=>by rw[h.1];exact l) ?_ ?_
 .rintro i x σ H' G ⟨rfl,hi,z,rfl⟩;let⟨u,p,rfl,d,o⟩:=F.get G;let y:i < ps.length:=(wk.mp d).1;let⟨M,r,_⟩:=qC m g i hi;let mono:=Nat.mul_le_mul_left n hi;let hp:=m p (mem_of_getElem? d);let N:=(g p (mem_of_getElem? d)).b;let I:gc (fB (ps.take i)) p.2≠0:=by have:=Mq.yD (a:=fB (ps.take i)) (show p.2≠0 by lia);lia
  let T:Mq.B n (gc (fB (ps.take i)) p.2):=by
   have:=Il (t:=fB (ps.take i)) (show p.2≠0 by lia);rw[Zf ()] at this;exact N.le this
  let U:Mq.B (1+n*i) (Int.fdiv (fB (ps.take i)) (gc (fB (ps.take i)) p.2)):=by
   let d1:gc (fB (ps.take i)) p.2 ∣ fB (ps.take i):=by unfold gc;exact Int.gcd_dvd_left ..
   let⟨k,j⟩:=d1;have:=Mq.jX I j;rw[gQ I j];exact r.le this
  exists 9,9,cY rfl o ⟨_,9,gR I T () (cY rfl o (cU U N () () ?_))⟩;exists 8,y,some (.ref u),7;rw[Mq.pH d];rfl
 rintro σ H' ⟨rfl,_,z,rfl⟩;rw[L,take_length];let⟨M,r,O⟩:=qC m g ps.length (Nat.le_refl _);rw[take_length] at M r O;exists 9,a,8,⟨_,l⟩,λD J=>?_;refine clS J (xs:=xs) (λi zs H1=>zs=((ps.take i).map (Fe (fB ps))).map V.int) rfl (λ_ h=>h.seq l) ?_ ?_
 .rintro i zs x H1 G ⟨v,w,rfl⟩ C W;let⟨u,p,rfl,d,o⟩:=F.get G;let y:i < ps.length:=(wk.mp d).1;let f:=mem_of_getElem? d;let hp:=m p f;let⟨k,j⟩:=O p f;let A:=v.fq o;let X:Mq.B (1+n*ps.length) (Int.fdiv (fB ps) p.2):=by
   let e:=gQ (show p.2≠0 by lia) (show fB ps=p.2*k by rw[j,Int.mul_comm]);rw[e];refine r.le ?_;rw[j,Int.natAbs_mul];exact Nat.le_mul_of_pos_right _ ()
  exists dU.1,dU.2,fZ ?_;refine fQ rfl A ⟨9,cY rfl A (gR (show p.2≠0 by lia) (g p f).b () (cU (g p f).a X () () ?_))⟩;exists w,aZ (by rw[length_map,length_map,length_take];lia),W _ _ ⟨v.change J,aB,7⟩;rw[take_add_one,d,map_append,map_append];rfl
 rintro zs H1 ⟨v,w,rfl⟩;rw[L,take_length] at w;exists 9,zl9 2,λt Y=>?_;let P:=aG Y (.tup [.ref D,.int (fB ps)]);exact q t D _ (v.trans P) J (SqT.of aB) (P _ _ w)
theorem Y49:DZ 1 Z.f49 Z.d49 ["rows","rank","column"] (Shp.Se Z.K) "pivot_place":=by
 exists 7,F49.b3 _ _ _ (by intros;rfl),F49.kp,m49
 refine F49.ok9 qe0 λ_ _ _ s H _ Q E C h=>?_;let⟨l,D,zs,R,r,c,m,F,rfl,b,d,hm,hw,g,B,o,p,q⟩:=h;refine⟨_,(aD (dE PassesOwn.never rfl (Ai rfl n_range (aA (pv 1) (aA (bX bV rfl n_len PySem.boot_len (aA (pv 0) aC)) aC))) (qQ1 (i:=3) qe0.nd)
   (aF (cD (bH jQ (aR bK (aR bK (pv 0) (pv 3)) (pv 2)) aE (bL _)) (aF (aU (pv 3))) bN)))
  (aF (aU Ee))),7⟩
 let G:=d.length;obtain⟨k,I⟩:∃k,m=r+k:=⟨m - r,6⟩
 exists 9,9,l,zs,8,.inl b,(r:Int),(zs.length:Int),8,⟨6,6,6,6⟩,7;rw[show ((zs.length:Int) - (r:Int)).toNat=k by lia];refine gD (lo:=(r:Int)) (n:=k) (λi σ H'=>H'=H/\(∀j,r<=j->j < r+i->ent R j c=0)/\∃z,σ=[some (.ref l),some (.int (r:Int)),some (.int (c:Int)),z]) ⟨8,λj h1 h2=>absurd h1 (),none,8⟩ ?_ ?_
 .rintro i σ H' hi ⟨rfl,a,z,rfl⟩;let⟨u,t,J,v⟩:=d.at (i:=r+i) ();let f:atI zs ((r:Int)+(i:Int))=some (.ref u):=by have:=bM t;rwa [Int.natCast_add] at this
  let w:=bM (mB (l:=R.getD (r+i) []) (i:=c) (by rw[hw _ ()];exact g));exists 9,9,l,zs,_,9,8,b,f,9,u,_,_,9,8,SqL.of v,w,8,9,rF (λe=>?_) (λe=>?_)
  .exists 9,7;let x:ent R (r+i) c≠0:=λz=>by
    let y:(R.getD (r+i) []).getD c 0=0:=z;rw[y] at e;simp at e
   have:=p (r+i) () () x
   rwa [Int.natCast_add] at this
  .exists 8,λj h1 h2=>?_,9
   by_cases A:j=r+i
   .rw[A];simp at e;exact e
   .exact a j h1 ()
 .rintro σ H' ⟨rfl,a,z,rfl⟩;exact q λi h1 h2=>a i h1 ()
theorem Y50:DZ 1 Z.f50 Z.d50 ["row","upper","column","divisor"] (Shp.uH Z.K) "cleared":=by
 exists 7,F50.b4 _ _ _ _ (by intros;rfl),F50.kp,m50
 refine F50.ok9 Vk λ_ _ _ s H _ Q E M h=>?_;let⟨u,v,row,a,c,n,b,rfl,d,e,N,t,O,w,b1,b2,bd,P,q⟩:=h;refine⟨_,(aD (aT (i:=4) Vk.nd rfl (Or.inr rfl) (aR bK (pv 1) (pv 2)))
  (aD (aT (i:=5) Vk.nd rfl (Or.inr rfl) (aR bK (pv 0) (pv 2)))
  (aF (aU (dM (nl:=2) (fr:=[4,5,3]) (Nc:=["here","above","own","other","divisor"]) (cl:=[("own",s.heap.objs.size+2),("other",s.heap.objs.size+3),("divisor",s.heap.objs.size+1)]) (g:=(Dc Z.K 2 (iU (gX 0) (iU (gX 1) Dy)))) rfl ⟨8,8,∅,∅,(fL rfl (fL rfl (fL rfl (qQ)))),dY rfl,8,λi n h=>match i,h with | 0,h=>by cases h;exact⟨4,8,8,8,8,.inl rfl⟩ | 1,h=>by cases h;exact⟨5,8,8,8,8,.inl rfl⟩ | 2,h=>by cases h;exact⟨3,8,8,8,8,.inl rfl⟩ | k+3,h=>by rw[show 2+(k+3)=k+5 by lia] at h;cases h⟩
    (tH rfl n_zip rfl (aA (pv 0) (aA (pv 1) aC))) (λ_ _ _ _ _=>(gW rfl (bU (qQ1 (i:=0) fI) (bU (qQ1 (i:=1) fI) fK)))) (λ_ _ _ _ _=>eU)
    (λ_ _ _ _ _=>(aY jN (aY kD (aY cV (pv 2) (pv 0)) (aY cV (pv 3) (pv 1))) (pv 4)))))))),7⟩
 let z:=bM (mB (l:=a) (i:=c) ());let A:=bM (mB (l:=row) (i:=c) ());exists 9,9,v,_,_,9,8,e,z,7;exists 9,9,u,_,_,9,8,d,A,7;exists 9,9,u,v,8,⟨_,d⟩,⟨_,e⟩,λD f=>?_;let F:=aG f (.lst []);refine wU (xs:=row.map V.int) (ys:=a.map V.int) (λi zs H'=>aS H H'/\H' D=some (.lst zs)/\zs=((iL a row c b).take i).map V.int) ⟨F,aB,8⟩ (λi zs H' h=>h.2.1) (λi zs H' _ h=>⟨h.1.seq d,h.1.seq e⟩) ?_ ?_
 .rintro i zs x y H1 G ex m ⟨j,e1',rfl⟩ I C J;let hi:i < row.length:=by have:=(wk.mp ex).1;simpa using this
  let ex':x=.int (row.getD i 0):=by rw[mB hi] at ex;cases ex;rfl
  let o:y=.int (a.getD i 0):=by rw[mB ()] at m;cases m;rfl
  subst ex' o;let p:=aG I (.tup [.int (row.getD i 0),.int (a.getD i 0)]);exists G,9,SqT.of aB,8,_,9,_,9,8,jC.1,jC.2,fZ ?_;let R:Mq.B (n+n+1) (a.getD c 0*row.getD i 0 - row.getD c 0*a.getD i 0):=Mq.B.sub ((b2 c).mul (b1 i)) ((b1 c).mul (b2 i));exists 9,9,cU (b2 c) (b1 i) () () ⟨9,9,cU (b1 c) (b2 i) () () ⟨_,9,8,9,gR w bd () ?_⟩⟩;let r:(iL a row c b).length=row.length:=by unfold iL;rw[length_zipWith];lia
  let L:=p _ _ e1';exists L,aZ (by rw[length_map,length_take];lia),J _ _ ⟨(j.trans p).change f,aB,7⟩;let eg:(iL a row c b)[i]?=some (Int.fdiv (a.getD c 0*row.getD i 0 - row.getD c 0*a.getD i 0) b):=by
   unfold iL;rw[getElem?_zipWith,oA hi,oA (show i < a.length by lia)]
  rw[take_add_one,eg,map_append];rfl
 rintro zs H1 ⟨j,e1',rfl⟩;let r:(iL a row c b).length=row.length:=by unfold iL;rw[length_zipWith];lia
 rw[length_map,length_map,take_of_length_le (by rw[r];lia)] at e1';exact q D H1 j f e1'
theorem Y51:DZ 2 Z.f51 Z.d51 ["rows","rank","column","divisor"] (Shp.tD Z.K) "cleared_rows":=by
 exists 7,F51.b4 _ _ _ _ (by intros;rfl),F51.kp,m51
 refine F51.ok9 Ab λ_ _ _ s H _ Q E U h=>?_;let⟨l,D0,zs,R,r,c,m,w',n,a,rfl,t,w,hm,hw,V,p,I,W,X,J,bd,Y,q⟩:=h;refine⟨_,(aD (aT (i:=4) Ab.nd rfl (Or.inr rfl) (aR bK (pv 0) (pv 1)))
  (aF (aU (dM (nl:=2) (fr:=[4,1,3,2]) (Nc:=["place","row","upper","rank","divisor","column"]) (cl:=[("upper",s.heap.objs.size+4),("rank",s.heap.objs.size+1),("divisor",s.heap.objs.size+3),("column",s.heap.objs.size+2)]) (g:=(Dc Z.K 2 (iU (gX 0) (iU (gX 1) Dy)))) rfl ⟨8,8,∅,∅,(fL rfl (fL rfl (fL rfl (fL rfl (qQ))))),dY rfl,8,λi n h=>match i,h with | 0,h=>by cases h;exact⟨4,8,8,8,8,.inl rfl⟩ | 1,h=>by cases h;exact⟨1,8,8,8,8,.inl rfl⟩ | 2,h=>by cases h;exact⟨3,8,8,8,8,.inl rfl⟩ | 3,h=>by cases h;exact⟨2,8,8,8,8,.inl rfl⟩ | k+4,h=>by rw[show 2+(k+4)=k+6 by lia] at h;cases h⟩
    (Ea rfl n_enumerate rfl (aA (pv 0) aC)) (λ_ _ _ _ _=>(gW rfl (bU (qQ1 (i:=0) dR) (bU (qQ1 (i:=1) dR) fK)))) (λ_ _ _ _ _=>eU)
    (λ_ _ _ _ _=>(nX (bH eO (pv 0) (pv 3) (bL _)) (pv 1) (d9 Y50 U rfl (aA (pv 1) (aA (pv 2) (aA (pv 5) (aA (pv 4) aC))))))))))),7⟩
 let lz:=w.length;let⟨v,ev,nv,hv⟩:=w.at (i:=r) ();exists 9,9,l,zs,_,9,8,t,bM ev,7;exists 9,l,8,⟨_,t⟩,λD b=>?_;let sD:=aG b (.lst []);let ll:=Mq.Nq R r c a;refine Ax (xs:=zs) (λi ys H'=>aS H H'/\H' D=some (.lst ys)/\Imx D H' ys ((cN R r c a).take i)) ⟨sD,aB,.nil⟩ (λi ys H' h=>h.2.1) (λi ys H' _ h=>h.1.seq t) ?_ ?_
 .rintro i ys x H1 L ex ⟨y,A,I1⟩ hT C M;let hi:i < m:=by have:=(wk.mp ex).1;lia
  let⟨u,eu,nu,B⟩:=w.at (i:=i) ();let N:x=.ref u:=by rw[eu] at ex;cases ex;rfl
  subst N;let lI:=I1.length;rw[length_take] at lI;let O:=rG (R:=R) (i:=i) () r c a;let P:(cN R r c a).take (i+1)=(cN R r c a).take i++[(cN R r c a).getD i []]:=by
   rw[take_add_one,getD_eq_getElem?_getD,getElem?_eq_getElem (show i < (cN R r c a).length by lia)];rfl
  let d:=aG hT (.tup [.int (i:Int),.ref u]);let uD:∀{x:Addr}{o:HO},H x=some o->x≠D:=λh z=>by rw[z,b] at h;cases h
  exists L,9,SqT.of aB,8,_,9,_,9,8,jC.1,jC.2,fZ ?_;generalize upd H1 L (.tup [.int (i:Int),.ref u])=H2 at d ⊢;let f:=y.trans d;let F:=d _ _ A;exists 9,9,8,9,rF (λe=>?_) (λe=>?_)
  .let G:i=r:=by simp at e;lia
   exists 9,F,aZ (),M _ _ ⟨f.change b,aB,7⟩;rw[P,O,if_pos G];exact((I1.same d).app (.cons (uD B) (f _ _ B) .nil)).upd
  .let G:i≠r:=by simp at e;lia
   exists 9,9,9,9,u,v,R.getD i [],R.getD r [],c,n,a,8,SqL.of (f _ _ B),SqL.of (f _ _ hv),by rw[hw i hi,hw r I],by rw[hw i hi];exact p,by rw[hw i hi];exact V,X,λj=>J i j,λj=>J r j,bd,Y,λl3 H3 s3 S e3=>?_;let eB:=s3 _ _ F;let T:l3≠D:=λz=>by rw[z,F] at S;cases S
   exists eB,aZ (),M _ _ ⟨(f.trans s3).change b,aB,7⟩;rw[P,O,if_neg G];exact((I1.same (d.trans s3)).app (.cons T e3 .nil)).upd
 rintro ys H1 ⟨y,A,I1⟩;rw[lz,take_of_length_le ()] at I1;exact q D ys H1 y b A I1
theorem Y52:DZ 3 Z.f52 Z.d52 ["rows","width"] (Shp.Dk Z.K) "eliminated":=by
 exists 7,F52.b2 _ _ (by intros;rfl),F52.kp,m52
 refine F52.ok9 iX λ_ _ _ s H _ Q E hr h=>?_;let⟨l,D0,zs,R,m,X,n,Pr,rfl,hS,hI,hm,hw,ag,Y,hB,ah,hn,y,a4,a0,q⟩:=h;let r1:=hr.mono (show 1<=2 by lia);refine⟨_,(aD (qQ0 (i:=0) iX.nd (gC fY rfl n_list PyProof.Rows.boot_list (aA (pv 0) aC)))
  (aD (qQ0 (i:=2) iX.nd aE)
  (aD (qQ0 (i:=3) iX.nd aE)
  (aD (qQ0 (i:=4) iX.nd aE)
  (aD (dE PassesOwn.never rfl (gE rfl n_range (aA (pv 1) aC)) (qQ1 (i:=5) iX.nd)
   (aD (qQ0 (i:=6) iX.nd (d9 Y49 r1 rfl (aA (pv 0) (aA (pv 2) (aA (pv 5) aC)))))
  (aD (cD (oH (uG (pv 6))) (aF Hf) bN)
  (aD (cD (bH jQ (pv 6) (pv 2) (bL _)) (aD (qQ0 (i:=7) iX.nd (aR bK (pv 0) (pv 6)))
  (aD (jB (aR bK (pv 0) (pv 2)) (kL (pv 0) (pv 6) gY))
  (aD (jB (pv 7) (kL (pv 0) (pv 2) gY))
  (aF (qQ0 (i:=4) iX.nd (Fo wD (pv 4))))))) bN)
  (aD (qQ0 (i:=0) iX.nd (d9 Y51 hr rfl (aA (pv 0) (aA (pv 2) (aA (pv 5) (aA (pv 3) aC))))))
  (aD (qQ0 (i:=3) iX.nd (aR bK (aR bK (pv 0) (pv 2)) (pv 5)))
  (aF (Jg (i:=2) iX.nd rfl (Or.inl rfl) aE Id))))))))
  (aF (aU (Mv (oJ cC (pv 0) (oJ cC (pv 2) (oJ cC (pv 3) (oJ cC (pv 4) Lk)))) rfl rfl ⋯ ∅)))))))),7⟩
 exists 9,l,zs,8,.inl hS,λl0 N=>?_;let⟨H0,a5,s0,e0⟩:=nw N (.lst zs);rw[a5];exists 9,(m:Int),8,6,6,7;rw[Int.toNat_natCast];let b1:Mq.B n 1:=by
  show 1 < 2 ^ n;exact Nat.one_lt_two_pow ()
 refine gD (lo:=0) (n:=m) (λi σ H'=>aS H H'/\∃(f:Addr)(c:vk)(k:List (List Int))(a:Nat)(b g:Int)(z5 z6 O:Option V),σ=[some (.ref f),some (.int (m:Int)),some (.int (a:Int)),some (.int b),some (.int g),z5,z6,O]/\H f=none/\H' f=some (.lst c)/\Imx f H' c k/\SI m X (Mq.at2 R) k a i b g/\Mq.SB n m k a i b/\Pr k) ⟨s0,l0,zs,R,0,1,1,none,none,none,8,N,e0,(hI.other N).same s0,.start hm hw,.start hB,a4⟩ ?_ ?_
 .rintro i σ H1 hi ⟨F,f,c,k,a,b,g,z5,z6,O,rfl,P,t,v,j,G,p1⟩;rw[Int.zero_add];let⟨bR,bP⟩:=G.bd5 j y;let⟨A1,c1,I,_⟩:=j.bar;let rm:=I.rm;let rc:=I.rc;let dn:b≠0:=λz=>I.dne (by rw[z];simp);clear I;exists 9,9,9,f,f,c,k,a,i,m,X,8,SqL.of t,v,j.len,j.wid,6,rm,6,λp h1 h2 ne=>?_,λhz=>?_
  .exists 9,9,gB ?_;let x:a < m:=by lia
   refine(λ(hrest:∀(J:Int) (z:Option V) (S:Hp) (D:vk) (R2:List (List Int)),aS H S->S f=some (.lst D)->Imx f S D R2->SI m X (Mq.at2 R) R2 a i b J->ent R2 a i≠0->Mq.SB n m R2 a i b->Pr R2->W.KIN.Hid ((?T:Int->Option V->Hp->Prop) J z S))=>?main) ?rest
   case main=>
    exists 9,9,8,9,rF (λe=>?c1) (λe=>?c2)
    case c1=>
     let ai:p≠a:=by simp at e;lia
     let⟨w,a6,a1,a7⟩:=v.at (i:=p) (by rw[j.len];lia);let⟨r,a8,a9,aa⟩:=v.at (i:=a) (by rw[j.len];lia);let lz:c.length=m:=v.length.trans j.len;exists 9,9,f,c,_,9,8,SqL.of t,bM a6,7;exists 9,9,f,c,_,9,8,SqL.of t,bM a8,9,9,f,c,_,p,8,8,t,iR (),7;let e2:upd H1 f (.lst (c.set p (.ref r))) f=some (.lst (c.set p (.ref r))):=aB;let I2:=(Imx.set a9 aa p v).upd (o:=.lst (c.set p (.ref r)));let s2:aS H (upd H1 f (.lst (c.set p (.ref r)))):=F.change P;let A:upd H1 f (.lst (c.set p (.ref r))) w=some (.lst ((k.getD p []).map V.int)):=by rw[aQ a1];exact a7
     generalize upd H1 f (.lst (c.set p (.ref r)))=H2 at e2 I2 s2 A ⊢;exists 9,9,9,f,_,_,a,8,8,e2,iR (by rw[length_set];lia),7;let U:upd H2 f (.lst ((c.set p (.ref r)).set a (.ref w))) f=some (.lst ((c.set p (.ref r)).set a (.ref w))):=aB;let L:=(Imx.set a1 A a I2).upd (o:=.lst ((c.set p (.ref r)).set a (.ref w)));let s3:aS H (upd H2 f (.lst ((c.set p (.ref r)).set a (.ref w)))):=s2.change P;generalize upd H2 f (.lst ((c.set p (.ref r)).set a (.ref w)))=H3 at U L s3 ⊢;exists 9,9,7;show kH _ _ _ [some (.ref f),some (.int (m:Int)),some (.int (a:Int)),some (.int b),some (.int (-g)),some (.int (i:Int)),some (.int (p:Int)),some (.ref w)] H3;let M:=j.swap (p:=p) () h2;let ac:=G.swap j (p:=p) () h2;let ad:ent (gJ k p a) a i≠0:=by
      unfold ent;rw[Ca (by rw[j.len];lia) (by rw[j.len];lia)];have:Mq.sw p a a=p:=by unfold Mq.sw;rw[if_pos rfl]
      rw[this];exact ne
     let ae:Imx f H3 ((c.set p (.ref r)).set a (.ref w)) (gJ k p a):=L;clear L A;let p3:=a0.sw _ _ _ _ _ _ j (show a < p by lia) h2 p1;generalize -g=J at M ⊢;generalize some (V.ref w)=zz at ⊢;exact(hrest J zz H3 _ _ s3 U ae M ad ac p3).out
    case c2=>
     let af:p=a:=by simp at e;lia
     show kH _ _ _ [some (.ref f),some (.int (m:Int)),some (.int (a:Int)),some (.int b),some (.int g),some (.int (i:Int)),some (.int (p:Int)),O] H1;exact(hrest g O H1 _ _ F t v j (by rw[<- af];exact ne) G p1).out
   case rest=>
   intro J z S D R2 sx ex Ix C nx bx px;exists 7;let a2:=bx.bd5 C y;exists 9,9,9,9,f,f,D,R2,a,i,m,X,bw n m,b,8,SqL.of ex,Ix,C.len,C.wid,6,Y,x,6,dn,a2.1,a2.2,hn,λl3 a3 H3 s3 n3 U L=>?_;let M:=C.clear x () nx;let b3:=bx.clear C x () nx;let⟨u,eu,nu,hu⟩:=L.at (i:=a) (by rw[M.len];lia);let ec:=bM (mB (l:=(cN R2 a i b).getD a []) (i:=i) (by rw[M.wid _ x];lia));exists 9,9,l3,a3,_,9,8,SqL.of U,bM eu,9,u,_,_,9,8,SqL.of hu,ec,7;exists 9,_,9,8,7;let ev:((cN R2 a i b).getD a []).getD i 0=ent R2 a i:=by rw[rG (by rw[C.len];lia),if_pos rfl];rfl
   exists sx.trans s3,l3,a3,_,a+1,ent R2 a i,J,some (.int (i:Int)),some (.int (p:Int)),z,7,sx.free n3,U,L,M,b3,a0.cl _ _ _ _ _ C x () nx px;rw[ev];rfl
  .exists 9,9,fZ ?_;exists F,f,c,k,a,b,g,_,_,9,P,t,v,j.skip hz,G.skip hz,p1
 .rintro σ H1 ⟨F,f,c,k,a,b,g,z5,z6,O,rfl,P,t,v,j,G,p1⟩;let⟨bR,bP⟩:=G.bd5 j y;let⟨A1,c1,I,_⟩:=j.bar;let rm:=I.rm;intro d hd;let nd:f≠d:=λz=>by rw[z,hd] at t;cases t
  exists 9,9,9,9,aB,[(.inr "rows",.ref f),(.inr "rank",.int (a:Int)),(.inr "pivot",.int b),(.inr "sign",.int g)],8,by show 4<=15;decide,?_;let sd:aS H1 (upd (upd H1 d (.dK [])) d (Sq f a b g)):=(aG hd _).change hd;exact q d f c k a b g _ (F.trans sd) (F.free hd) P aB (sd _ _ t) (v.same sd) j bR bP p1
theorem Y53:DZ 5 Z.f53 Z.d53 ["matrix","right"] (Shp.uC Z.K) "solved":=by
 exists 7,F53.b2 _ _ (by intros;rfl),F53.kp,m53
 refine F53.ok9 qM λ_ _ _ s H _ Q E hr h=>?_;let⟨g,bR,D0,aj,us,bs,X,qs,k,n,rfl,hU,hX,hB,hQ,G,qL,qB,T,xB,x4,hk,a7,a8,a9,aa,q⟩:=h;let hu:=Gi hr;let r3:=hr.mono (show 3<=4 by lia);let r2:=hr.mono (show 2<=4 by lia);refine⟨_,(aD (aT (i:=2) qM.nd rfl (Or.inr rfl) (bX bV rfl n_len PySem.boot_len (aA (pv 0) aC)))
  (aD (vD (i:=3) (nl:=2) (fr:=[]) (Nc:=["row","side"]) (cl:=[]) (g:=(Dc Z.K 2 (iU (gX 0) (iU (gX 1) Dy)))) qM.nd rfl rfl rfl ⟨8,8,∅,∅,λx c h=>(by cases h),dY rfl,8,λi n h=>(by simp at h)⟩
    (tH rfl n_zip rfl (aA (pv 0) (aA (pv 1) aC))) (λ_ _ _ _ _=>(gW rfl (bU (qQ1 (i:=0) uQ) (bU (qQ1 (i:=1) uQ) fK)))) (λ_ _ _ _ _=>eU)
    (λ_ _ _ _ _=>(aR (rW (K:=Z.K) rfl) (d9 Y48 r2 rfl (aA (aY mM (pv 0) (cS (aA (pv 1) aC))) aC)) aE)) rfl)
  (aD (aT (i:=4) qM.nd rfl (Or.inr rfl) (d9 Y52 r3 rfl (aA (pv 3) (aA (pv 2) aC))))
  (aD (cD (bH yG (vT hu (pv 4) cC (λ_ _=>rfl)) (pv 2) (bL _)) (aF iV) bN)
  (aF (aU (dM (nl:=1) (fr:=[2,4]) (Nc:=["row","many","end"]) (cl:=[("many",s.heap.objs.size+1),("end",s.heap.objs.size+2)]) rfl ⟨8,8,∅,∅,(fL rfl (fL rfl (qQ))),dY rfl,8,λi n h=>match i,h with | 0,h=>by cases h;exact⟨2,8,8,8,8,.inl rfl⟩ | 1,h=>by cases h;exact⟨4,8,8,8,8,.inl rfl⟩ | k+2,h=>by rw[show 1+(k+2)=k+3 by lia] at h;cases h⟩
    (cF (vT hu (pv 4) cC (λ_ _=>rfl))) (λ_ _ _ _ _=>(qQ1 (i:=0) uT)) (λ_ _ _ _ _=>eU)
    (λ_ _ _ _ _=>(d9 Y6 r2 rfl (aA (aR (iT (K:=Z.K) rfl) (pv 0) (pv 1)) (aA (vT hu (pv 2) cC (λ_ _=>rfl)) aC))))))))))),7⟩
 let lu:=hX.length;let lb:=hQ.length;let hw:∀row∈X,row.length=X.length:=λrow h=>(xB row h).2;let U:=qL.pos;let lA:=Gy G;exists 9,g,us,8,.inl hU,7;exists 9,9,g,bR,8,⟨_,hU⟩,⟨_,hB⟩,λD hD=>?_;let sD:=aG hD (.lst []);refine wU (xs:=us) (ys:=bs) (λi zs H'=>aS H H'/\H' D=some (.lst zs)/\Imx D H' zs ((jA X qs).take i)) ⟨sD,aB,.nil⟩ (λi zs H' h=>h.2.1) (λi zs H' _ h=>⟨h.1.seq hU,h.1.seq hB⟩) ?_ ?_
 .rintro i zs x y H1 T1 ex ey ⟨V,W,I⟩ hT C hC;let⟨u,ys,row,rfl,er,_,_,ac,fu⟩:=hX.get ex;let⟨v,w,rfl,eq,fv⟩:=hQ.get ey;let hi:i < X.length:=(wk.mp er).1;let a0:=mem_of_getElem? er;let J:=mem_of_getElem? eq;let⟨rb,rl⟩:=xB row a0;let ak:=fu.length;let sT:=aG hT (.tup [.ref u,.ref v]);exists T1,9,SqT.of aB,8,_,9,_,9,8,jC.1,jC.2,fZ ?_;generalize upd H1 T1 (.tup [.ref u,.ref v])=H2 at sT ⊢;let s2:=V.trans sT;exists 9,9,zl9 1,λlo ad=>?_;let⟨H3,L,s3,M⟩:=nw ad (.lst [.ref v]);rw[L];let a1:=s2.trans s3;exists u,lo,_,9,8,a1 _ _ ac,M,Nat.le_of_lt (aZ (by simp only[length_cons,length_nil];lia)),λp hp=>?_;let⟨H4,L,A,e4⟩:=nw hp (.lst (ys++[.ref v]));rw[L];let a2:=a1.trans A;let a3:=sT.trans (s3.trans A);exists p,_,row++[w],k,8,SqL.of e4,(fu.same a2).app (.cons (a2.fq fv) .nil),λz b=>?_,λz b=>?_,by rw[wq];simp only[length_cons,length_nil];lia,by rw[wq,rl];simp only[length_cons,length_nil];rw[show X.length+(0+1)=X.length+1 by lia];lia,λt l H5 s5 nl ht hl=>?_
  .rcases mem_append.mp b with m | m
   .exact T row a0 z m
   .have:z=w:=by simpa using m
    rw[this];exact U w J
  .rcases mem_append.mp b with m | m
   .exact rb z m
   .have:z=w:=by simpa using m
    rw[this];exact qB w J
  let N:=a3.trans s5;let e5:=N _ _ W;let ne:l≠D:=λz=>by rw[z,a3 _ _ W] at nl;cases nl
  let lz:=I.length;rw[length_take,lA] at lz;exists t,_,_,9,8,ht,8,e5,aZ (),hC _ _ ⟨(V.trans N).change hD,aB,7⟩;let ee:(jA X qs).take (i+1)=(jA X qs).take i++[iw (row++[w])]:=by
   rw[take_add_one];unfold jA nU;rw[getElem?_map,getElem?_zipWith,er,eq];rfl
  rw[ee];exact((I.same N).app (.cons ne hl .nil)).upd
 rintro zs H1 ⟨V,W,I⟩;rw[show min us.length bs.length=(jA X qs).length by lia,take_length] at I;let f:bw n X.length<=9000:=Nat.le_trans a9 ∅;let wA:∀i,i < X.length->((jA X qs).getD i []).length=X.length+1:=λi hi=>by
  rw[wT G hi,yW,wq,hw _ (mem_of_getElem? (zI hi))];rfl
 exists 9,9,D,D,zs,jA X qs,X.length,X.length+1,n,λR=>Mq.KI X.length (Mq.at2 (jA X qs)) R/\Mq.KJ X.length (Mq.at2 (jA X qs)) R,by rw[lu];rfl,SqL.of W,I,lA,wA,(),(),a7,a8,(),(),⟨λΦ _ b=>b,λΦ _ b=>b⟩,Ri,λd lE zE O P a ai H2 s2 nd al ed el IE o bE bp LE=>?_;let⟨ae,af,am,an⟩:=Hj ed;let a4:=V.trans s2;let wr:=Tk T U G hw o;exists 9,d,9,af,9,_,9,8,9,rF (λe=>?_) (λe=>?_)
 .-- lame
  let a5:P < X.length:=by simp at e;lia
  let b:wgt X=0:=by
   rcases wr with z | z
   .exact z.2
   .lia
  exact absurd b aa
 .-- whole
  let a5:P=X.length:=by
   rcases wr with z | z
   .simp at e;lia
   .exact z.1
  let b:wgt X≠0:=by
   rcases wr with z | z
   .lia
   .exact z.2
  subst a5;let dn:=o.dne;let B:a≠0:=λz=>dn (by rw[z];simp);let a6:=IE.length;rw[o.len] at a6;exists 9,d,9,ae,lE,8,⟨_,SqL.of el⟩,λD2 S=>?_;refine clS S (xs:=zE) (λi Y H'=>Fqs Z.K H' Y ((List.range i).map λi=>red (ent O i X.length) a)) .nil (λ_ h=>h.seq (SqL.of el)) ?_ ?_
  .rintro i Y x H3 hx ⟨s3,M,F3⟩ C hC;let hi:i < X.length:=by have:=(wk.mp hx).1;lia
   let⟨u,eu,nu,ag⟩:=IE.at (i:=i) (by rw[o.len];exact hi);let ah:x=.ref u:=by rw[eu] at hx;cases hx;rfl
   subst ah;let ao:=o.wid i hi;let lz:=F3.length;rw[length_map,length_range] at lz;let ea:=bM (mB (l:=O.getD i []) (i:=X.length) ());rw[<- lu] at ea;exists dU.1,dU.2,fZ ?_;exists 9,9,u,_,_,9,8,SqL.of (s3 _ _ ag),ea,7;rw[lu];exists 9,d,9,Hj (s3 _ _ ed) |>.2.2.1,_,_,bw n X.length,8,B,bp,f,λr H4 A e4=>?_;let eD:=A _ _ M;exists eD,aZ (),hC _ _ ⟨(s3.trans A).change S,aB,7⟩;rw[range_succ,map_append];exact((F3.same A).app (.cons (Fq.of e4) .nil)).upd eD
  rintro Y H3 ⟨s3,M,F3⟩;rw[a6] at F3;let gd:∀j,j < X.length->((List.range X.length).map λi=>red (ent O i X.length) a).getD j Mq.z0=red (ent O j X.length) a:=λj F=>by
   rw[getD_eq_getElem?_getD,getElem?_map,getElem?_range F];rfl
  refine q D2 Y _ H3 (a4.trans s3) (a4.free S) M F3 ⟨⟨⋯,λp hp=>?_,λp hp=>?_,λi hi=>?_⟩,λv hv j F=>?_⟩ (Yk B bp λp hp=>by let⟨i,hi,rfl⟩:=mem_map.mp hp;exact⟨_,bE i X.length,8⟩)
  .let⟨i,_,rfl⟩:=mem_map.mp hp;exact iE B
  .let⟨i,hi,rfl⟩:=mem_map.mp hp;let le:=pV (t:=ent O i X.length) B;exists ((bE i X.length).le le.1).mono f,(bp.le le.2).mono f
  .rw[<- ql3 T U G hw LE.1 o hi];refine aX λj F=>?_;rw[gd j F,jH B];rfl
  .rw[gd j F,jH B,<- qk3 T U G hw LE.2 o hv F];rfl
theorem R54:FZ (CX1 Z.P Z.w) 7 Z.f54 Z.d54 ["net"] (Jo Z.c_Net Z.c_Ring Z.c_Floats Z.K):=by
 refine F54.okX Wm (λvs H Q E h=>?_) λa5 A a4 s H vs Q E J h=>?_
 .let⟨_,_,_,_,rfl,_⟩:=h;rfl
 let⟨n,l,m,ds,rfl,nt,pt,mo,o,T,hz,U,q⟩:=h;let X:=J.mono (show 2<=6 by lia);let Y:=J.mono (show 5<=6 by lia);refine⟨_,(aD (qQ0 (i:=1) Wm.nd (d9 Y40 Y rfl (aA (pv 0) (aA (cS (aA cC aC)) aC))))
  (aD (cD (bH Gz (bX bV rfl n_len PySem.boot_len (aA (pv 1) aC)) aE (bL _)) (aF (Bf jP oX rfl rfl mc_Ring qIG R2 X b2 (aA (aR bK (pv 1) aE) (aA (d9 Y41 Y rfl (aA (pv 0) (aA (aR bK (pv 1) aE) aC))) aC)))) bN)
  (aD (qQ0 (i:=2) Wm.nd (d9 Y37 J rfl (aA (pv 0) aC)))
  (aF (cD (bH Gz (bX bV rfl n_len PySem.boot_len (aA (pv 2) aC)) aE (bL _)) (aF (Bf jP oX rfl rfl mc_Floats qIF R1 X b1 (aA (pv 2) aC))) bN))))),7⟩
 exists 9,zl9 1,λL hL=>?_;let⟨H1,a0,s1,e1⟩:=nw hL (.lst [.str "hold"]);rw[a0];exists n,l,.ref L,m,ds,wHo,8,nt.same s1,pt,o,T,.seq (SqL.of e1) rfl,λr f H2 s2 nr M G nx=>?_;let b:=s1.trans s2;exists 9,r,9,.inl (SqL.of M),_,9,8,9,7;let ri:=iC (W:=wHo) (xM pt) ds.length (by rw[qD];exact Nat.le_refl _)
 cases hR:rgH ds with
 |cons c rr=>
  let p:f.length=((rgH ds).map (·.2)).length:=G.l;rw[hR] at p;let N:0 < f.length:=by rw[p];simp
  obtain⟨u0,v⟩:∃u,f[0]?=some u:=⟨_,getElem?_eq_getElem N⟩
  let⟨ra,xs,rfl,a6,F,y⟩:=G.r 0 u0 c.2 v (by show ((rgH ds).map (·.2))[0]?=_;rw[hR];rfl);refine L2.ifT (by show decide (((f.length:Nat):Int) > 0)=true;exact decide_eq_true ()) ?_;let⟨c1,k',u',v',st,a7,_,ec,a8,ch,a9⟩:=ri.r c (by show c∈rgH ds;rw[hR];exact mem_cons_self ..);let a1:∀t∈c.2,t.1 < ds.length/\(t.2=1\/t.2=-1):=λt ht=>by
   rw[ec] at ht;rcases mem_cons.mp ht with z | z
   .subst z;exists c1,.inl rfl
   .let⟨i,hi,e⟩:=getElem_of_mem z;let⟨_,_,_,_,u2,v2,hm,w⟩:=ch.g i t (by rw[<- e];exact getElem?_eq_getElem hi);exists ri.lt _ hm,7;rcases w with ⟨a,_⟩ | ⟨a,_⟩
    .exact .inl a
    .exact .inr a
  let a2:c.2.length<=21:=by rw[ec,length_cons];lia
  exists 9,r,f,_,9,8,SqL.of M,bM (j:=0) v,9,9,r,f,_,9,8,SqL.of M,bM (j:=0) v,7;exists n,l,ra,_,ds,xs,c.2,8,nt.same b,6,hz,SqL.of F,y,a2,a1,λt0 H3 s3 f3=>?_;exists zl9 2,λx k=>?_;let sx:=aG k (iI x (.ref Z.c_Ring) none);exists x,ra,t0,xs,8,aB,sx.seq (SqL.of (s3 _ _ F)),by rw[y.length];lia,λdx O H4 a3 B C D d ex R S=>⟨8,some dx,ex,7⟩;let sd:=tI (b.trans s3) k d;let I:=tI (aS.refl H3) k d;refine U.rg c rr hR dx O t0 xs _ sd (by rw[jO C];exact R) ((b.trans (s3.trans sx)).free B) (by rw[jO D];exact S) ((y.same s3).same I) (I.fq f3)
 |nil=>
  let p:f.length=((rgH ds).map (·.2)).length:=G.l;rw[hR] at p;let N:f=[]:=eq_nil_of_length_eq_zero (by simpa using p);subst N;refine L2.ifF rfl ?_;exists 9,n,l,m,ds,8,nt.same b,pt,mo,o,6,λl' H3 s3 nl e3=>?_;exists 9,l',9,.inl (SqL.of e3),_,9,8,9,7
  by_cases c:cZ m ds=[]
  .rw[c];exact L2.ifF rfl (q hR c H3 (b.trans s3))
  .let l0:0 < (cZ m ds).length:=length_pos_iff.mpr c;let lf:(cZ m ds).length<=20:=by
    unfold cZ;rw[length_map];refine Nat.le_trans (length_filter_le _ _) ?_;rw[length_range];exact o
   refine L2.ifT (by show decide (((((cZ m ds).map V.int).length:Nat):Int) > 0)=true;rw[length_map];exact decide_eq_true ()) ?_;exists 9,zl9 1,λx k=>?_;let sx:=aG k (iI x (.ref Z.c_Floats) none);exists x,l',9,aB,sx.seq (SqL.of e3),by rw[length_map];lia,λdx O H4 a3 B C D d ex R S=>⟨8,some dx,ex,7⟩;exact U.fl hR c dx O _ (tI (b.trans s3) k d) (by rw[jO C];exact R) ((b.trans (s3.trans sx)).free B) (by rw[jO D];exact S)
theorem Y55:DZ 5 Z.f55 Z.d55 ["rows","levels","held"] (Ej Z.K (zz3 Z)) "flows_of":=by
 exists 7,F55.b3 _ _ _ (by intros;rfl),F55.kp,m55
 refine F55.ok9 pB λ_ _ _ s H _ Q E G h=>?_;let⟨a,b,h,xs,ls,ys,ds,lv,hs,m,rfl,ea,Rb,O,hS,hF,a5,hK,hh,a6,q⟩:=h;let r1:=G.mono (show 1<=4 by lia);refine⟨_,(aD (qQ0 (i:=3) pB.nd (cS aC))
  (aD (qQ0 (i:=4) pB.nd aE)
  (aD (dE PassesOwn.never rfl (cF (pv 0)) (qQ1 (i:=5) pB.nd)
   (aD (qQ0 (i:=6) pB.nd (d9 Y34 G rfl (aA (pv 5) (aA (pv 1) aC))))
  (aF (cD (bH eO (fR (pv 5) T.cl mW GW r1 bW .nil aM) cC (bL _)) (aD (bY (iS PySem.F.plainAttrs_list PySem.F.slot_list_append PySem.F.type_list_append dG (pv 3) (aA (Fy (pv 5) T.cl mS GS G bS .nil aM (aA (pv 6) (aA (aR bK (pv 2) (pv 4)) aC))) aC)))
  (aF (Jg (i:=4) pB.nd rfl (Or.inl rfl) aE Id))) (aF (bY (iS PySem.F.plainAttrs_list PySem.F.slot_list_append PySem.F.type_list_append dG (pv 3) (aA (Fy (pv 5) T.cl mS GS G bS .nil aM (aA (pv 6) (aA (dL (v:=.ref Z.aN) rfl mv_NOUGHT rfl) aC))) aC))))))))
  (aF (aU (pv 3)))))),7⟩
 let a0:=Rb.length;let a7:=hF.length;exists zl9 0,λl I=>?_;let⟨H1,a1,s1,e1⟩:=nw I (.lst []);rw[a1];exists 9,a,8,⟨_,SqL.of (s1 _ _ ea)⟩,7;refine eX (xs:=xs) (λi σ H'=>aS H H'/\∃(zs:vk)(n:Int)(P R:Option V),σ=[some (.ref a),some (.ref b),some (.ref h),some (.ref l),some (.int n),P,R]/\n=((bZ (ds.take i):Nat):Int)/\H' l=some (.lst zs)/\Fqs Z.K H' zs (sU lv hs 0 (ds.take i))) ⟨s1,[],0,none,none,8,8,e1,.nil⟩ (λi σ H' _ h=>h.1.seq (SqL.of ea)) ?_ ?_
 .rintro i x σ H2 S ⟨w,zs,n,P,R,rfl,j,U,F2⟩;let hi:i < ds.length:=by have:=(wk.mp S).1;lia
  obtain⟨⟨k0,u,v,p⟩,W⟩:∃d,ds[i]?=some d:=⟨_,getElem?_eq_getElem hi⟩
  let⟨y,z,ey,J,a2⟩:=Rb.at W;let ex:x=.ref y:=by rw[ey] at S;exact(Option.some.inj S).symm
  subst ex;let f:=hK _ (mem_of_getElem? W);let pt:cO (m:Int) u v:=⟨f.1,f.2.1,f.2.2.1,f.2.2.2.1⟩
  let lp:Mq.Low p:=f.2.2.2.2.1;let p0:k0=.pc->0 < p.1:=f.2.2.2.2.2.1;let bp:Mq.Bd 1000 p:=f.2.2.2.2.2.2;let et:ds.take (i+1)=ds.take i++[(k0,u,v,p)]:=by rw[take_add_one,W];rfl
  let a4:bZ (ds.take i)+cT k0+bZ (ds.drop (i+1))=bZ ds:=by
   let h1:ds=ds.take (i+1)++ds.drop (i+1):=(take_append_drop _ _).symm;let h2:bZ ds=bZ (ds.take (i+1))+bZ (ds.drop (i+1)):=by
    unfold bZ fP;rw[<- wq,<- filter_append,take_append_drop]
   rw[h2,et,iK]
  let L:=J.same w;let⟨dr,hy⟩:=id L;exists 9,9,y,b,(k0,u,v,p),.ref z,ls,lv,m,8,L,O.same w,pt,λX H3 s3 e3=>?_;let e:Mq.Low (flF lv (k0,u,v,p))/\Mq.Bd 7801 (flF lv (k0,u,v,p)):=by
   let o:=O.b;let hn:=O.l;have Z.f34:lv.getD u.toNat (0,1)∈lv:=mem_of_getElem? (Mq.Ub (by have:=pt.1;have:=pt.2.1;lia));let Y:lv.getD v.toNat (0,1)∈lv:=mem_of_getElem? (Mq.Ub (by have:=pt.2.2.1;have:=pt.2.2.2;lia));exists Mq.cH (o _ Z.f34).1.pos (o _ Y).1.pos,(rX (o _ Z.f34).2 (o _ Y).2 (o _ Z.f34).1.pos (o _ Y).1.pos).mono ()
  let M:Fq Z.K H3 X (flF lv (k0,u,v,p)):=Fq.of e3;let c:=w.trans s3;let A:=J.same c;let⟨B,C⟩:=id A;let N:=c.fq a2;let k:=s3 _ _ U;let a3:=F2.length;rw[nC,length_take] at a3;rw[et,Av,Nat.zero_add];exists 9,k0,y,B,9,C,(eJ _ _ _ ∅ ∅ ∅),9,8,9,7
  by_cases t:k0=.ho
  .refine L2.ifT (zzT k0 .ho t) ?_;let hc:cT k0=1:=by unfold cT;rw[if_pos t]
   let⟨w1,ew,fw⟩:=hF.at (Mq.Ub (show bZ (ds.take i) < hs.length by lia));exists 9,.inl ⟨8,_,SqL.of k⟩,9,k0,y,B,9,C,(eJ _ _ _ ∅ ∅ ∅),7;exists 9,9,9,h,ys,_,9,8,c.seq hS,by rw[j];exact bM ew,y,z,X,w1,.int u,.int v,p,_,_,1000,7801,rfl,A,N,M,c.fq fw,lp.pos,e.1.pos,bp,e.2,(),p0,λr H4 g f4=>?_;let D:=g _ _ k;exists l,_,9,8,D,aZ (),7;exists 9,_,9,8,7;exists (c.trans g).change I,_,n+1,_,9,by rw[iK,j,hc];lia,aB,?_;let fl:yY lv hs (bZ (ds.take i)) (k0,u,v,p)=zH k0 (flF lv (k0,u,v,p)) (hs.getD (bZ (ds.take i)) Mq.z0) p:=by
    show zH k0 _ (if k0=.ho then _ else _) _=_;rw[if_pos t]
   rw[fl];exact((F2.same (s3.trans g)).app (.cons f4 .nil)).upd D
  .refine L2.ifF (zzF k0 .ho t) ?_;let hc:cT k0=0:=by unfold cT;rw[if_neg t]
   exists 9,.inl ⟨8,_,SqL.of k⟩,9,k0,y,B,9,C,(eJ _ _ _ ∅ ∅ ∅),9,y,z,X,Z.aN,.int u,.int v,p,_,(0,1),1000,7801,8,A,N,M,fN _,lp.pos,e.1.pos,bp,e.2,6,p0,λr H4 g f4=>?_;let D:=g _ _ k;exists l,_,9,8,D,aZ (),7;exists (c.trans g).change I,_,n,_,9,by rw[iK,j,hc];rfl,aB,?_;let fl:yY lv hs (bZ (ds.take i)) (k0,u,v,p)=zH k0 (flF lv (k0,u,v,p)) (0,1) p:=by
    show zH k0 _ (if k0=.ho then _ else _) _=_;rw[if_neg t]
   rw[fl];exact((F2.same (s3.trans g)).app (.cons f4 .nil)).upd D
 rintro σ H2 ⟨w,zs,n,P,R,rfl,j,U,F2⟩;rw[a0,take_length] at F2;exists 9,q l zs H2 w I U F2
theorem R56:FZ (CX1 Z.P Z.w) 8 Z.f56 Z.d56 ["self","net"] (rC Z.c_Net Z.c_Answer Z.c_Ring Z.c_Floats Z.K):=by
 refine F56.okX uZ (λvs H Q E h=>?_) λba A b8 s H vs Q E D h=>?_
 .let⟨_,_,_,_,_,_,rfl,_⟩:=h;rfl
 let⟨x,dx,n,l,m,ds,rfl,hx,nt,pt,mo,a0,N,hz,rf,qq⟩:=h;let r1:=D.mono (show 1<=7 by lia);let r4:=D.mono (show 4<=7 by lia);let r5:=D.mono (show 5<=7 by lia);let r7:=D;refine⟨_,(aD (bY (aH R54 r7 rfl m54 F54.kp b54 .nil (tL jP oX) (aA (pv 1) aC)))
  (aD (qQ0 (i:=2) uZ.nd (aH Y47.G r7 rfl m47 F47.kp Y47.b .nil aM (aA (pv 1) aC)))
  (aD (qQ0 (i:=3) uZ.nd (aH Y53.G r5 rfl m53 F53.kp Y53.b .nil aM (aA (aR bC (pv 2) aE) (aA (aR bC (pv 2) aE) aC))))
  (aD (qQ0 (i:=4) uZ.nd (aY kD (eI (pv 1) NTx.cl X2 R30 r1 b30 .nil aM) aE))
  (aD (oS (pv 0) (aR bC (pv 2) aE) rfl)
  (aD (oS (pv 0) (aY mM (cS (aA (dL (v:=.ref Z.aN) rfl mv_NOUGHT rfl) aC)) (fU iH (pv 3) jK (eZ (pv 4)))) rfl)
  (aF (oS (pv 0) (aH Y55.G r5 rfl m55 F55.kp Y55.b .nil aM (aA (eI (pv 1) NTx.cl X3 R33 r4 b33 .nil aM) (aA (cA (pv 0) rfl) (aA (fU iH (pv 3) (eZ (pv 4)) jK) aC)))) rfl)))))))),7⟩
 exists 9,n,l,m,ds,8,nt,pt,mo,a0,N,hz,rf,λhR hF H1 s1=>?_;let⟨b,kb,L,U,ae,ag,q⟩:=qq hR hF;let nt:=U.nt;let hK:=U.ok;let a0:=U.m20;let N:=U.h40;let af:=U.cu;let g:=U.eb;let mo:=g.o.m1;exists 9,n,l,m,kb,ds,8,nt.same s1,hK,mo,a0,N,af,λtt p r us ys X Y H2 s2 et np nr ep er FM FY nx c=>?_;let ah:=s1.trans s2;let lX:X.length=m - 1+bZ ds:=c.x.h;let lY:Y.length=X.length:=by rw[c.y.w,lX]
 let bb:=g.w26;let lw:wd m ds=m - 1+bZ ds:=rfl;let yq:∀p∈Y,(Mq.Bd b p/\p.2 ∣ L)/\∃a:Int,Mq.B b a/\Mq.val p=(a:Rat) / (L:Rat):=λp hp=>by
  let⟨i,hi⟩:=getElem?_of_mem hp;let ep:p=Y.getD i (0,1):=by rw[getD_eq_getElem?_getD,hi];rfl
  let⟨z,hz,ez⟩:=ag i;let hv:Mq.val p=(z:Rat) / (L:Rat):=by rw[ep,c.vy,ez]
  exists pZ (c.y.l p hp).1 g.L1 g.LB hz hv,z,hz,hv
 exists 9,tt,_,0,9,8,SqT.of et,8,9,tt,_,1,9,8,SqT.of et,8,7;exists p,r,p,H1,us,ys,X,Y,b,b,8,SqL.of ep,No FM (λx hx=>(nx x hx).1),SqL.of er,FY,lY,λp hp=>(c.y.l p hp).1,λp hp=>(yq p hp).1.1,EqB.pos c,λrow D=>⟨λp hp=>((g.cell c row D).1 p hp).1,(g.cell c row D).2⟩,6,by rw[lX];exact g.hb,qc4 (EqB.pos c) (λp hp=>(c.y.l p hp).1.pos) lY (λrow D p hp=>((g.cell c row D).1 p hp).2) (λp hp=>⟨(yq p hp).1.2,(yq p hp).2⟩) g.L1,g.b1,by rw[lX];exact Nat.le_trans g.hbw ∅,g.wgt c,λkn V ps H3 s3 bc ai Fk SU OV=>?_;rw[lX] at OV;let aj:ps.length=wd m ds:=by rw[SU.len,lX]
 let lo:=SU.low;let ak:=Kt (n:=bw b (wd m ds)) OV lo ae;let I:=ah.trans s3;let⟨dn,hn⟩:=(nt.same I).ob;exists 9,n,dn,9,hn,eE _ _ ∅ ∅,n,l,_,ds,8,nt.same I,_,9,8,7;let al:=s3 _ _ et;let O:=I _ _ hx;let em:(m:Int) - 1=((m - 1:Nat):Int):=by lia
 show kH _ _ _ [some (.ref x),some (.ref n),some (.ref tt),some (.ref kn),some (.int ((m:Int) - 1))] H3;rw[em];exists 9,tt,_,0,9,8,SqT.of al,8,9,x,Z.c_Answer,dx,[],8,O,ABx.cl,ABx.nI,(by show 0 < 1000;decide),7;let x4:cQ x H (upd H3 x (.ins Z.c_Answer dx (fM "lines" (.ref p) []))):=λb o h j=>by rw[aQ j];exact I _ _ h
 let R:cQ x H3 (upd H3 x (.ins Z.c_Answer dx (fM "lines" (.ref p) []))):=λb o h j=>by rw[aQ j];exact h
 let a7:upd H3 x (.ins Z.c_Answer dx (fM "lines" (.ref p) [])) x=some (.ins Z.c_Answer dx (fM "lines" (.ref p) [])):=aB;let a1:=cQ.seqI O R (SqL.of (K:=Z.K) ai);let a8:=cQ.fqsI O R Fk;generalize upd H3 x (.ins Z.c_Answer dx (fM "lines" (.ref p) []))=H4 at x4 R a7 a1 a8 ⊢;exists zl9 1,λL1 am=>?_;let⟨H5,k,s5,e5⟩:=nw am (.lst [.ref Z.aN]);rw[k];exists 9,9,9,kn,V,8,s5.seq a1,λS hS=>?_;rw[qk6];let⟨H6,k,s6,e6⟩:=nw hS (.lst (V.take (m - 1)));rw[k];let be:=Fk.length;exists L1,S,_,9,8,s6 _ _ e5,e6,Nat.le_of_lt (aZ (by rw[length_take];simp only[length_cons,length_nil];lia)),λe a2=>?_;let⟨H7,k,s7,e7⟩:=nw a2 (.lst ([.ref Z.aN]++V.take (m - 1)));rw[k];let t:=s5.trans (s6.trans s7);let u:=t _ _ a7;exists 9,x,Z.c_Answer,dx,9,u,ABx.cl,ABx.nE,(by have:=fV ("lines":Str) (.ref p) [];simp only[length_nil] at this;lia),7;let f:cQ x H7 (upd H7 x (.ins Z.c_Answer dx (fM "levels" (.ref e) (fM "lines" (.ref p) [])))):=λb o h j=>by rw[aQ j];exact h
 let a3:upd H7 x (.ins Z.c_Answer dx (fM "levels" (.ref e) (fM "lines" (.ref p) []))) x=some (.ins Z.c_Answer dx (fM "levels" (.ref e) (fM "lines" (.ref p) []))):=aB;generalize upd H7 x (.ins Z.c_Answer dx (fM "levels" (.ref e) (fM "lines" (.ref p) [])))=H8 at f a3 ⊢;let nn:=qm9 hx nt;let an:=dB.xI O R nn (nt.same I);let a9:=dB.xI u f nn (an.same t);let ao:=cQ.seqI u f (t.seq a1);let aa:=cQ.fqsI u f (a8.same t);let a4:e≠x:=gV e7 u (λz=>by cases z);let ap:=cQ.seqI u f (SqL.of (K:=Z.K) e7);let ac:Fqs Z.K H8 ([.ref Z.aN]++V.take (m - 1)) (lvS m ps):=.cons (fN _) (Fqs.take _ aa);let⟨aq,ar⟩:=a9.ob;exists 9,n,aq,9,ar,eE _ _ ∅ ∅,n,l,_,ds,8,a9,6,λro xr H9 s9 bf as Rb=>?_;let au:=s9 _ _ a3;let av:=s9.seq ao;exists 9,x,Z.c_Answer,dx,_,9,au,ABx.cl,ABx.nE,(by rw[bQ,if_pos rfl]),9,9,9,kn,V,8,av,λS2 aw=>?_;rw[uA];let⟨bg,k,a5,ax⟩:=nw aw (.lst (V.drop (m - 1)));rw[k];let J:=s9.trans a5;let ay:(lvS m ps).length=m:=by
  unfold lvS;rw[length_cons,length_take];lia
 exists ro,e,S2,xr,_,_,ds,lvS m ps,ps.drop (m - 1),m,8,a5 _ _ as,Rb.same a5,⟨J.seq ap,ac.same J,ay,λs hs=>?_⟩,SqL.of ax,Fqs.drop _ (aa.same J),λp hp=>lo p (mem_of_mem_drop hp),λd hd=>?_,by rw[length_drop];lia,N,λW zf M az nfo ad b0=>?_
 .rcases mem_cons.mp hs with z | z
  .rw[z];exists ⟨∅,∅⟩,aAd (n:=3899)
  .exact ak s (mem_of_mem_take z)
 .let⟨i,hi⟩:=getElem?_of_mem hd;exact(hK i d hi).1
 let T:=J.trans az;let F:=T _ _ a3;exists 9,x,Z.c_Answer,dx,9,F,ABx.cl,ABx.nO,(by have:=fV ("lines":Str) (.ref p) [];have:=fV ("levels":Str) (.ref e) (fM "lines" (.ref p) []);simp only[length_nil] at *;lia),7;let C:cQ x M (upd M x (.ins Z.c_Answer dx (lT p e W))):=λb o h j=>by rw[aQ j];exact h
 let a6:upd M x (.ins Z.c_Answer dx (lT p e W)) x=some (.ins Z.c_Answer dx (lT p e W)):=aB;show Q .non (upd M x (.ins Z.c_Answer dx (lT p e W)));generalize upd M x (.ins Z.c_Answer dx (lT p e W))=b7 at C a6 ⊢;refine q ps b7 (λb o h j=>C _ _ (T _ _ (f _ _ (t _ _ (x4 _ _ h j)) j)) j) ⟨dx,p,e,W,_,zf,a6,C _ _ (T _ _ (f _ _ e7 a4)) a4,cQ.fqsI F C (ac.same T),C _ _ ad (gV ad F (λz=>by cases z)),cQ.fqsI F C b0,λl0 o0 h0 n0=>⟨λz=>?_,λz=>?_⟩⟩ aj lo OV (EqB.sol c SU λi _=>c.vy i)
 .rw[z,(s5.trans s6) _ _ (x4 _ _ h0 n0)] at a2;cases a2
 .rw[z,J _ _ (f _ _ (t _ _ (x4 _ _ h0 n0)) n0)] at nfo;cases nfo
theorem R57:FZ CX0 1 Z.f57 Z.d57 ["self"] (uL Z.c_Answer Z.K):=by
 refine F57.ok9 qi2 λ_ _ _ s H _ Q E j h=>?_;let⟨a,lv,fl,rfl,⟨⟨dx,k,le,m,xs,ys,f,b,c,g,i⟩⟩,q⟩:=h;exists _,(aF (aU (gC fY rfl n_list PyProof.Rows.boot_list (aA (cA (pv 0) rfl) aC)))),7;exists 9,a,Z.c_Answer,_,_,9,f,ABx.cl,ABx.nE,Xn _ _ _,le,9,.inl b,λl d=>?_;let e:=aG d (.lst xs);exact q l _ _ e d aB (c.same e)
theorem R58:FZ CX0 1 Z.f58 Z.d58 ["self"] (oW Z.c_Answer Z.K):=by
 refine F58.ok9 ql6 λ_ _ _ s H _ Q E k h=>?_;let⟨a,lv,fl,rfl,⟨⟨dx,m,le,f,xs,ys,g,i,j,b,c⟩⟩,q⟩:=h;exists _,(aF (aU (gC fY rfl n_list PyProof.Rows.boot_list (aA (cA (pv 0) rfl) aC)))),7;exists 9,a,Z.c_Answer,_,_,9,g,ABx.cl,ABx.nO,Zn _ _ _,f,9,.inl b,λl d=>?_;let e:=aG d (.lst ys);exact q l _ _ e d aB (c.same e)
theorem R59:FZ CX0 1 Z.f59 Z.d59 ["self"] (Cd Z.c_Net Z.K):=by
 refine F59.ok9 qb9 λe A b s H vs Q E f h=>?_;let⟨n,l,m,ds,rfl,⟨⟨dx,c⟩,ts,d,a⟩,q⟩:=h;exists _,(aF (aU (bX bV rfl n_len PySem.boot_len (aA (cA (pv 0) rfl) aC)))),9,n,Z.c_Net,dx,_,9,c,NTx.cl,NTx.nK,iO _ _,l,ts,8,.inl (SqL.of d),7;rw[a.length];exact q
theorem Y60:DZ 3 Z.f60 Z.d60 ["some","many"] (qo6 Z.K) "are_fractions":=by
 exists 7,F60.b2 _ _ (by intros;rfl),F60.kp,m60
 refine F60.ok9 aAr λ_ _ _ s H _ Q E j h=>?_;let⟨v,m,u,rfl,h,q⟩:=h;refine⟨_,(aF (aU (kR (iJ (i:=0) rfl (Or.inl rfl) bl.isi n_list rfl rfl PyProof.Rows.boot_list) (kR (iA eO (bX bV rfl n_len PySem.boot_len (aA (pv 0) aC)) (pv 1) (bL _)) (oE (bX (rH rfl) rfl n_all PyProof.Rows.boot_all (aA (dM (nl:=1) (fr:=[]) (Nc:=["one"]) (cl:=[]) rfl ⟨8,8,∅,∅,λx c h=>(by cases h),dY rfl,8,λi n h=>(by simp at h)⟩
    (cF (pv 0)) (λ_ _ _ _ _=>(qQ1 (i:=0) qo9)) (λ_ _ _ _ _=>eU)
    (λ_ _ _ _ _=>(d9 X1 j rfl (aA (pv 0) aC)))) aC))))))),7⟩
 cases h with
 |ty h n=>exact⟨_,_,false,8,h,n,9,gB (q _ (aS.refl _))⟩
 | @lst a xs ps hS z low l=>
  exists _,_,true,8,.lst hS,8,9,fZ ⟨9,a,xs,8,.inl hS,9,8,9,7⟩
  by_cases e:(xs.length:Int)=m
  .rw[decide_eq_true e] at q;refine L2.ifT (decide_eq_true (by rw[e])) ?_;exists 9,a,8,⟨_,hS⟩,λD g=>?_;let k:=aG g (.lst []);let lo:=z.length;refine cW (xs:=xs) (λi zs H'=>aS H H'/\H' D=some (.lst zs)/\zs=((ps.take i).map λ_=>true).map V.bl) ⟨k,aB,8⟩ (λi zs H' h=>h.2.1) (λi zs H' _ h=>h.1.seq hS) ?_ ?_
   .rintro i zs x H1 o ⟨b,d,rfl⟩ C r;let⟨y,p,rfl,f,t⟩:=z.get o;let hi:i < ps.length:=(wk.mp f).1;exists dU.1,dU.2,fZ ?_;exists 9,y,p,8,b.fq t,low p (mem_of_getElem? f),d,aZ (by rw[length_map,length_map,length_take];lia),r _ _ ⟨b.change g,aB,7⟩;rw[take_add_one,f,map_append,map_append];try rfl
   .rintro zs H1 ⟨b,d,rfl⟩;exists D,9,SqL.of d,7;rw[lo,take_length,all_map,show ps.all (id ∘ λ_=>true)=true by simp];exact q _ b
  .rw[decide_eq_false e] at q;exact L2.ifF (decide_eq_false (λz=>e (by injection z))) (q _ (aS.refl _))
theorem Y61:DZ 4 Z.f61 Z.d61 ["rows","streams","many"] (Et Z.K (zz3 Z)) "rests_of":=by
 exists 7,F61.b3 _ _ _ (by intros;rfl),F61.kp,m61
 refine F61.ok9 vH λ_ _ _ s H _ Q E hr h=>?_;let⟨a,b,xs,ys,ds,e,m,N,rfl,hA,hR,hB,hF,hl,af,hD,N0,hN,a0,ag,q⟩:=h;refine⟨_,(aD (qQ0 (i:=3) vH.nd (aY tW (cS (aA (dL (v:=.ref Z.aN) rfl mv_NOUGHT rfl) aC)) (pv 2)))
  (aD (dE PassesOwn.never rfl (tH rfl n_zip rfl (aA (pv 0) (aA (pv 1) aC))) (gW rfl (bU (qQ1 (i:=4) vH.nd) (bU (qQ1 (i:=5) vH.nd) fK)))
   (aD (jB (d9 Y8 hr rfl (aA (aR bK (pv 3) (cA (pv 4) rfl)) (aA (pv 5) aC))) (kL (pv 3) (cA (pv 4) rfl) gY))
  (aF (jB (d9 Y7 hr rfl (aA (aR bK (pv 3) (cA (pv 4) rfl)) (aA (pv 5) aC))) (kL (pv 3) (cA (pv 4) rfl) gY)))))
  (aF (aU (pv 3))))),7⟩
 let lx:=hR.length;let ly:=hF.length;exists zl9 1,λl1 a1=>?_;let⟨H1,a2,L,e1⟩:=nw a1 (.lst [.ref Z.aN]);rw[a2];exists 9,l1,(m:Int),[.ref Z.aN],8,8,e1,6,6,7,λl W=>?_
 .rw[Int.toNat_natCast,sizeLine_eq];simp only[length_cons,length_nil];lia
 rw[Int.toNat_natCast,oC];let M:=aG W (.lst (replicate m (.ref Z.aN)));let e2:upd H1 l (.lst (replicate m (.ref Z.aN))) l=some (.lst (replicate m (.ref Z.aN))):=aB;let F2:Fqs Z.K (upd H1 l (.lst (replicate m (.ref Z.aN)))) (replicate m (.ref Z.aN)) (replicate m (0,1)):=jW (fN _) m;generalize upd H1 l (.lst (replicate m (.ref Z.aN)))=H2 at M e2 F2 ⊢;let l0:H l=none:=L.free W;exists 9,9,a,b,8,⟨_,(L.trans M).seq hA⟩,⟨_,(L.trans M).seq hB⟩,7;refine Dw (xs:=xs) (ys:=ys) (λi σ H'=>aS H H'/\∃(zs:vk)(Y z5:Option V),σ=[some (.ref a),some (.ref b),some (.int (m:Int)),some (.ref l),Y,z5]/\H' l=some (.lst zs)/\Fqs Z.K H' zs (rst m ((ds.zip e).take i))/\(rst m ((ds.zip e).take i)).length=m/\∀p∈rst m ((ds.zip e).take i),Mq.Dn (2*N*i) p) ⟨L.trans M,_,none,none,8,e2,F2,length_replicate,λp hp=>?_⟩ (λi σ H' _ h=>⟨h.1.seq hA,h.1.seq hB⟩) ?_ ?_
 .rw[eq_of_mem_replicate (show p∈replicate m (0,1) from hp)];exact dn0.mono ⋯
 .rintro i x y σ H3 T1 ex ey ⟨s3,zs,Y,z5,rfl,el,F3,len,dn⟩ hT;let hi:i < ds.length:=by
   have:=(wk.mp ex).1;lia
  obtain⟨⟨k,u,v,p⟩,hd⟩:∃d,ds[i]?=some d:=⟨_,getElem?_eq_getElem hi⟩
  let⟨g,zr,a3,rw,fz⟩:=hR.at hd;let a4:x=.ref g:=by rw[a3] at ex;exact(Option.some.inj ex).symm
  subst a4;let⟨w,s',rfl,es,fw⟩:=hF.get ey;let f:=hD s' (mem_of_getElem? es);let⟨i0,i1,j0,j1⟩:=a0 _ (mem_of_getElem? hd);let i0:0<=u:=i0;let i1:u < m:=i1;let j0:0<=v:=j0;let j1:v < m:=j1;let et:(ds.zip e).take (i+1)=(ds.zip e).take i++[((k,u,v,p),s')]:=by
   let ez:(ds.zip e)[i]?=some ((k,u,v,p),s'):=getElem?_zip_eq_some.mpr ⟨hd,es⟩;rw[take_add_one,ez];rfl
  let big:2*N*i<=120*N:=by
   let h1:(2*N)*(i:Int)<=(2*N)*60:=Int.mul_le_mul_of_nonneg_left () ();lia
  let O:=aG hT (.tup [.ref g,.ref w]);exists T1,9,SqT.of aB,8,_,9,_,9,8,7;let P:=s3.trans O;let A:=O _ _ el;let F4:=F3.same O;generalize upd H3 T1 (.tup [.ref g,.ref w])=H4 at O P A F4 ⊢;let eR:=Gr m ((ds.zip e).take i) ((k,u,v,p),s');rw[<- et] at eR;generalize rst m ((ds.zip e).take i)=c at F4 len dn eR;let lz:=F4.length;let⟨dr,hy⟩:=id (rw.same P);let au:=yJ (ps:=c) (j:=u.toNat) ();let⟨c1,a5,a6⟩:=F4.at au;let d1:=dn _ (mem_of_getElem? au);let a7:atI zs u=some (.ref c1):=by
   have:=bM a5
   rwa [show ((u.toNat:Nat):Int)=u by lia] at this
  let a8:ixN zs.length u=some u.toNat:=by
   have:=iR (n:=zs.length) (k:=u.toNat) ()
   rwa [show ((u.toNat:Nat):Int)=u by lia] at this
  exists 9,9,g,(zz3 Z) _,_,_,9,hy,T.cl _,T.nS _,dH _ _ _,l,zs,_,9,8,SqL.of A,a7,9,c1,w,_,s',99,99,8,a6,P.fq fw,d1.1.pos,f.1.pos,d1.bd () (),f.bd () (),6,λr R S e5=>?_;let d2:=d1.plus f;let a9:=P.trans S;let B:=S _ _ hy;let C:=S _ _ A;exists 9,9,g,(zz3 Z) _,_,_,9,B,T.cl _,T.nS _,dH _ _ _,l,zs,_,u.toNat,8,8,C,a8,7;let F6:=(Fqs.set (Fq.of e5) u.toNat (F4.same S)).upd (o:=.lst (zs.set u.toNat (.ref r))) C;let D:upd R l (.lst (zs.set u.toNat (.ref r))) l=some (.lst (zs.set u.toNat (.ref r))):=aB;let F:aS H (upd R l (.lst (zs.set u.toNat (.ref r)))):=a9.change l0;let nl:g≠l:=gV B C (λz=>by cases z);let G:upd R l (.lst (zs.set u.toNat (.ref r))) g=some (.ins ((zz3 Z) k) dr (oI (.int u) (.int v) (.ref zr))):=by rw[aQ nl];exact B
  generalize upd R l (.lst (zs.set u.toNat (.ref r)))=H6 at F6 D F G ⊢;let I:(c.set u.toNat (Mq.plus (c.getD u.toNat (0,1)) s')).length=m:=by rw[length_set];exact len
  let J:∀p∈c.set u.toNat (Mq.plus (c.getD u.toNat (0,1)) s'),Mq.Dn (2*N*i+N) p:=λp hp=>by
   rcases mem_or_eq_of_mem_set hp with z | z
   .exact(dn p z).mono ()
   .rw[z];exact d2
  let t:rst m ((ds.zip e).take (i+1))=(c.set u.toNat (Mq.plus (c.getD u.toNat (0,1)) s')).set v.toNat (Mq.minus ((c.set u.toNat (Mq.plus (c.getD u.toNat (0,1)) s')).getD v.toNat (0,1)) s'):=eR;generalize c.set u.toNat (Mq.plus (c.getD u.toNat (0,1)) s')=Rt at F6 I J t;let ah:=F6.length;let av:=yJ (ps:=Rt) (j:=v.toNat) ();let⟨c2,aa,ac⟩:=F6.at av;let d3:=J _ (mem_of_getElem? av);let at2:atI (zs.set u.toNat (.ref r)) v=some (.ref c2):=by
   have:=bM aa
   rwa [show ((v.toNat:Nat):Int)=v by lia] at this
  let ad:ixN (zs.set u.toNat (.ref r)).length v=some v.toNat:=by
   have:=iR (n:=(zs.set u.toNat (.ref r)).length) (k:=v.toNat) ()
   rwa [show ((v.toNat:Nat):Int)=v by lia] at this
  exists 9,9,g,(zz3 Z) _,_,_,9,G,T.cl _,T.nG _,dZ _ _ _,l,_,_,9,8,SqL.of D,at2,9,c2,w,_,s',99,99,8,ac,F.fq fw,d3.1.pos,f.1.pos,d3.bd () (),f.bd () (),6,λq2 H7 U e7=>?_;let d4:=d3.minus f;let ae:=U _ _ G;let X:=U _ _ D;exists 9,9,g,(zz3 Z) _,_,_,9,ae,T.cl _,T.nG _,dZ _ _ _,l,_,_,v.toNat,8,8,X,ad,7;exists (F.trans U).change l0,_,_,9,aB,7,7,λp hp=>?_
  .rw[t];exact(Fqs.set (Fq.of e7) v.toNat (F6.same U)).upd X
  .rw[t,length_set];exact I
  .rw[t] at hp;let e3:2*N*((i+1:Nat):Int)=2*N*i+N+N:=by rw[Int.natCast_add,Int.mul_add];show 2*N*i+2*N*1=_;lia
   rw[e3];rcases mem_or_eq_of_mem_set hp with z | z
   .exact(J p z).mono ()
   .rw[z];exact d4
 .rintro σ H3 ⟨s3,zs,Y,z5,rfl,el,F3,len,dn⟩;rw[show min xs.length ys.length=(ds.zip e).length by rw[length_zip];lia,take_length] at F3;exists 9,q l zs H3 s3 el F3
theorem X5:gG Z.K Z.c_Net "count" Z.f59:=⟨a59_0,i59,F59.kp⟩
theorem Y62:DZ 5 Z.f62 Z.d62 ["net","streams"] (yL Z.c_Net Z.K) "serves":=by
 exists 7,F62.b2 _ _ (by intros;rfl),F62.kp,m62
 refine F62.ok9 rJ λ_ _ _ s H _ Q E t h=>?_;let⟨n,l,m,ds,v,rfl,nt,Y,h⟩:=h;let hu:=t.units;let M:=t.mono (show 1<=4 by lia);let r3:=t.mono (show 3<=4 by lia);refine⟨_,(aD (cD (fX (dQ (d9 Y60 r3 rfl (aA (pv 1) (aA (eI (pv 0) NTx.cl X5 R59 M b59 .nil aM) aC))))) (aF (aU jD)) bN)
  (aD (qQ0 (i:=2) rJ.nd (eI (pv 0) NTx.cl X3 R33 t b33 .nil aM))
  (aD (dE PassesOwn.never rfl (tH rfl n_zip rfl (aA (pv 2) (aA (pv 1) aC))) (gW rfl (bU (qQ1 (i:=3) rJ.nd) (bU (qQ1 (i:=4) rJ.nd) fK)))
   (aF (cD (PW.pt (kO (bH eO (fR (pv 3) T.cl mW GW M bW .nil aM) cC (bL _)) (jL (bH (Rx hu) (pv 4) (cA (pv 3) rfl) (bL _))))) (aF (aU jD)) bN)))
  (aF (aU (bX (rH rfl) rfl n_all PyProof.Rows.boot_all (aA (dM (nl:=1) (fr:=[]) (Nc:=["rest"]) (cl:=[]) rfl ⟨8,8,∅,∅,λx c h=>(by cases h),dY rfl,8,λi n h=>(by simp at h)⟩
    (cF (d9 Y61 t rfl (aA (pv 2) (aA (pv 1) (aA (eI (pv 0) NTx.cl X2 R30 M b30 .nil aM) aC))))) (λ_ _ _ _ _=>(qQ1 (i:=0) qb2)) (λ_ _ _ _ _=>eU)
    (λ_ _ _ _ _=>(iA (qc3 (K:=Z.K) rfl hu) (pv 0) (dL (v:=.ref Z.aN) rfl mv_NOUGHT rfl) (bL _)))) aC))))))),7⟩
 let⟨dx,hn⟩:=nt.ob;rcases h with ⟨O,q⟩ | ⟨b,ys,g,N,rfl,F,G,hl,hD,N0,hN,J,a0,q⟩
 .exists 9,9,n,dx,9,hn,eE _ _ ∅ ∅,n,l,_,ds,8,nt,v,_,false,8,O,λH1 z=>⟨9,fZ (q _ z)⟩
 let ly:=G.length;let hL:dP g:=λp hp=>(hD p hp).1;let O:AF Z.K H (ds.length:Int) (.ref b) true:=by
  have:=AF.lst (m:=(ds.length:Int)) F G hL ()
  rwa [decide_eq_true (by rw[ly,hl])] at this
 exists 9,9,n,dx,9,hn,eE _ _ ∅ ∅,n,l,_,ds,8,nt,.ref b,_,true,8,O,λH1 z=>⟨9,gB ?_⟩;let⟨a1,a2⟩:=(nt.same z).ob;exists 9,n,a1,9,a2,eE _ _ ∅ ∅,n,l,_,ds,8,nt.same z,6,λa xs H2 s2 na P R=>?_;let lx:=R.length;let o:=z.trans s2;exists 9,9,a,b,8,⟨_,SqL.of P⟩,⟨_,o.seq F⟩,7;refine Dw (xs:=xs) (ys:=ys) (λi σ H'=>aS H2 H'/\(∃(S U:Option V),σ=[some (.ref n),some (.ref b),some (.ref a),S,U])/\((ds.zip g).take i).all okp=true) ⟨aS.refl _,⟨none,none,8⟩,8⟩ (λi σ H' _ h=>⟨h.1.seq (SqL.of P),(o.trans h.1).seq F⟩) ?_ ?_
 .rintro i x y σ H3 T1 ex ey ⟨s3,⟨S,U,rfl⟩,f⟩ hT;let hi:i < ds.length:=by
   have:=(wk.mp ex).1;lia
  obtain⟨⟨k,u,v,p⟩,hd⟩:∃d,ds[i]?=some d:=⟨_,getElem?_eq_getElem hi⟩
  let⟨A,zr,a3,rw,fz⟩:=R.at hd;let a4:x=.ref A:=by rw[a3] at ex;exact(Option.some.inj ex).symm
  subst a4;let⟨w,s',rfl,es,fw⟩:=G.get ey;let ez:(ds.zip g)[i]?=some ((k,u,v,p),s'):=getElem?_zip_eq_some.mpr ⟨hd,es⟩;let et:(ds.zip g).take (i+1)=(ds.zip g).take i++[((k,u,v,p),s')]:=by rw[take_add_one,ez];rfl
  let sT:=aG hT (.tup [.ref A,.ref w]);exists T1,9,SqT.of aB,8,_,9,_,9,8,7;let j:=s3.trans sT;generalize upd H3 T1 (.tup [.ref A,.ref w])=H4 at sT j ⊢;let⟨dr,hy⟩:=id (rw.same j);exists 9,k,A,dr,9,hy,(eJ _ _ _ ∅ ∅ ∅),9,8,9,7
  by_cases B:k=.pu
  .refine L2.ifT (by show decide (V.str k.wd=V.str "push")=true;rw[oR];exact decide_eq_true B) ?_;exists 9,9,A,(zz3 Z) _,_,_,9,hy,T.cl _,T.nZ _,eQ _ _ _,xC ((o.trans j).fq fw) (j.fq fz) ⟨9,7⟩
   by_cases hs:s'=p
   .refine L2.ifF (by show (!decide (s'=p))=false;rw[decide_eq_true hs];rfl) ⟨j,⟨_,9⟩,7⟩;rw[et,all_append,f];simp[okp,B,hs]
   .refine L2.ifT (by show (!decide (s'=p))=true;rw[decide_eq_false hs];rfl) ?_;have:=q _ (o.trans j)
    rwa [qg4 (mem_of_getElem? ez) (by simp[okp,B,hs])] at this
  .refine L2.ifF (by show decide (V.str k.wd=V.str "push")=false;rw[oR];exact decide_eq_false B) (gB ⟨j,⟨_,9⟩,7⟩);rw[et,all_append,f];simp[okp,B]
 rintro σ H3 ⟨s3,⟨S,U,rfl⟩,f⟩;rw[show min xs.length ys.length=(ds.zip g).length by rw[length_zip];lia,take_length] at f;let r:=o.trans s3;let⟨a5,a6⟩:=(nt.same r).ob;exists 9,9,9,n,a5,9,a6,eE _ _ ∅ ∅,n,l,_,ds,8,nt.same r,7;exists a,b,xs,ys,ds,g,m,N,8,s3.seq (SqL.of P),R.same s3,r.seq F,G.same r,hl,Y,hD,N0,hN,J,a0,λc zs H4 j ec F4=>?_;let a7:=r.trans j;let lz:=F4.length;let len:(rst m (ds.zip g)).length=m:=by
  refine(vU λe he=>?_).1;exists J _ (of_mem_zip he).1,(hL _ (of_mem_zip he).2).pos
 exists c,8,⟨_,SqL.of ec⟩,λD L=>?_;refine clS L (xs:=zs) (λi W H'=>W=(((rst m (ds.zip g)).take i).map (λp=>decide (p=(0,1)))).map V.bl) rfl (λ_ h=>h.seq (SqL.of ec)) ?_ ?_
 .rintro i W x H5 hx ⟨I,X,rfl⟩ C hC;let⟨w,p,rfl,ep,a8⟩:=F4.get hx;let hi:i < (rst m (ds.zip g)).length:=(wk.mp ep).1;exists dU.1,dU.2,fZ ?_;exists 9,7;dsimp only[tC];refine xC (I.fq a8) (fN _) ?_;exists X,aZ (by rw[length_map,length_map,length_take];lia),hC _ _ ⟨I.change L,aB,7⟩;rw[take_add_one,ep,map_append,map_append];rfl
 .rintro W H5 ⟨I,X,rfl⟩;exists D,9,SqL.of X,7;rw[lz,take_length,all_map];have:=q _ (a7.trans I);unfold sv at this;rw[f,Bool.true_and] at this;exact this
theorem Y63:DZ 5 Z.f63 Z.d63 ["net","word"] (tK Z.c_Net Z.K (zz3 Z)) "rows_of":=by
 exists 7,F63.b2 _ _ (by intros;rfl),F63.kp,m63
 refine F63.ok9 Xc λ_ _ _ s H _ Q E r h=>?_;let⟨n,l,m,ds,k0,rfl,nt,j,q⟩:=h;let J:=r.mono (show 1<=4 by lia);refine⟨_,(aF (aU (dM (nl:=1) (fr:=[1]) (Nc:=["row","word"]) (cl:=[("word",s.heap.objs.size+1)]) rfl ⟨8,8,∅,∅,λx c h=>h,dY rfl,8,λi n h=>match i,h with | 0,h=>by cases h;exact⟨1,8,8,8,8,.inl rfl⟩ | k+1,h=>by rw[show 1+(k+1)=k+2 by lia] at h;cases h⟩
    (cF (eI (pv 0) NTx.cl X3 R33 r b33 .nil aM)) (λ_ _ _ _ _=>(qQ1 (i:=0) Fh)) (λ_ _ _ _ _=>(lV (bH eO (fR (pv 0) T.cl mW GW J bW .nil aM) (pv 1) (bL _))))
    (λ_ _ _ _ _=>(pv 0))))),7⟩
 let⟨dx,L⟩:=nt.ob;exists 9,n,dx,9,L,eE _ _ ∅ ∅,n,l,m,ds,8,nt,j,λa xs H1 M S t w=>?_;let A:=w.length;exists a,8,⟨_,SqL.of t⟩,λD B=>?_;refine clS B (xs:=xs) (λi zs H'=>gZ (zz3 Z) Z.K H' zs (fP k0 (ds.take i))/\zs.length<=i) ⟨.nil,Nat.le_refl _⟩ (λ_ h=>h.seq (SqL.of t)) ?_ ?_
 .rintro i zs x H2 o ⟨b,e,R2,U⟩ C F;let hi:i < ds.length:=by
   have:=(wk.mp o).1;lia
  obtain⟨⟨k,u,v,p⟩,G⟩:∃d,ds[i]?=some d:=⟨_,getElem?_eq_getElem hi⟩
  let⟨y,z,N,rw,O⟩:=w.at G;let ex:x=.ref y:=by rw[N] at o;exact(Option.some.inj o).symm
  subst ex;let g:=rw.same b;let⟨P,R⟩:=id g;exists dU.1,dU.2,7;exists 9,k,y,P,9,R,(eJ _ _ _ ∅ ∅ ∅),9,9,8,9,7;let I:ds.take (i+1)=ds.take i++[(k,u,v,p)]:=by rw[take_add_one,G];rfl
  by_cases f:k=k0
  .refine L2.ifT (by rw[dX];exact decide_eq_true f) ⟨9,e,aZ (),F _ _ ⟨b.change B,aB,7,by rw[wq];simp only[length_cons,length_nil];lia⟩⟩;rw[I,tJ,if_pos f];exact gZ.upd e (R2.app (.cons g (b.fq O) .nil))
  .refine L2.ifF (by rw[dX];exact decide_eq_false f) (F _ _ ⟨b,e,7,6⟩);rw[I,tJ,if_neg f];exact R2
 .rintro zs H2 ⟨b,e,R2,_⟩;rw[A,take_length] at R2;exact q D zs H2 (M.trans b) e R2
theorem Y64:DZ 5 Z.f64 Z.d64 ["net","word","streams"] (Da Z.c_Net Z.K (zz3 Z)) "with_streams":=by
 exists 7,F64.b3 _ _ _ (by intros;rfl),F64.kp,m64
 refine F64.ok9 Zc λ_ _ _ s H _ Q E L h=>?_;let⟨n,l,b,m,ds,k0,ys,o,rfl,nt,B,st,q⟩:=h;let r1:=L.mono (show 1<=4 by lia);refine⟨_,(aF (aU (dM (nl:=2) (fr:=[1]) (Nc:=["row","stream","word"]) (cl:=[("word",s.heap.objs.size+1)]) (g:=(Dc Z.K 2 (iU (gX 0) (iU (gX 1) Dy)))) rfl ⟨8,8,∅,∅,λx c h=>h,dY rfl,8,λi n h=>match i,h with | 0,h=>by cases h;exact⟨1,8,8,8,8,.inl rfl⟩ | k+1,h=>by rw[show 2+(k+1)=k+3 by lia] at h;cases h⟩
    (tH rfl n_zip rfl (aA (eI (pv 0) NTx.cl X3 R33 L b33 .nil aM) (aA (pv 2) aC))) (λ_ _ _ _ _=>(gW rfl (bU (qQ1 (i:=0) jR) (bU (qQ1 (i:=1) jR) fK)))) (λ_ _ _ _ _=>(lV (bH eO (fR (pv 0) T.cl mW GW r1 bW .nil aM) (pv 2) (bL _))))
    (λ_ _ _ _ _=>(dD (aA (pv 0) (aA (pv 1) aC))))))),7⟩
 let⟨dx,hn⟩:=nt.ob;exists 9,n,dx,9,hn,eE _ _ ∅ ∅,n,l,m,ds,8,nt,B,λa xs H1 M na N O=>?_;let a0:=O.length;let e:=st.same M;let a1:=e.f.length;let a2:=e.l;exists 9,a,b,8,⟨_,SqL.of N⟩,⟨_,e.s⟩,λD P=>?_;let sD:=aG P (.lst []);refine wU (xs:=xs) (ys:=ys) (λi zs H'=>aS H1 H'/\H' D=some (.lst zs)/\Rss (zz3 Z) Z.K H' zs (pJ k0 ((ds.zip o).take i))/\zs.length<=i) ⟨sD,aB,.nil,Nat.le_refl _⟩ (λi zs H' h=>h.2.1) (λi zs H' _ h=>⟨h.1.seq (SqL.of N),h.1.seq e.s⟩) ?_ ?_
 .rintro i zs x y H2 R ex ey ⟨F,G,R2,lz⟩ hT C S;let hi:i < ds.length:=by
   have:=(wk.mp ex).1;lia
  obtain⟨⟨k,u,v,p⟩,U⟩:∃d,ds[i]?=some d:=⟨_,getElem?_eq_getElem hi⟩
  let⟨r,z,V,rw,fz⟩:=O.at U;let W:x=.ref r:=by rw[V] at ex;exact(Option.some.inj ex).symm
  subst W;let⟨I,s',rfl,es,fw⟩:=e.f.get ey;let ez:(ds.zip o)[i]?=some ((k,u,v,p),s'):=getElem?_zip_eq_some.mpr ⟨U,es⟩;let X:(ds.zip o).take (i+1)=(ds.zip o).take i++[((k,u,v,p),s')]:=by rw[take_add_one,ez];rfl
  let t:=aG hT (.tup [.ref r,.ref I]);exists R,9,SqT.of aB,8,_,9,_,9,8,jC.1,jC.2,7;let J:=t _ _ G;generalize upd H2 R (.tup [.ref r,.ref I])=H3 at t J ⊢;let s3:=F.trans t;let A:=rw.same s3;let⟨dr,hy⟩:=id A;exists 9,k,r,dr,9,hy,(eJ _ _ _ ∅ ∅ ∅),9,9,8,9,7
  by_cases w:k=k0
  .refine L2.ifT (by rw[dX];exact decide_eq_true w) ⟨9,9,zl9 2,λt2 Y=>?_⟩;let j:=aG Y (.tup [.ref r,.ref I]);let e4:=j _ _ J;exists e4,aZ (),S _ _ ⟨(s3.trans j).change P,aB,7,by rw[wq];simp only[length_cons,length_nil];lia⟩;rw[X,Bk,if_pos w];exact Rss.upd e4 ((R2.same (t.trans j)).app (.cons (SqT.of aB) (A.same j) ((s3.trans j).fq fz) ((s3.trans j).fq fw) .nil))
  .refine L2.ifF (by rw[dX];exact decide_eq_false w) (S _ _ ⟨s3,J,7,6⟩);rw[X,Bk,if_neg w];exact R2.same t
 .rintro zs H2 ⟨F,G,R2,_⟩;rw[show min xs.length ys.length=(ds.zip o).length by rw[length_zip];lia,take_length] at R2;exact q D zs H2 (M.trans F) G R2
theorem Y65:DZ 6 Z.f65 Z.d65 ["net","streams"] (Ka Z.c_Net Z.K Kd.ho gH) "held_total":=by
 exists 7,F65.b2 _ _ (by intros;rfl),F65.kp,m65
 refine F65.ok9 qm2 λ_ _ _ s H _ Q E o h=>?_;let⟨n,l,b,m,ds,ys,d,rfl,nt,p,B,st,J,q⟩:=h;let L:=o.mono (show 3<=5 by lia);let M:=o.mono (show 4<=5 by lia);refine⟨_,(aF (aU (d9 Y12 M rfl (aA (dM (nl:=2) (fr:=[]) (Nc:=["row","stream"]) (cl:=[]) (g:=(Dc Z.K 2 (iU (gX 0) (iU (gX 1) Dy)))) rfl ⟨8,8,∅,∅,λx c h=>(by cases h),dY rfl,8,λi n h=>(by simp at h)⟩
    (cF (d9 Y64 o rfl (aA (pv 0) (aA cC (aA (pv 1) aC))))) (λ_ _ _ _ _=>(gW rfl (bU (qQ1 (i:=0) pQ) (bU (qQ1 (i:=1) pQ) fK)))) (λ_ _ _ _ _=>eU)
    (λ_ _ _ _ _=>(d9 Y10 L rfl (aA (Db (K:=Z.K) rfl (pv 0) rfl) (aA (pv 1) aC))))) aC)))),7⟩
 exists 9,9,n,l,b,_,ds,.ho,ys,d,8,nt,p,st,λa zs H1 N F G=>?_;let O:=G.length;let P:∀e∈pJ .ho (ds.zip d),Mq.Low e.1.2.2.2/\Mq.Bd 1000 e.1.2.2.2/\Mq.Low e.2/\Mq.Bd 3900 e.2:=λe R=>by
  let hm:=of_mem_zip (Gu R).1;exists (B _ hm.1).2.2.2.2.1,(B _ hm.1).2.2.2.2.2.2,(st.b _ hm.2).1,(st.b _ hm.2).2
 let lE:(pJ .ho (ds.zip d)).length<=100:=by
  let h1:(pJ .ho (ds.zip d)).length<=(ds.zip d).length:=length_filter_le _ _;let h2:(ds.zip d).length<=ds.length:=by rw[length_zip];lia
  lia
 generalize hEs:pJ .ho (ds.zip d)=es at *
 exists a,8,⟨_,SqL.of F⟩,λD I=>?_;refine clS I (xs:=zs) (λi f H'=>Fqs Z.K H' f ((es.take i).map gH)) .nil (λ_ h=>h.seq (SqL.of F)) ?_ ?_
 .rintro i f x H2 S ⟨j,u,F2⟩ C U;let⟨t,y,z,s',e,rfl,w,V,rw,W,fs⟩:=(G.same j).get S;let hi:i < es.length:=(wk.mp w).1;let⟨X,b1,Y,b2⟩:=P e (mem_of_getElem? w);let lu:=F2.length;rw[length_map,length_take] at lu;exists t,9,V,8,_,9,_,9,8,jC.1,jC.2,fZ ?_;let⟨dr,hy⟩:=id rw;exists 9,y,(zz3 Z) _,_,_,9,hy,T.cl _,T.nZ _,eQ _ _ _,9,z,s',_,_,1000,3900,8,W,fs,X.pos,Y.pos,b1,b2,6,λv H4 A e4=>?_;let k:=A _ _ u;exists k,aZ (),U _ _ ⟨(j.trans A).change I,aB,7⟩;rw[take_add_one,w,map_append];exact((F2.same A).app (.cons (Fq.of e4) .nil)).upd k
 .rintro f H2 ⟨j,u,F2⟩;rw[O,take_length] at F2;exists D,f,9,SqL.of u,F2,J,λr H3 s3 f3=>q r H3 (N.trans (j.trans s3)) f3
theorem Y66:DZ 6 Z.f66 Z.d66 ["net","heights"] (Ct Z.c_Net Z.K) "pushed_total":=by
 exists 7,F66.b2 _ _ (by intros;rfl),F66.kp,m66
 refine F66.ok9 qc6 λ_ _ _ s H _ Q E A h=>?_;let⟨n,l,a,m,ds,xs,hp,rfl,nt,B,W,st,L,q⟩:=h;let M:=A.mono (show 3<=5 by lia);let N:=A.mono (show 4<=5 by lia);refine⟨_,(aF (aU (d9 Y7 M rfl (aA (dL (v:=.ref Z.aN) rfl mv_NOUGHT rfl) (aA (d9 Y12 N rfl (aA (dM (nl:=1) (fr:=[1]) (Nc:=["row","heights"]) (cl:=[("heights",s.heap.objs.size+1)]) rfl ⟨8,8,∅,∅,λx c h=>h,dY rfl,8,λi n h=>match i,h with | 0,h=>by cases h;exact⟨1,8,8,8,8,.inl rfl⟩ | k+1,h=>by rw[show 1+(k+1)=k+2 by lia] at h;cases h⟩
    (cF (d9 Y63 A rfl (aA (pv 0) (aA cC aC)))) (λ_ _ _ _ _=>(qQ1 (i:=0) wI)) (λ_ _ _ _ _=>eU)
    (λ_ _ _ _ _=>(d9 Y10 M rfl (aA (Db (K:=Z.K) rfl (pv 0) rfl) (aA (d9 Y34 N rfl (aA (pv 0) (aA (pv 1) aC))) aC))))) aC)) aC))))),7⟩
 let O:∀k,∀d∈fP k ds,yE (m:Int) d/\d.1=k/\Mq.Low (flF hp d)/\Mq.Bd 7801 (flF hp d):=λk d e=>by
  let hm:=Gs e;let h:=W _ hm.1;let P:=qr4 (d:=d) st.b st.l ⟨h.1,h.2.1,h.2.2.1,h.2.2.2.1⟩;exists h,hm.2,P.1,P.2.mono ()
 let lD:(fP .pu ds).length<=100:=by
  let h1:(fP .pu ds).length<=ds.length:=length_filter_le _ _;lia
 let X:Mq.Pos ((fP .pu ds).map (gP hp)):=Xe λd e=>by let⟨h,_,F,b2⟩:=O _ d e;exact(qu9 h.2.2.2.2.1 h.2.2.2.2.2.2 F b2).1
 exists 9,n,l,_,ds,.pu,8,nt,B,λc zs H1 R S U=>?_;let Y:=U.length;exists c,8,⟨_,SqL.of S⟩,λD o=>?_;refine clS o (xs:=zs) (λi j H'=>Fqs Z.K H' j (((fP .pu ds).take i).map (gP hp))) .nil (λ_ h=>h.seq (SqL.of S)) ?_ ?_
 .rintro i j x H2 G ⟨f,I,F2⟩ C hC;let hi:i < (fP .pu ds).length:=by
   have:=(wk.mp G).1;lia
  obtain⟨⟨k,u1,v1,p⟩,e⟩:∃d,(fP .pu ds)[i]?=some d:=⟨_,getElem?_eq_getElem hi⟩
  let⟨y,z,ey,rw,fz⟩:=U.at e;let ex:x=.ref y:=by rw[ey] at G;exact(Option.some.inj G).symm
  subst ex;let⟨h,_,F,b2⟩:=O _ _ (mem_of_getElem? e);let lu:=F2.length;rw[length_map,length_take] at lu;let t:=rw.same f;let⟨dr,hy⟩:=id t;exists dU.1,dU.2,fZ ?_;exists 9,y,(zz3 Z) _,_,_,9,hy,T.cl _,T.nZ _,eQ _ _ _,9,9,y,a,(k,u1,v1,p),_,xs,hp,m,8,t,st.same (R.trans f),⟨h.1,h.2.1,h.2.2.1,h.2.2.2.1⟩,λu H3 s3 e3=>?_;exists z,u,_,_,1000,7801,8,(f.trans s3).fq fz,Fq.of e3,h.2.2.2.2.1.pos,F.pos,h.2.2.2.2.2.2,b2,6,λv V J e4=>?_;let g:=s3.trans J;let w:=g _ _ I;exists w,aZ (),hC _ _ ⟨(f.trans g).change o,aB,7⟩;rw[take_add_one,e,map_append];exact((F2.same g).app (.cons (Fq.of e4) .nil)).upd w
 .rintro j H2 ⟨f,I,F2⟩;rw[Y,take_length] at F2;exists D,j,9,SqL.of I,F2,L,λr H3 s3 f3=>?_;exists Z.aN,r,(0,1),_,1,9,fN _,f3,∅,(mI X).pos,⟨show (0:Nat) < 2 ^ 1 by decide,show (1:Nat) < 2 ^ 1 by decide⟩,L.all,6,λv V J e4=>q v V (R.trans (f.trans (s3.trans J))) e4
theorem X6:gG Z.K Z.c_Answer "streams" Z.f58:=⟨a58_0,i58,F58.kp⟩
theorem X7:cB [.non] [.none]:=.cons rfl .nil
theorem R67:FZ (CX1 Z.P Z.w) 10 Z.f67 Z.d67 ["net","streams"] (Ch Z.c_Net Z.c_NoStreams Z.c_Ring Z.c_Floats Z.K):=by
 refine F67.okX Uc (λvs H Q E h=>?_) λaw A av s H vs Q E hr h=>?_
 .let⟨_,_,_,_,_,_,rfl,_⟩:=h;rfl
 let⟨n,l,v,m,ds,bb,rfl,nt,D,a1,m6,ax,ad,qE,qT⟩:=h;let r1:=hr.mono (show 1<=9 by lia);let r3:=hr.mono (show 3<=9 by lia);let r5:=hr.mono (show 5<=9 by lia);let r9:=hr;refine⟨_,(aD (cD (fX (dQ (aH Y62.G r5 rfl m62 F62.kp Y62.b .nil aM (aA (pv 0) (aA (pv 1) aC))))) (aF (Rv jP oX rfl rfl mc_NoStreams x1_NoStreams (aA cC aC))) bN)
  (aD (aT (i:=2) Uc.nd rfl (Or.inr rfl) (eI (pF MA R56 r9 rfl ABx.mA b56 .nil (tL jP oX) (aA (pv 0) aC)) ABx.cl X6 R58 r1 b58 .nil aM))
  (aD (vD (i:=3) (nl:=1) (fr:=[]) (Nc:=["ring"]) (cl:=[]) Uc.nd rfl rfl rfl ⟨8,8,∅,∅,λx c h=>(by cases h),dY rfl,8,λi n h=>(by simp at h)⟩
    (cF (aH Y40.G r5 rfl m40 F40.kp bd40 X7 aM (aA (pv 0) aC))) (λ_ _ _ _ _=>(qQ1 (i:=0) qa9)) (λ_ _ _ _ _=>eU)
    (λ_ _ _ _ _=>(aR (rW (K:=Z.K) rfl) (aR (iT (K:=Z.K) rfl) (pv 0) aE) aE)) rfl)
  (aF (aU (dM (nl:=1) (fr:=[1,2]) (Nc:=["number","streams","own"]) (cl:=[("streams",s.heap.objs.size+1),("own",s.heap.objs.size+2)]) rfl ⟨8,8,∅,∅,(fL rfl (fL rfl (qQ))),dY rfl,8,λi n h=>match i,h with | 0,h=>by cases h;exact⟨1,8,8,8,8,.inl rfl⟩ | 1,h=>by cases h;exact⟨2,8,8,8,8,.inl rfl⟩ | k+2,h=>by rw[show 1+(k+2)=k+3 by lia] at h;cases h⟩
    (cF (pv 3)) (λ_ _ _ _ _=>(qQ1 (i:=0) mY)) (λ_ _ _ _ _=>eU)
    (λ_ _ _ _ _=>(aH Y7.G r3 rfl m7 F7.kp Y7.b .nil aM (aA (aR (iT (K:=Z.K) rfl) (pv 1) (pv 0)) (aA (aR (iT (K:=Z.K) rfl) (pv 2) (pv 0)) aC)))))))))),7⟩
 let pt:∀d∈ds,cO (m:Int) d.2.1 d.2.2.1:=λd hd=>(D d hd).pt;let S:m<=20:=by lia
 let a2:ds.length<=40:=by lia
 let ae:0<=NS:=by decide
 let ag:121*NS < 2 ^ 99:=by decide
 let no:∀{H1:Hp},bb=false->aS H H1->_:=λ{H1} e F=>qE e H1 F
 cases ad with
 |no af=>exact⟨9,9,n,l,m,ds,v,8,nt,6,.inl ⟨af,λH1 F=>⟨9,L2.ifT rfl ⟨zl9 1,qE rfl _ F⟩⟩⟩⟩
 | @ls b0 ys ss _ hS hF lS dN e=>
 exists 9,9,n,l,m,ds,9,nt,6,.inr ⟨b0,ys,ss,NS,8,hS,hF,lS,dN,ae,ag,pt,S,λH1 F=>?_⟩
 cases bb with
 |false=>exact⟨9,L2.ifT (by rw[e];rfl) ⟨zl9 1,qE rfl _ F⟩⟩
 |true=>
 let⟨rf,qq⟩:=qT rfl;exists 9,L2.ifF (by rw[e];rfl) ?_;refine qq5 (λb8 H'=>aS H H'/\rgH ds=[]/\cZ m ds=[]/\∃(t:Addr)(xs:vk)(fs:List Mq.Q2),b8=[some (.ref n),some (.ref b0),some (.ref t),none]/\SqL Z.K H' t xs/\Fqs Z.K H' xs fs/\fs.length=ds.length/\∀q∈fs,Mq.Low q/\Mq.Bd 3900 q) (λX hX=>?_) ?_
 .exists 9,λx dx a3 a4 ay=>?_;let sm:=Ma (C:=Z.c_Answer) a3 a4;exists x,dx,n,l,m,ds,8,aB,nt.same (F.trans sm),pt,a1,S,a2,λd hd=>⟨(D d hd).ok.2.2.2.2.1,(D d hd).bd⟩,rf.same (F.trans sm),λhR N=>?_;let⟨⟨b,kb,L,NB,a9,T⟩,q⟩:=qq hR N;exists b,kb,L,NB.same (F.trans sm),6,T,λps H2 ah an ai lo OV SV=>⟨8,7⟩;let s2:=Gb a3 a4 ah;let⟨aa,li,le,fo,xs,az,ha,aj,ak,al,am,nw⟩:=an.e;let ao:yU Z.c_Answer Z.K H2 x (lvS m ps) (flA m ds ps):=⟨_,_,_,_,_,_,ha,SqL.of aj,ak,SqL.of al,am⟩
  exists x,aa,9,ha,vZ _ _ _ ∅ ∅ ∅,x,_,9,ao,λt2 ap H4 s4 n2 e2 F2=>?_;exact hX _ _ ⟨F.trans (s2.trans s4),hR,N,t2,ap,9,SqL.of e2,F2,nC _ _ _ _,qf6 a1 OV lo a9 D (by rw[ai];exact Nat.le_add_right _ _)⟩
 rintro ba H2 ⟨s2,hR,N,t,xs,fs,rfl,hT,aq,lF,FL⟩;let⟨_,q⟩:=qq hR N;let ar:=xM pt;let ri:=iC (W:=λk=>decide (k≠.pu)) ar ds.length (by rw[qD];exact Nat.le_refl _);let ac:=ri.rl;generalize T:(bO (λk=>decide (k≠.pu)) (skl ds) ds.length).2=R at ac;let U:∀c∈R,c.1 < ds.length/\∃st,c.2=(c.1,1) :: st:=λc g=>by
  let⟨a,k,u,v,st,b7,_,e,_⟩:=ri.r c (by rw[T];exact g);exists a,st,e
 obtain⟨o,I⟩:∃o:List Nat,R.map (·.1)=o:=⟨9⟩
 let lk:o.length=R.length:=by rw[<- I,length_map]
 let eC:Dq ds=o:=by unfold Dq;rw[T,I]
 refine pK (λb8 H'=>aS H2 H'/\∃(D:Addr),b8=[some (.ref n),some (.ref b0),some (.ref t),some (.ref D)]/\H' D=some (.lst (o.map λ(k:Nat)=>V.int (k:Int)))) (λX hX=>?_) ?_
 .exists 9,n,l,.non,m,ds,9,nt.same s2,pt,S,a2,.non,λr us H3 s3 nr er rg nx=>?_;rw[T] at rg;exists r,8,⟨_,SqL.of er⟩,λD B=>?_;refine clS B (xs:=us) (λi z H'=>z=(o.take i).map λ(k:Nat)=>V.int (k:Int)) rfl (λ_ h=>h.seq (SqL.of er)) ?_ ?_
  .rintro i z x H5 J ⟨f,M,rfl⟩ C hC;let hl:=rg.l;rw[length_map] at hl;let hi:i < R.length:=by have:=(wk.mp J).1;lia
   let g:R[i]?=some R[i]:=getElem?_eq_getElem hi;let⟨as,st,a5⟩:=U _ (mem_of_getElem? g);generalize R[i]=c at g as a5;let⟨a,a6,rfl,_,ea,a7⟩:=rg.r i x c.2 J (by rw[getElem?_map,g];rfl);rw[a5] at a7;let Y:=a7.same f;let lx:=Y.length;obtain⟨y,hy⟩:∃y,a6[0]?=some y:=⟨_,getElem?_eq_getElem (by rw[lx];exact Nat.succ_pos _)⟩
   let⟨t',s',rfl,e0,ht⟩:=Y.get hy
   cases e0
   exists dU.1,dU.2,fZ ?_;exists 9,a,a6,0,.ref t',8,8,f.seq (SqL.of ea),bM (j:=0) hy,t',_,0,9,8,ht,8,7;exists M,aZ (by rw[length_map,length_take];lia),hC _ _ ⟨f.change B,aB,7⟩;rw[take_add_one,show o[i]?=some c.1 by rw[<- I,getElem?_map,g];rfl,map_append];rfl
  .rintro z H5 ⟨f,M,rfl⟩;exact hX _ _ ⟨s3.trans f,D,8,by rw[M,take_of_length_le (by have:=rg.l;rw[length_map] at this;lia)]⟩
 rintro bc H3 ⟨s3,D0,rfl,a8⟩;exists 9,D0,8,⟨_,SqL.of a8⟩,λD B=>?_;let sD:=aG B (.lst []);let O:=s2.trans s3;refine cW (xs:=o.map λ(k:Nat)=>V.int (k:Int)) (λi z H'=>aS H3 H'/\H' D=some (.lst z)/\Fqs Z.K H' z ((amF ds ss fs).take i)) ⟨sD,aB,.nil⟩ (λi z H' h=>h.2.1) (λi z H' _ h=>h.1.seq (SqL.of a8)) ?_ ?_
 .rintro i z x H5 J ⟨f,M,f5⟩ C hC;obtain⟨k,ek,rfl⟩:∃k,o[i]?=some k/\x=V.int (k:Int):=by
   rw[getElem?_map] at J
   cases h:o[i]? with
   |none=>rw[h] at J;cases J
   |some k=>rw[h] at J;exists k,8,(Option.some.inj J).symm
  let hk:k < ds.length:=by
   let⟨c,g,rfl⟩:=mem_map.mp (I.symm ▸ mem_of_getElem? ek:k∈R.map (·.1));exact(U c g).1
  let⟨u1,e1,f1⟩:=Fqs.getAt (hF.same (O.trans f)) (j:=k) ();let⟨u2,e2,f2⟩:=Fqs.getAt (aq.same (s3.trans f)) (j:=k) ();let w1:ss.getD k (0,1)∈ss:=pA ();let w2:fs.getD k (0,1)∈fs:=pA ();let au:=(dN _ w1).bd (n:=62) ∅ ∅;let eA:(amF ds ss fs)[i]?=some (Mq.minus (ss.getD k (0,1)) (fs.getD k (0,1))):=by
   unfold amF;rw[getElem?_map,eC,ek];rfl
  exists dU.1,dU.2,fZ ?_;exists 9,9,b0,ys,(k:Int),.ref u1,8,8,(O.trans f).seq hS,bM e1,9,9,t,xs,(k:Int),.ref u2,8,8,(s3.trans f).seq hT,bM e2,u1,u2,_,_,_,9,f1,f2,(dN _ w1).1.pos,(FL _ w2).1.pos,au,(FL _ w2).2,6,λv H6 s6 e6=>?_;let a0:=s6 _ _ M;exists a0,aZ (by rw[f5.length,length_take];have:=(wk.mp eA).1;unfold amF at *;rw[length_map,eC] at *;lia),hC _ _ ⟨(f.trans s6).change B,aB,7⟩;rw[take_add_one,eA];exact((f5.same s6).upd a0).app (.cons ((Fq.of e6).upd a0) .nil)
 .rintro z H5 ⟨f,M,f5⟩;refine q _ _ (amF ds ss fs) _ (O.trans f) (Zd O B) M ?_ (λp hp=>?_) (by unfold amF;rw[length_map])
  rotate_left
  .let⟨k,hk,rfl⟩:=mem_map.mp hp;let⟨c,g,rfl⟩:=mem_map.mp (show k∈R.map (·.1) by rw[I,<- eC];exact hk);let hk:=(U c g).1;exact Mq.cH (dN _ (pA ())).1.pos (FL _ (pA ())).1.pos
  .rwa [length_map,take_of_length_le (by unfold amF;rw[length_map,eC];exact Nat.le_refl _)] at f5
theorem X8:gG Z.K Z.c_Answer "heights" Z.f57:=⟨a57_0,i57,F57.kp⟩
theorem R68:FZ (CX1 Z.P Z.w) 10 Z.f68 Z.d68 ["net"] (Df Z.c_Net Z.c_Ring Z.c_Floats Z.K):=by
 refine F68.okX qf9 (λvs H Q E h=>?_) λae A ac s H vs Q E t h=>?_
 .let⟨_,_,_,_,rfl,_⟩:=h;rfl
 let⟨n,l,m,ds,rfl,nt,D,a,m6,af,rf,T⟩:=h;let U:=t.mono (show 1<=9 by lia);let r3:=t.mono (show 3<=9 by lia);let V:=t.mono (show 6<=9 by lia);let r9:=t;refine⟨_,(aD (qQ0 (i:=1) qf9.nd (pF MA R56 r9 rfl ABx.mA b56 .nil (tL jP oX) (aA (pv 0) aC)))
  (aF (aU (d9 Y7 r3 rfl (aA (d9 Y66 V rfl (aA (pv 0) (aA (eI (pv 1) ABx.cl X8 R57 U b57 .nil aM) aC))) (aA (d9 Y65 V rfl (aA (pv 0) (aA (eI (pv 1) ABx.cl X6 R58 U b58 .nil aM) aC))) aC)))))),7⟩
 try dsimp only
 let pt:∀d∈ds,cO (m:Int) d.2.1 d.2.2.1:=λd j=>(D d j).pt;let W:m<=20:=by lia
 let k:ds.length<=40:=by lia
 let Y:∀d∈ds,yE (m:Int) d:=λd j=>(D d j).ok;refine pK (λah H'=>aS H H'/\rgH ds=[]/\cZ m ds=[]/\∃(x:Addr)(lv fs:List Mq.Q2),ah=[some (.ref n),some (.ref x)]/\yU Z.c_Answer Z.K H' x lv fs/\lv.length=m/\fs.length=ds.length/\(∀p∈lv,Mq.Low p/\Mq.Bd 3900 p)/\(∀p∈fs,Mq.Low p/\Mq.Bd 3900 p)/\PB ((fP .pu ds).map (gP lv))/\PB ((pJ .ho (ds.zip fs)).map gH)) (λX hX=>?_) ?_
 .exists 9,λx dx I J ag=>?_;let M:=Ma (C:=Z.c_Answer) I J;exists x,dx,n,l,m,ds,8,aB,nt.same M,pt,a,W,k,λd j=>⟨(D d j).ok.2.2.2.2.1,(D d j).bd⟩,rf.same M,λy f=>?_;let⟨⟨b,kb,L,NB,c,eR⟩,q⟩:=T y f;exists b,kb,L,NB.same M,6,eR,λps H2 a0 o a1 lo z SV=>⟨8,7⟩;let B:=Gb I J a0;let N:m - 1<=ps.length:=by rw[a1];exact Nat.le_add_right _ _
  let⟨ad,li,le,fo,xs,ys,F,a2,a3,a4,a5,nw⟩:=o.e;exact hX _ _ ⟨B,y,f,x,_,9,⟨_,_,_,_,_,_,F,SqL.of a2,a3,SqL.of a4,a5⟩,Cu a N,nC _ _ _ _,Kt (Kg z) (rB lo) (),qf6 a z lo c D N,Zo a z lo c D N k,qa8 a z lo c D k⟩
 rintro ai H1 ⟨O,y,f,x,lv,fs,rfl,o,a6,a7,LV,FL,R,G⟩;let⟨_,q⟩:=T y f;let⟨dx,li,le,fo,xs,ys,F,_⟩:=o.e;exists 9,9,x,dx,9,F,vZ _ _ _ ∅ ∅ ∅,x,_,9,o,λt1 a8 H2 B n1 e1 F1=>?_;exists n,l,t1,m,ds,a8,9,nt.same (O.trans B),6,Y,⟨SqL.of e1,F1,a6,LV⟩,R,λu H3 s3 e3=>?_;let g:=B.trans s3;exists 9,9,x,dx,9,g _ _ F,vZ _ _ _ ∅ ∅ ∅,x,_,9,o.same g,λt2 a9 H4 S n2 e2 F2=>?_;exists n,l,t2,m,ds,a9,9,nt.same (O.trans (g.trans S)),6,Y,⟨SqL.of e2,F2,a7,FL⟩,G,λv H5 s5 f5=>?_;let lt:=(mI R.p).pos;let aa:Mq.Bd 1 (0,1):=⟨show (0:Nat) < 2 ^ 1 by decide,show (1:Nat) < 2 ^ 1 by decide⟩
 exists u,v,_,_,1+4400+1,4400,8,(S.trans s5).fq (Fq.of e3),f5,(Mq.cH ∅ lt).pos,(mI G.p).pos,rX aa R.all ∅ lt,G.all,6,λr H6 s6 e6=>?_;exact q _ (Mq.cH (Mq.cH ∅ lt).pos (mI G.p).pos) r H6 (O.trans (g.trans (S.trans (s5.trans s6)))) e6
theorem Y69:DZ 1 Z.f69 Z.d69 ["_law_script","_law_k"] (Bx Z.K) "_law_draw":=by
 exists 7,F69.b2 _ _ (by intros;rfl),F69.kp,m69
 refine F69.ok9 Ua λ_ _ _ s H _ Q E n h=>?_;let⟨a,b,j,k,rfl,w,o,v,q⟩:=h;let p:=n.units;refine⟨_,(aD (qQ0 (i:=2) Ua.nd (fU iH (pv 0) (eZ (pv 1)) (eZ (aY eK (pv 1) aE))))
  (aD (cD (bH (oK p) (pv 2) (cS aC) (bL _)) (aF (aU aE)) bN)
  (aF (aU (aR bK (pv 2) aE))))),7⟩
 exists 9,9,j,8,9,_,9,8,j+1,8,a,9,o,λl r=>?_;let c:=aG r (.lst (jJ (b.map V.int) (some j) (some (j+1))));let d:upd H l (.lst (jJ (b.map V.int) (some j) (some (j+1)))) l=some (.lst (jJ (b.map V.int) (some j) (some (j+1)))):=aB;let⟨g,t,x⟩:=Tj b (some j) (some (j+1));rw[t] at d c ⊢;generalize upd H l (.lst (g.map V.int))=H1 at d c ⊢;exists 9,zl9 0,λe u=>?_;let f:=aG u (.lst []);refine xK (f.seq (SqL.of d)) (SqL.of aB) ⟨9,7⟩;rcases g with _ | ⟨m,g⟩
 .exact fZ (q 0 _ (c.trans f))
 .refine gB ⟨9,l,_,_,9,8,f.seq (SqL.of d),bM (j:=0) rfl,q m _ (c.trans f)⟩
theorem Y70:DZ 1 Z.f70 Z.d70 ["_law_cell","_law_turn","_law_many"] Ao "_law_mix":=by
 exists 7,F70.b3 _ _ _ (by intros;rfl),F70.kp,m70
 refine F70.ok9 yV λ_ _ _ s H _ Q E J h=>?_;let⟨c,t,m,rfl,f,g,hm,q⟩:=h;rw[qw5];let⟨K,L,M,N,O,d,r,j⟩:=qi4;let⟨P,R,S,T,U,e,v,k⟩:=qr2;rw[r,v];refine⟨_,(aD (cD (bH eO (aY kS (pv 0) aE) aE (bL _)) (aD (qQ0 (i:=3) yV.nd (aY lZ (pv 0) aE))
  (aD (dE PassesOwn.never rfl (gE rfl n_range (aA (pv 1) aC)) (qQ1 (i:=4) yV.nd)
   (aF (qQ0 (i:=3) yV.nd (aY lZ (pv 3) (aY kM aE aE)))))
  (aF (aU (aY rS (pv 3) (pv 2)))))) bN)
  (aD (qQ0 (i:=5) yV.nd (aR bK (cS (Cl _ d)) (pv 1)))
  (aD (qQ0 (i:=6) yV.nd (aR bK (cS (Cl _ e)) (pv 1)))
  (aD (qQ0 (i:=7) yV.nd (aY kS (pv 0) aE))
  (aF (aU (aY rS (aY lZ (aY rS (aY eK (aY eK (aY cV (aY oM aE (pv 7)) (pv 7)) (aY cV (pv 5) (pv 7))) (aY oM aE (aY eK (pv 1) aE))) (pv 6)) aE) (pv 2)))))))),7⟩
 rw[j,k];let b:∀u:Int,0<=u.fmod m/\u.fmod m < m:=λu=>⟨Int.fmod_nonneg_of_pos u hm,Int.fmod_lt_of_pos u hm⟩
 let l:m≠0:=by lia
 exists 9,_,9,8,(show (0:Int) < 2 by decide),8,9,rF (λ_=>?_) (λ_=>?_)
 .exists 9,_,9,8,⟨∅,∅⟩,7;exists 9,t,8,6,6,7;refine gD (n:=t.toNat) (λi σ H'=>H'=H/\∃u z,σ=[some (.int c),some (.int t),some (.int m),some (.int u),z,none,none,none]) ⟨8,_,none,8⟩ ?_ ?_
  .rintro i σ H' hi ⟨rfl,u,z,rfl⟩;exists 9,_,9,8,⟨∅,∅,∅⟩,_,9,8,⟨∅,∅⟩,8,_,9
  .rintro σ H' ⟨rfl,u,z,rfl⟩;exists 9,9,_,9,8,l,q _ _ (b u).1 (b u).2 (aS.refl _)
 .exists zl9 10,λd o=>?_;let⟨I,w,b1,b2⟩:=qy2 (a0:=48271) (a1:=69621) (a2:=16807) (a3:=40692) (a4:=39373) (a5:=30269) (a6:=27183) (a7:=60013) (a8:=51749) (a9:=35969) ∅ ∅ f g;let⟨H1,a,y,A⟩:=nw o (.lst (l48.map V.int));rw[a];exists 9,d,_,_,9,8,SqL.of A,w,7;exists zl9 10,λe p=>?_;let⟨W,B,X,p2⟩:=qy2 (a0:=999983) (a1:=999979) (a2:=999961) (a3:=999959) (a4:=999953) (a5:=999931) (a6:=999917) (a7:=999907) (a8:=999883) (a9:=999863) ∅ ∅ f g;let⟨H2,a,C,D⟩:=nw p (.lst (l99.map V.int));rw[a];exists 9,e,_,_,9,8,SqL.of D,B,7;exists 9,_,9,8,(show (0:Int) < 2147483647 by decide),7;let F:=Int.emod_nonneg c (show (2147483647:Int)≠0 by decide);let G:=Int.emod_lt_of_pos c (show (0:Int) < 2147483647 by decide);generalize c % 2147483647=x at F G ⊢;exists 9,_,9,8,Or.inl ⟨∅,∅⟩,9,cU (n:=40) (m:=40) (uE () ()) (uE () ()) () () ?_;exists 9,9,cU (n:=40) (m:=40) (uE () ()) (uE () ()) () () ⟨_,9,8,7⟩;exists 9,_,9,8,_,9,8,Or.inl ⟨∅,∅⟩,_,9,8,9,_,9,8,6,_,9,8,⟨∅,∅⟩,9,_,9,8,l,7;exact q _ _ (b _).1 (b _).2 (y.trans C)
theorem Y71:DZ 1 Z.f71 Z.d71 ["_law_cell","_law_k"] Kx "_law_part":=by
 exists 7,F71.b2 _ _ (by intros;rfl),F71.kp,m71
 refine F71.ok9 Cc λ_ _ _ s H _ Q E a h=>?_;let⟨c,k,rfl,b,d,q⟩:=h;refine⟨_,(aD (cD (bH eO (aY kS (pv 0) aE) aE (bL _)) (aF (aU (aY eK (aY kS (pv 0) (aY kM aE aE)) (aY cV (aY oM aE (pv 1)) (pv 1))))) bN)
  (aD (qQ0 (i:=2) Cc.nd (aY lZ (pv 0) aE))
  (aD (dE PassesOwn.never rfl (gE rfl n_range (aA (aY oM aE (pv 1)) aC)) (qQ1 (i:=3) Cc.nd)
   (aF (qQ0 (i:=2) Cc.nd (aY lZ (pv 2) (aY kM aE aE)))))
  (aF (aU (aY eK (aY oM aE (pv 2)) aE)))))),7⟩
 exists 9,_,9,8,(show (0:Int) < 2 by decide),8,9,rF (λ_=>?_) (λ_=>?_)
 .exists 9,_,9,8,⟨∅,∅,∅⟩,_,9,8,(show (0:Int) < 10 ^ (15:Int).toNat by decide),7;exists 9,_,9,8,Or.inl ⟨∅,∅⟩,9,cU (n:=40) (m:=40) (uE () ()) (uE () ()) () () ⟨_,9,8,q _⟩
 .exists 9,_,9,8,⟨∅,∅⟩,7;exists 9,_,9,8,Or.inl ⟨∅,∅⟩,9,6,6,7;refine gD (n:=(12*k).toNat) (λi σ H'=>H'=H/\∃u z,σ=[some (.int c),some (.int k),some (.int u),z]) ⟨8,_,none,8⟩ ?_ ?_
  .rintro i σ H' hi ⟨rfl,u,z,rfl⟩;exists 9,_,9,8,⟨∅,∅,∅⟩,_,9,8,⟨∅,∅⟩,8,_,9
  .rintro σ H' ⟨rfl,u,z,rfl⟩;exists 9,_,9,8,Or.inl ⟨∅,∅⟩,_,9,8,q _
theorem Y72:DZ 1 Z.f72 Z.d72 ["_law_cell","_law_turn"] Lq "_law_far":=by
 exists 7,F72.b2 _ _ (by intros;rfl),F72.kp,m72
 refine F72.ok9 Nx λ_ _ _ s H _ Q E e h=>?_;let⟨c,t,rfl,f,g,q⟩:=h;refine⟨_,(aD (cD (bH eO (aY kS (pv 0) aE) aE (bL _)) (aD (qQ0 (i:=2) Nx.nd (aY lZ (pv 0) aE))
  (aD (dE PassesOwn.never rfl (gE rfl n_range (aA aE aC)) (qQ1 (i:=3) Nx.nd)
   (aF (qQ0 (i:=2) Nx.nd (aY lZ (pv 2) (aY kM aE aE)))))
  (aF (aU (aY kD (aY kS (pv 2) (aY eK (aY oM aE (aY kM aE aE)) aE)) (aY kM aE aE)))))) bN)
  (aF (aU (aY kD (aY kS (aY cV (aY kS (pv 0) (aY kM aE aE)) (aY eK (aY oM aE (pv 1)) aE)) (aY eK (aY oM aE (aY kM aE aE)) aE)) (aY kM aE aE))))),7⟩
 let a:∀u:Int,Q (.int (u % (2*10 ^ (12:Int).toNat+1) - 10 ^ (12:Int).toNat)) H:=λu=>by
  rw[p12];let b:=Int.emod_nonneg u (show (2*1000000000000+1:Int)≠0 by decide);let d:=Int.emod_lt_of_pos u (show (0:Int) < 2*1000000000000+1 by decide);exact q _ () ()
 exists 9,_,9,8,(show (0:Int) < 2 by decide),8,9,rF (λ_=>?_) (λ_=>?_)
 .exists 9,_,9,8,⟨∅,∅⟩,7;exists 9,6,6,7;refine gD (n:=10) (λi σ H'=>H'=H/\∃u z,σ=[some (.int c),some (.int t),some (.int u),z]) ⟨8,_,none,8⟩ ?_ ?_
  .rintro i σ H' hi ⟨rfl,u,z,rfl⟩;exists 9,_,9,8,⟨∅,∅,∅⟩,_,9,8,⟨∅,∅⟩,8,_,9
  .rintro σ H' ⟨rfl,u,z,rfl⟩;exists 9,_,9,8,⟨∅,∅,∅⟩,_,9,8,Or.inl ⟨∅,∅⟩,_,9,8,_,9,8,(show (0:Int) < 2*10 ^ (12:Int).toNat+1 by decide),_,9,8,⟨∅,∅,∅⟩,_,9,8,a u
 .exists 9,_,9,8,⟨∅,∅,∅⟩,_,9,8,(show (0:Int) < 10 ^ (12:Int).toNat by decide),7;let b:=Int.emod_nonneg c (show (10 ^ (12:Int).toNat:Int)≠0 by decide);let d:=Int.emod_lt_of_pos c (show (0:Int) < 10 ^ (12:Int).toNat by decide);rw[p12] at b d;exists 9,_,9,8,Or.inl ⟨∅,∅⟩,_,9,8,cU (n:=40) (m:=40) (uE (by rw[p12];lia) (by rw[p12];lia)) (uE () ()) () () ?_;exists _,9,8,⟨∅,∅,∅⟩,_,9,8,Or.inl ⟨∅,∅⟩,_,9,8,_,9,8,(show (0:Int) < 2*10 ^ (12:Int).toNat+1 by decide),_,9,8,⟨∅,∅,∅⟩,_,9,8,a _
theorem Y73:DZ 1 Z.f73 Z.d73 ["_law_top","_law_bottom"] hZ "_law_lowest":=by
 exists 7,F73.b2 _ _ (by intros;rfl),F73.kp,m73
 refine F73.ok9 rR λ_ _ _ s H _ Q E G h=>?_;let⟨t,a,n,rfl,r,x,g,q⟩:=h;refine⟨_,(aD (Vq (i:=2) (j:=3) rfl rR.nd rfl rfl ∅ rfl rfl (aA (bX wR rfl bl.abs PyProof.Rows.boot_abs (aA (pv 0) aC)) (aA (bX wR rfl bl.abs PyProof.Rows.boot_abs (aA (pv 1) aC)) aC)) rfl)
  (aD (xG PassesOwn.never (bH jQ (pv 3) aE (bL _)) (aF (Vq (i:=2) (j:=3) rfl rR.nd rfl rfl ∅ rfl rfl (aA (pv 3) (aA (aY rS (pv 2) (pv 3)) aC)) rfl)))
  (aD (cD (bH yG (pv 1) aE (bL _)) (aF (qQ0 (i:=2) rR.nd (aY kD aE (pv 2)))) bN)
  (aF (aU (dD (aA (aY jN (pv 0) (pv 2)) (aA (aY jN (pv 1) (pv 2)) aC)))))))),7⟩
 exists 9,9,9,9,_,9,7;let y:=Mq.qn6 t a;let n0:0<=(if t < 0 then -t else t):=by split<;>lia
 let n1:0<=(if a < 0 then -a else a):=by split<;>lia
 generalize (if t < 0 then -t else t)=A at *
 generalize (if a < 0 then -a else a)=C at *
 let d:=tS (t:=t) r;let b:Mq.B n (dvr t a):=x.le (Il r);refine yN (λσ H'=>H'=H/\∃u v,σ=[some (.int t),some (.int a),some (.int u),some (.int v)]/\gc u v=gc t a/\0<=u/\0<=v) (λσ _=>match σ with | [_,_,_,some (.int v)]=>v.natAbs | _=>0) ⟨8,A,C,8,y,n0,n1⟩ ?_ ?_
 .rintro σ H' ⟨rfl,u,v,rfl,e,I,w⟩;exists 9,8,9,7;refine rF (λc=>?_) (λc=>?_)
  .let l:v≠0:=by intro q;subst q;simp at c
   exists 9,9,9,_,9,8,l,_,9,⟨8,v,Int.fmod u v,8,(Ly u v).trans e,w,Int.fmod_nonneg_of_pos u ()⟩,zV l
  .let l:v=0:=by
    simp at c;exact c
   subst l;let D:u=gc t a:=by rw[<- e,Ln,if_neg ()]
   subst D;exists 9,_,9,8,9,rF (λc=>?_) (λc=>?_)
   .let f:a < 0:=of_decide_eq_true c;let e:dvr t a=0 - gc t a:=by unfold dvr;rw[if_pos f];lia
    rw[e] at d b;let o:mH H' Q (t.fdiv (0 - gc t a),a.fdiv (0 - gc t a)):=by
     let z:=q;unfold red at z;rw[e] at z;exact z
    exists 9,_,9,8,7;exists 9,9,gR d b g ⟨9,9,gR d b g ⟨zl9 2,λp hp=>?_⟩⟩;exact o p _ (aG hp _) aB
   .let f:¬a < 0:=λz=>c (decide_eq_true z);let e:dvr t a=gc t a:=by unfold dvr;rw[if_neg f]
    rw[e] at d b;let o:mH H' Q (t.fdiv (gc t a),a.fdiv (gc t a)):=by
     let z:=q;unfold red at z;rw[e] at z;exact z
    exists 9,9,gR d b g ⟨9,9,gR d b g ⟨zl9 2,λp hp=>?_⟩⟩;exact o p _ (aG hp _) aB
 .rintro σ H Q J m ⟨v,h1,h2,k,F,h4⟩;exists v,h1,h2,k,F,m _ _ h4
theorem Y74:DZ 2 Z.f74 Z.d74 ["_law_one","_law_other"] (fH Z.K Mq.plus) "_law_plus":=by
 exists 7,F74.b2 _ _ (by intros;rfl),F74.kp,m74
 refine F74.ok9 Zt λ_ _ _ s H _ Q E e h=>?_;let⟨a,b,p,q,n,m,rfl,d,fb,hp,f,c,bq,g,z⟩:=h;exists _,(aF (aU (d9 Y73 e rfl (aA (aY eK (aY cV (aR bC (pv 0) aE) (aR bC (pv 1) aE)) (aY cV (aR bC (pv 1) aE) (aR bC (pv 0) aE))) (aA (aY cV (aR bC (pv 0) aE) (aR bC (pv 1) aE)) aC))))),7;refine fQ rfl d (cY rfl fb (cU c.a bq.b () () ?_));refine fQ rfl fb (cY rfl d (cU bq.a c.b () () ⟨_,9,8,7⟩));refine cY rfl d (cY rfl fb (cU c.b bq.b () () ?_));exists _,_,n+m,8,iG hp f,c.b.mul bq.b,6,z
theorem Y75:DZ 2 Z.f75 Z.d75 ["_law_one","_law_other"] (fH Z.K Mq.minus) "_law_less":=by
 exists 7,F75.b2 _ _ (by intros;rfl),F75.kp,m75
 refine F75.ok9 Xd λ_ _ _ s H _ Q E e h=>?_;let⟨a,b,p,q,n,m,rfl,d,fb,hp,f,c,bq,g,z⟩:=h;exists _,(aF (aU (d9 Y73 e rfl (aA (aY kD (aY cV (aR bC (pv 0) aE) (aR bC (pv 1) aE)) (aY cV (aR bC (pv 1) aE) (aR bC (pv 0) aE))) (aA (aY cV (aR bC (pv 0) aE) (aR bC (pv 1) aE)) aC))))),7;refine fQ rfl d (cY rfl fb (cU c.a bq.b () () ?_));refine fQ rfl fb (cY rfl d (cU bq.a c.b () () ⟨_,9,8,7⟩));refine cY rfl d (cY rfl fb (cU c.b bq.b () () ?_));exists _,_,n+m,8,iG hp f,c.b.mul bq.b,6,z
theorem Y76:DZ 2 Z.f76 Z.d76 ["_law_cell","_law_turn"] wZ "_law_number":=by
 exists 7,F76.b2 _ _ (by intros;rfl),F76.kp,m76
 refine F76.ok9 wJ λl A g s H vs Q E a h=>?_;let⟨c,t,rfl,d,m,q⟩:=h;refine⟨_,(aD (qQ0 (i:=2) wJ.nd (aY kD (d9 Y70 a rfl (aA (pv 0) (aA (pv 1) (aA aE aC)))) aE))
  (aD (cD (bH eO (d9 Y70 a rfl (aA (pv 0) (aA aE (aA aE aC)))) aE (bL _)) (aF (qQ0 (i:=2) wJ.nd (d9 Y72 a rfl (aA (pv 0) (aA (pv 1) aC))))) bN)
  (aF (aU (d9 Y73 a rfl (aA (pv 2) (aA (aY eK aE (d9 Y70 a rfl (aA (pv 0) (aA (aY eK (pv 1) aE) (aA aE aC))))) aC))))))),7⟩
 exists 9,9,c,t,121,8,d,6,6,λr H1 n o e=>?_;exists _,9,8,7;exists 9,c,(7),(8),8,6,6,6,λp H2 _ _ f=>?_;exists 8,9,rF (λ_=>?_) (λ_=>?_)
 .exists 9,9,c,t,8,d,6,λu j k=>?_;exists 9,9,9,_,9,8,c,t+1,12,8,6,6,6,λb H3 b1 b2 s3=>⟨_,9,8,7⟩;exact Mh q (e.trans (f.trans s3)) j k b1 b2
 .exists 9,9,9,_,9,8,c,t+1,12,8,6,6,6,λb H3 b1 b2 s3=>⟨_,9,8,7⟩;exact Mh q (e.trans (f.trans s3)) () () b1 b2
theorem Y77:DZ 2 Z.f77 Z.d77 ["_law_cell"] Je "_law_size":=by
 exists 7,F77.b1 _ (by intros;rfl),F77.kp,m77
 refine F77.ok9 Ju λ_ _ _ s H _ Q E a h=>?_;let⟨c,rfl,q⟩:=h;refine⟨_,(aD (qQ0 (i:=1) Ju.nd (aY eK aE (d9 Y70 a rfl (aA (pv 0) (aA aE (aA aE aC))))))
  (aD (cD (bH eO (d9 Y70 a rfl (aA (pv 0) (aA aE (aA aE aC)))) aE (bL _)) (aF (qQ0 (i:=1) Ju.nd (aY eK aE (aY kS (d9 Y72 a rfl (aA (pv 0) (aA aE aC))) (aY eK (aY kM aE aE) aE))))) bN)
  (aF (aU (d9 Y73 a rfl (aA (pv 1) (aA (aY eK aE (d9 Y70 a rfl (aA (pv 0) (aA aE (aA aE aC))))) aC))))))),7⟩
 exists 9,c,3,12,8,∅,∅,∅,λr H1 j k d=>⟨_,9,8,7⟩;exists 9,c,(7),12,8,∅,∅,∅,λl H2 _ _ e=>?_;exists 8,9,rF (λ_=>?_) (λ_=>?_)
 .exists 9,c,1,8,∅,∅,λu m n=>?_;exists _,9,8,⟨∅,∅,∅⟩,_,9,8,_,9,8,(show (0:Int) < 10 ^ (9:Int).toNat+7 by decide),_,9,8,7;let f:(10:Int) ^ (9:Int).toNat+7=1000000007:=by decide
  let g:=Int.emod_nonneg u (show (1000000007:Int)≠0 by decide);have Z.f70:=Int.emod_lt_of_pos u (show (0:Int) < 1000000007 by decide);rw[<- f] at g Z.f70;exists 9,9,c,4,(6),8,∅,∅,∅,λb H3 b1 b2 s3=>⟨_,9,8,7⟩;exact Tz q (d.trans (e.trans s3)) (t:=1+u % ((10:Int) ^ (9:Int).toNat+7)) () (uE () (by rw[f] at Z.f70 ⊢;lia)) b1 b2
 .exists 9,9,c,4,(6),8,∅,∅,∅,λb H3 b1 b2 s3=>⟨_,9,8,7⟩;exact Tz q (d.trans (e.trans s3)) (t:=1+r) () (uE () ()) b1 b2
theorem Y78:DZ 1 Z.f78 Z.d78 ["_law_found","_law_due"] (Ce Z.K) "_law_told":=by
 exists 7,F78.b2 _ _ (by intros;rfl),F78.kp,m78
 refine F78.ok9 Sh λm A f s H vs Q E g h=>?_;let⟨a,d,p,rfl,b,e,q⟩:=h;let k:=g.units;refine⟨_,(aD (cD (PW.pt (kU (fX (dQ (iJ (i:=0) rfl (Or.inl rfl) bl.isi n_tuple rfl rfl PyProof.Rows.boot_tuple))) (kN (bH jQ (bX bV rfl n_len PySem.boot_len (aA (pv 0) aC)) aE (bL _))))) (aF (aU jD)) bN)
  (aD (dE PassesOwn.never rfl (qk8 (pv 0)) (qQ1 (i:=2) Sh.nd)
   (aF (cD (PW.pt (kU (fX (dQ (iJ (i:=2) rfl (Or.inl rfl) bl.isi bl.int rfl rfl PyProof.Rows.boot_int))) (kN (dQ (iJ (i:=2) rfl (Or.inl rfl) bl.isi bl.bool rfl rfl PyProof.Rows.boot_bool))))) (aF (aU jD)) bN)))
  (aF (aU (iA (oK k) (pv 0) (pv 1) (bL _)))))),7⟩
 exists _,_,true,8,.tup b,8,9,gB ⟨9,a,9,.inr b,8,9,gB ?_⟩;exists 9,a,8,⟨_,b⟩,7;refine qc0 (xs:=[.int p.1,.int p.2]) (λi σ H'=>H'=H/\∃z,σ=[some (.ref a),some (.ref d),z]) ⟨8,none,8⟩ (λi σ H' _ h=>by rw[h.1];exact b) ?_ ?_
 .rintro i x σ H' l ⟨rfl,z,rfl⟩;let c:∃j,x=.int j:=by
   match i,l with
   |0,h=>exact⟨p.1,by simpa using h.symm⟩
   |1,h=>exact⟨p.2,by simpa using h.symm⟩
   |n+2,h=>simp at h
  let⟨j,rfl⟩:=c;exists _,_,true,8,.of (.int j),8,9,gB ⟨_,_,false,8,.of (.int j),(by with_unfolding_all rfl),9,gB ⟨8,9⟩⟩
 .rintro σ H' ⟨rfl,z,rfl⟩;exists 9,9,xC b e ?_;show Q (.bl (decide (p=p))) H';rw[decide_eq_true rfl];exact q
theorem X9:gG Z.K Z.c_Net "add" Z.f32:=⟨a32_0,i32,F32.kp⟩
theorem Y79:DZ 6 Z.f79 Z.d79 ["_law_many","_law_rows"] (Ep Z.c_Net Z.K) "_law_net":=by
 exists 7,F79.b2 _ _ (by intros;rfl),F79.kp,m79
 refine F79.ok9 Cb λ_ A _ s H _ Q E B h=>?_;let⟨m,r,M,ds,rfl,C,c,D,F,N,X,q⟩:=h;let G:=B.mono (show 3<=5 by lia);refine⟨_,(aD (qQ0 (i:=2) Cb.nd (pF MN R29 G rfl NTx.mN b29 .nil aM (aA (pv 0) aC)))
  (aD (dE PassesOwn.never rfl (cF (pv 1)) (qQ1 (i:=3) Cb.nd)
   (aF (bY (Ll (pv 2) NTx.cl X9 R32 B b32 .nil aM (aA (d9 Y21 G rfl (aA (pv 3) aC)) aC)))))
  (aF (aU (pv 2))))),7⟩
 let I:=F.length;exists 9,λn dx h1 h2 Y=>⟨n,dx,m,8,aB,C,c,λl H2 nl f O P=>⟨8,7⟩⟩;let J:aS H H2:=λb o e=>f b o (by rw[aQ (bA e h1),aQ (bA e h2)];exact e) (bA e h1);let a:H l=none:=by
  cases o:H l with
  |none=>rfl
  |some o'=>
   have:(upd (upd H dx (.own n)) n (.ins Z.c_Net dx [])) l=some o':=by rw[aQ (bA o h1),aQ (bA o h2)];exact o
   rw[this] at nl;cases nl
 exists 9,r,8,⟨_,J.seq D⟩,7;refine eX (xs:=M) (λi σ H'=>aS H H'/\dB Z.c_Net Z.K H' n l m (ds.take i)/\∃z,σ=[some (.int m),some (.ref r),some (.ref n),z]) ⟨J,⟨⟨dx,O⟩,[],P,.nil⟩,none,8⟩ (λi σ H' _ h=>h.1.seq D) ?_ ?_
 .rintro i x σ H3 g ⟨s3,N3,z,rfl⟩;let hi:i < ds.length:=by
   have:=(wk.mp g).1;lia
  obtain⟨⟨k,u,v,p⟩,j⟩:∃d,ds[i]?=some d:=⟨_,getElem?_eq_getElem hi⟩
  let⟨t,R,S,T,U⟩:=F.at j;let ex:x=.ref t:=by rw[S] at g;exact(Option.some.inj g).symm
  subst ex;let⟨dn,L⟩:=N3.ob;let lt:(ds.take i).length<=ds.length:=by rw[length_take];lia
  exists 9,n,dn,9,L,eE _ _ ∅ ∅,9,t,_,_,_,9,s3.seqT T,k,8,λy H4 w ny rw=>?_;exists n,l,y,R,m,ds.take i,k,u,v,p,8,N3.same w,rw,(s3.trans w).fq U,N _ (mem_of_getElem? j),by rw[length_take];lia,λH5 V W=>?_;exists λb o e=>V _ _ ((s3.trans w) _ _ e) (bA e a),7,9;rw[take_add_one,j];exact W
 .rintro σ H3 ⟨s3,N3,z,rfl⟩;rw[I,take_length] at N3;exists 9,q n l H3 s3 a N3
theorem Y80:DZ 4 Z.f80 Z.d80 ["_law_script","_law_many"] (Dj Z.K) "_law_drawn":=by
 exists 7,F80.b2 _ _ (by intros;rfl),F80.kp,m80
 refine F80.ok9 iD λ_ _ _ s H _ Q E hr h=>?_;let⟨a,ns,m,rfl,hS,al,dg,dh,q⟩:=h;let hu:=hr.units;let r1:=hr.mono (show 1<=3 by lia);let r2:=hr.mono (show 2<=3 by lia);refine⟨_,(aD (qQ0 (i:=2) iD.nd (cS aC))
  (aD (qQ0 (i:=3) iD.nd (cS aC))
  (aD (dE PassesOwn.never rfl (cF (fU iH (pv 0) (eZ aE) (eZ (aY eK aE (d9 Y70 r1 rfl (aA (d9 Y69 r1 rfl (aA (pv 0) (aA aE aC))) (aA aE (aA aE aC)))))))) (qQ1 (i:=4) iD.nd)
   (aD (qQ0 (i:=5) iD.nd (aR bK (cS (aA cC (aA cC (aA cC (aA cC aC))))) (d9 Y70 r1 rfl (aA (pv 4) (aA aE (aA aE aC))))))
  (aD (qQ0 (i:=6) iD.nd (nX (bH eO (pv 5) cC (bL _)) (d9 Y77 r2 rfl (aA (pv 4) aC)) (d9 Y76 r2 rfl (aA (pv 4) (aA aE aC)))))
  (aD (bY (iS PySem.F.plainAttrs_list PySem.F.slot_list_append PySem.F.type_list_append dG (pv 2) (aA (dD (aA (pv 5) (aA (d9 Y70 r1 rfl (aA (pv 4) (aA aE (aA (pv 1) aC)))) (aA (d9 Y70 r1 rfl (aA (pv 4) (aA aE (aA (pv 1) aC)))) (aA (pv 6) aC))))) aC)))
  (aF (bY (iS PySem.F.plainAttrs_list PySem.F.slot_list_append PySem.F.type_list_append dG (pv 3) (aA (nX (bH eO (pv 5) cC (bL _)) (pv 6) (d9 Y76 r2 rfl (aA (pv 4) (aA aE aC)))) aC))))))))
  (aD (qQ0 (i:=7) iD.nd (aY tW (cS (aA (dD (aA aE (aA aE aC))) aC)) (pv 1)))
  (aD (dE PassesOwn.never rfl (tH rfl n_zip rfl (aA (pv 2) (aA (pv 3) aC))) (gW rfl (bU (qQ1 (i:=8) iD.nd) (bU (qQ1 (i:=9) iD.nd) fK)))
   (aD (jB (d9 Y74 r2 rfl (aA (aR bK (pv 7) (aR bC (pv 8) aE)) (aA (pv 9) aC))) (kL (pv 7) (aR bC (pv 8) aE) gY))
  (aF (jB (d9 Y75 r2 rfl (aA (aR bK (pv 7) (aR bC (pv 8) aE)) (aA (pv 9) aC))) (kL (pv 7) (aR bC (pv 8) aE) gY)))))
  (aD (dE PassesOwn.never rfl (Ai rfl n_range (aA aE (aA (pv 1) aC))) (qQ1 (i:=10) iD.nd)
   (aF (cD (bH (Rx hu) (aR bK (pv 7) (pv 10)) (dD (aA aE (aA aE aC))) (bL _)) (aD (qQ0 (i:=11) iD.nd (d9 Y70 r1 rfl (aA (d9 Y71 r1 rfl (aA (d9 Y69 r1 rfl (aA (pv 0) (aA aE aC))) (aA (pv 10) aC))) (aA aE (aA (aY eK (bX bV rfl n_len PySem.boot_len (aA (pv 2) aC)) aE) aC)))))
  (aD (bY (iS PySem.F.plainAttrs_list PySem.F.slot_list_insert PySem.F.type_list_insert Ad (pv 2) (aA (pv 11) (aA (dD (aA cC (aA aE (aA (pv 10) (aA (aR bK (pv 7) (pv 10)) aC))))) aC))))
  (aF (bY (iS PySem.F.plainAttrs_list PySem.F.slot_list_insert PySem.F.type_list_insert Ad (pv 3) (aA (pv 11) (aA (aR bK (pv 7) (pv 10)) aC))))))) bN)))
  (aF (aU (dD (aA (pv 2) (aA (pv 3) aC))))))))))),7⟩
 exists zl9 0,λr a3=>?_;let⟨H1,A,s1,e1⟩:=nw a3 (.lst []);rw[A];exists zl9 0,λb hb=>?_;let⟨H2,A,s2,e2⟩:=nw hb (.lst []);rw[A];let a8:H b=none:=s1.free hb;let a0:r≠b:=bA e1 hb;let am:=s1.trans s2;let an:RS Z.K H2 r b m NN [] [] [] []:=⟨s2 _ _ e1,e2,.nil,.nil,8,λe D=>by cases D⟩
 clear e1 e2;exists 9,3,8,9,a,ns,1,1,8,8,am.seq hS,al,λv di ao=>?_;exists v,3,13,8,6,6,6,λj dj j0 dk aq=>?_;let ar:=am.trans (ao.trans aq);exists _,9,8,3+j,8,a,9,ar.seq hS,λC hC=>?_;let as:(jJ (ns.map V.int) (some 3) (some (3+j))).length<=12:=by
  obtain⟨n,rfl⟩:∃n:Nat,j=(n:Int):=⟨j.toNat,6⟩
  unfold jJ;let h1:HT.sIx (ns.map V.int).length (ns.map V.int).length (some (3+(n:Int)))=min (3+n) (ns.map V.int).length:=by
   simp only[HT.sIx];split<;>lia
  let h2:HT.sIx (ns.map V.int).length 0 (some 3)=min 3 (ns.map V.int).length:=by simp[HT.sIx]
  rw[h1,h2,length_take,length_drop];lia
 let⟨ms,em⟩:=Ov ns (some 3) (some (3+j));rw[em] at as ⊢;rw[length_map] at as;let a4:=(an.same ao).same aq;let⟨H3,A,s3,eC⟩:=nw hC (.lst (ms.map V.int));rw[A];let ax:C≠r:=Ne.symm (bA a4.er hC);let ay:C≠b:=Ne.symm (bA a4.eb hC);let az:=a4.same s3;exists C,8,⟨_,SqL.of eC⟩,7;refine eX (xs:=ms.map V.int) (λn σ H'=>aS H H'/\H' C=some (.lst (ms.map V.int))/\∃(f ys:vk)(ds:List RD)(g:List Mq.Q2)(z4 z5 z6:Option V),σ=[some (.ref a),some (.int (m:Int)),some (.ref r),some (.ref b),z4,z5,z6,none,none,none,none,none]/\RS Z.K H' r b m NN f ys ds g/\ds.length=n) ⟨ar.trans s3,eC,[],[],[],[],none,none,none,8,az,8⟩ (λn σ H' _ h=>SqL.of h.2.1) ?_ ?_
 .rintro n x σ H4 T ⟨s4,c4,f,ys,ds,g,z4,z5,z6,rfl,rs,O⟩;let hn:n < 12:=by
   have:=(wk.mp T).1;rw[length_map] at this;lia
  obtain⟨c,rfl⟩:∃c,x=.int c:=by
   rw[getElem?_map] at T
   cases hm:ms[n]? with
   |none=>rw[hm] at T;cases T
   |some c=>rw[hm] at T;cases T;exists c,8
  let c5:=rs.R.length;let c7:=rs.F.length;let a1:=rs.l;exists zl9 4,λL hL=>?_;let⟨H5,A,J,e5⟩:=nw hL (.lst [V.str "piece",.str "push",.str "hold",.str "hold"]);rw[A];exists 9,c,0,4,8,6,6,6,λw0 H6 c8 c9 s6=>?_;let⟨k,ek⟩:=aAh c8 c9;exists L,_,_,9,8,SqL.of (s6 _ _ e5),ek,7;let ca:=J.trans s6
  try dsimp only
  refine pK (λdt H'=>aS H6 H'/\∃(z:Addr)(p:Mq.Q2),dt=[some (.ref a),some (.int (m:Int)),some (.ref r),some (.ref b),some (.int c),some (.str k.wd),some (.ref z),none,none,none,none,none]/\Fq Z.K H' z p/\(k=.pc->qc8 p)/\(k≠.pc->Dr p)) (λX hX=>?_) ?_
  .exists 9,8,9,7
   by_cases kp:k=.pc
   .refine L2.ifT (by show decide (V.str k.wd=V.str "piece")=true;rw[qe2];exact decide_eq_true kp) ?_;exists 9,c,8,λp hp z H7 B e7=>hX _ _ ⟨B,z,p,8,Fq.of e7,λ_=>hp,λn=>absurd kp n⟩
   .refine L2.ifF (by show decide (V.str k.wd=V.str "piece")=false;rw[qe2];exact decide_eq_false kp) ?_;exists 9,c,3,8,6,6,λp hp z H7 B e7=>hX _ _ ⟨B,z,p,8,Fq.of e7,λn=>absurd n kp,λ_=>hp⟩
  rintro du H7 ⟨cb,z,p,rfl,fz,cc,b0⟩;let b7:=ca.trans cb;let cd:=b7 _ _ rs.er;exists 9,.inl ⟨8,_,SqL.of cd⟩,9,9,9,c,1,(m:Int),8,6,6,6,λu H8 u0 um s8=>⟨9,9,c,2,(m:Int),8,6,6,6,λv' H9 v0 vm s9=>⟨9,zl9 4,λt ht=>?_⟩⟩;let⟨P,A,ce,et⟩:=nw ht (.tup [.str k.wd,.int u,.int v',.ref z]);rw[A];let et:SqT Z.K P t [.str k.wd,.int u,.int v',.ref z]:=SqT.of et;let b8:=s8.trans (s9.trans ce);let a9:=b7.trans b8;let rs5:=rs.same a9;exists r,f,.ref t,8,8,rs5.er,aZ (),7;let U:aS H (upd P r (.lst (f++[.ref t]))):=(s4.trans a9).change a3;let ba:upd P r (.lst (f++[.ref t])) r=some (.lst (f++[.ref t])):=aB;let a2:upd P r (.lst (f++[.ref t])) b=some (.lst ys):=by rw[aQ (Ne.symm a0)];exact rs5.eb
  let bb:upd P r (.lst (f++[.ref t])) C=some (.lst (ms.map V.int)):=by rw[aQ ax];exact a9 _ _ c4
  let bc:=b8.fq fz;let R6:=Rts.upd (o:=.lst (f++[.ref t])) rs5.er (rs5.R.app (.cons et bc .nil));let F6:=rs5.F.upd (o:=.lst (f++[.ref t])) rs5.er;let be:Fq Z.K (upd P r (.lst (f++[.ref t]))) z p:=SqT.upd bc rs5.er;generalize upd P r (.lst (f++[.ref t]))=bf at U ba a2 bb R6 F6 be ⊢;let rd:R49 m (k,u,v',p):=qr7 ⟨u0,um,v0,vm⟩ cc b0;let bg:∀(w:Addr)(s':Mq.Q2)(Hx:Hp),aS bf Hx->Fq Z.K Hx w s'->Mq.Dn NN s'->okp ((k,u,v',p),s')=true->aS H (upd Hx b (.lst (ys++[.ref w])))/\upd Hx b (.lst (ys++[.ref w])) C=some (.lst (ms.map V.int))/\RS Z.K (upd Hx b (.lst (ys++[.ref w]))) r b m NN (f++[.ref t]) (ys++[.ref w]) (ds++[(k,u,v',p)]) (g++[s'])/\(ds++[(k,u,v',p)]).length=n+1:=λw s' Hx sx fw dw ow=>by
   let bh:=sx _ _ a2;refine⟨(U.trans sx).change a8,by rw[aQ ay];exact sx _ _ bb,⟨by rw[aQ a0];exact sx _ _ ba,aB,Rts.upd bh (R6.same sx),((F6.same sx).app (.cons fw .nil)).upd bh,by rw[wq,wq,a1];rfl,λe D=>?_⟩,by rw[wq,O];rfl⟩;rw[yF _ _ _ _ a1.symm] at D;rcases mem_append.mp D with z | z
   .exact rs.p e z
   .have:e=((k,u,v',p),s'):=by simpa using z
    rw[this];exists rd,dw,ow
  exists 9,.inl ⟨8,_,SqL.of a2⟩,7;exists 9,8,9,7
  by_cases hk:k=.pu
  .refine L2.ifT (by show decide (V.str k.wd=V.str "push")=true;rw[oR];exact decide_eq_true hk) ?_;exists 9,b,ys,.ref z,8,8,a2,aZ (),7;let⟨f1,f2,f3,f4⟩:=bg z p bf (aS.refl _) be (b0 (by rw[hk];decide)).2.2 (by simp[okp]);exists f1,f2,_,_,_,_,_,_,9,f3,f4
  .refine L2.ifF (by show decide (V.str k.wd=V.str "push")=false;rw[oR];exact decide_eq_false hk) ?_;exists 9,c,5,8,∅,∅,λp' cf z' cg bi ch=>?_;exists b,ys,.ref z',8,8,bi _ _ a2,aZ (),7;let⟨f1,f2,f3,f4⟩:=bg z' p' cg bi (Fq.of ch) cf.2.2 (by simp[okp,hk]);exists f1,f2,_,_,_,_,_,_,9,f3,f4
 rintro σ HZ ⟨s4,-,f,ys,ds,g,z4,z5,z6,rfl,rs,O⟩;rw[length_map] at O;clear an az a4 eC ax ay;dsimp only;refine qq5 (λdt H'=>∃(lf:Addr)(zs:vk)(z8 z9:Option V),dt=[some (.ref a),some (.int (m:Int)),some (.ref r),some (.ref b),z4,z5,z6,some (.ref lf),z8,z9,none,none]/\aS HZ H'/\HZ lf=none/\H' lf=some (.lst zs)/\Fqs Z.K H' zs (rst m (ds.zip g))) (λX hX=>?_) ?_
 .let lx:=rs.R.length;let ly:=rs.F.length;let hl:=rs.l;let ci:∀d∈ds,cO (m:Int) d.2.1 d.2.2.1:=λd hd=>(rs.pt d hd).pt;let hD:=rs.dn;let N0:0<=NN:=by decide
  let hN:121*NN < 2 ^ 99:=by decide
  let dm:ds.length<=60:=by lia
  let hA:SqL Z.K HZ r f:=SqL.of rs.er;let hB:SqL Z.K HZ b ys:=SqL.of rs.eb;let hR:=rs.R;let hF:=rs.F;exists zl9 2,λM cj=>?_;let⟨H0,A,s0,f0⟩:=nw cj (.tup [.int 0,.int 1]);rw[A];let f0:Fq Z.K H0 M (0,1):=Fq.of f0;exists zl9 1,λl1 ck=>?_;let aa:=aG ck (.lst [.ref M]);let s1:=s0.trans aa;let e1:upd H0 l1 (.lst [.ref M]) l1=some (.lst [.ref M]):=aB;let f1:=aa.fq f0;generalize upd H0 l1 (.lst [.ref M])=H1 at s1 e1 f1 ⊢;clear aa;exists 9,l1,(m:Int),[.ref M],8,8,e1,6,6,7,λl bj=>?_
  .rw[Int.toNat_natCast,sizeLine_eq];simp only[length_cons,length_nil];lia
  rw[Int.toNat_natCast,oC];let s2:=aG bj (.lst (replicate m (.ref M)));let e2:upd H1 l (.lst (replicate m (.ref M))) l=some (.lst (replicate m (.ref M))):=aB;let F2:Fqs Z.K (upd H1 l (.lst (replicate m (.ref M)))) (replicate m (.ref M)) (replicate m (0,1)):=jW (s2.fq f1) m;generalize upd H1 l (.lst (replicate m (.ref M)))=H2 at s2 e2 F2 ⊢;let l0:HZ l=none:=s1.free bj;exists 9,9,r,b,8,⟨_,(s1.trans s2).seq hA⟩,⟨_,(s1.trans s2).seq hB⟩,7;refine Dw (xs:=f) (ys:=ys) (λi σ H'=>aS HZ H'/\∃(zs:vk)(w8 w9:Option V),σ=[some (.ref a),some (.int (m:Int)),some (.ref r),some (.ref b),z4,z5,z6,some (.ref l),w8,w9,none,none]/\H' l=some (.lst zs)/\Fqs Z.K H' zs (rst m ((ds.zip g).take i))/\(rst m ((ds.zip g).take i)).length=m/\∀p∈rst m ((ds.zip g).take i),Mq.Dn (2*NN*i) p) ⟨s1.trans s2,_,none,none,8,e2,F2,length_replicate,λp hp=>?_⟩ (λi σ H' _ h=>⟨h.1.seq hA,h.1.seq hB⟩) ?_ ?_
  .rw[eq_of_mem_replicate (show p∈replicate m (0,1) from hp)];exact dn0.mono ⋯
  .rintro i x y σ H3 T1 ex ey ⟨s3,zs,w8,w9,rfl,el,F3,len,dn⟩ hT;let hi:i < ds.length:=by
    have:=(wk.mp ex).1;lia
   obtain⟨⟨k,u,v,p⟩,hd⟩:∃d,ds[i]?=some d:=⟨_,getElem?_eq_getElem hi⟩
   let⟨yr,zr,cm,co,fz⟩:=hR.at hd;let cp:x=.ref yr:=by rw[cm] at ex;exact(Option.some.inj ex).symm
   subst cp;let⟨w,s',rfl,es,fw⟩:=hF.get ey;let W:=hD s' (mem_of_getElem? es);let⟨i0,i1,j0,j1⟩:=ci _ (mem_of_getElem? hd);let i0:0<=u:=i0;let i1:u < m:=i1;let j0:0<=v:=j0;let j1:v < m:=j1;let et:(ds.zip g).take (i+1)=(ds.zip g).take i++[((k,u,v,p),s')]:=by
    let ez:(ds.zip g)[i]?=some ((k,u,v,p),s'):=getElem?_zip_eq_some.mpr ⟨hd,es⟩;rw[take_add_one,ez];rfl
   let big:2*NN*i<=120*NN:=by
    let h1:(2*NN)*(i:Int)<=(2*NN)*60:=Int.mul_le_mul_of_nonneg_left () ();lia
   let sT:=aG hT (.tup [.ref yr,.ref w]);exists T1,9,SqT.of aB,8,_,9,_,9,8,7;let s4:=s3.trans sT;let ac:=sT _ _ el;let F4:=F3.same sT;generalize upd H3 T1 (.tup [.ref yr,.ref w])=H4 at sT s4 ac F4 ⊢;let eR:=Gr m ((ds.zip g).take i) ((k,u,v,p),s');rw[<- et] at eR;generalize rst m ((ds.zip g).take i)=S at F4 len dn eR;let lz:=F4.length;let hy:=s4.seqT co;let au:=yJ (ps:=S) (j:=u.toNat) ();let⟨c1,cq,cr⟩:=F4.at au;let d1:=dn _ (mem_of_getElem? au);let cs:atI zs u=some (.ref c1):=by
    have:=bM cq
    rwa [show ((u.toNat:Nat):Int)=u by lia] at this
   let ct:ixN zs.length u=some u.toNat:=by
    have:=iR (n:=zs.length) (k:=u.toNat) ()
    rwa [show ((u.toNat:Nat):Int)=u by lia] at this
   exists 9,9,yr,_,1,9,8,hy,8,l,zs,_,9,8,SqL.of ac,cs,9,c1,w,_,s',99,99,8,cr,s4.fq fw,d1.1.pos,W.1.pos,d1.bd () (),W.bd () (),6,λq1 H5 J e5=>?_;let d2:=d1.plus W;let cu:=s4.trans J;let bn:=J.seqT hy;let ad:=J _ _ ac;exists 9,9,yr,_,1,9,8,bn,8,l,zs,_,u.toNat,8,8,ad,ct,7;let F6:=(Fqs.set (Fq.of e5) u.toNat (F4.same J)).upd (o:=.lst (zs.set u.toNat (.ref q1))) ad;let G:upd H5 l (.lst (zs.set u.toNat (.ref q1))) l=some (.lst (zs.set u.toNat (.ref q1))):=aB;let U:aS HZ (upd H5 l (.lst (zs.set u.toNat (.ref q1)))):=cu.change l0;let ae:SqT Z.K (upd H5 l (.lst (zs.set u.toNat (.ref q1)))) yr [.str k.wd,.int u,.int v,.ref zr]:=bn.upd ad;generalize upd H5 l (.lst (zs.set u.toNat (.ref q1)))=H6 at F6 G U ae ⊢;let af:(S.set u.toNat (Mq.plus (S.getD u.toNat (0,1)) s')).length=m:=by rw[length_set];exact len
   let ag:∀p∈S.set u.toNat (Mq.plus (S.getD u.toNat (0,1)) s'),Mq.Dn (2*NN*i+NN) p:=λp hp=>by
    rcases mem_or_eq_of_mem_set hp with z | z
    .exact(dn p z).mono ()
    .rw[z];exact d2
   let a5:rst m ((ds.zip g).take (i+1))=(S.set u.toNat (Mq.plus (S.getD u.toNat (0,1)) s')).set v.toNat (Mq.minus ((S.set u.toNat (Mq.plus (S.getD u.toNat (0,1)) s')).getD v.toNat (0,1)) s'):=eR;generalize S.set u.toNat (Mq.plus (S.getD u.toNat (0,1)) s')=Rt at F6 af ag a5;let dq:=F6.length;let av:=yJ (ps:=Rt) (j:=v.toNat) ();let⟨c2,cv,cw⟩:=F6.at av;let d3:=ag _ (mem_of_getElem? av);let at2:atI (zs.set u.toNat (.ref q1)) v=some (.ref c2):=by
    have:=bM cv
    rwa [show ((v.toNat:Nat):Int)=v by lia] at this
   let cx:ixN (zs.set u.toNat (.ref q1)).length v=some v.toNat:=by
    have:=iR (n:=(zs.set u.toNat (.ref q1)).length) (k:=v.toNat) ()
    rwa [show ((v.toNat:Nat):Int)=v by lia] at this
   exists 9,9,yr,_,2,9,8,ae,8,l,_,_,9,8,SqL.of G,at2,9,c2,w,_,s',99,99,8,cw,U.fq fw,d3.1.pos,W.1.pos,d3.bd () (),W.bd () (),6,λq2 H7 B e7=>?_;let d4:=d3.minus W;let cy:=B.seqT ae;let bo:=B _ _ G;exists 9,9,yr,_,2,9,8,cy,8,l,_,_,v.toNat,8,8,bo,cx,7;exists (U.trans B).change l0,_,_,9,aB,7,7,λp hp=>?_
   .rw[a5];exact(Fqs.set (Fq.of e7) v.toNat (F6.same B)).upd bo
   .rw[a5,length_set];exact af
   .rw[a5] at hp;let e3:2*NN*((i+1:Nat):Int)=2*NN*i+NN+NN:=by rw[Int.natCast_add,Int.mul_add];show 2*NN*i+2*NN*1=_;lia
    rw[e3];rcases mem_or_eq_of_mem_set hp with z | z
    .exact(ag p z).mono ()
    .rw[z];exact d4
  .rintro σ H3 ⟨s3,zs,w8,w9,rfl,el,F3,len,dn⟩;rw[show min f.length ys.length=(ds.zip g).length by rw[length_zip];lia,take_length] at F3;exact hX _ _ ⟨l,zs,w8,w9,8,s3,l0,el,F3⟩
 rintro dv H5 ⟨lf,zs,z8,z9,rfl,J,nl,el,Fz⟩;let a1:=rs.l;let cz:0<=NN:=by decide
 let d0:lf≠r:=Ne.symm (bA rs.er nl);let d5:lf≠b:=Ne.symm (bA rs.eb nl);let rv:=vU λe D=>(rs.p e D).e;let rd:=qh7 (m:=m) cz λe D=>(rs.p e D).2.1;let lz:=Fz.length;let ll:((ds.zip g).length:Int)<=21:=by rw[length_zip];lia
 let d6:2*NN*((ds.zip g).length:Int)<=NP:=by
  have:=Int.mul_le_mul_of_nonneg_left ll (show 0<=2*NN by lia);unfold NP;lia
 let rd:∀p∈rst m (ds.zip g),Mq.Dn NP p:=λp hp=>(rd p hp).mono d6;let rs5:RS Z.K H5 r b m NP f ys ds g:=⟨J _ _ rs.er,J _ _ rs.eb,rs.R.same J,rs.F.same J,rs.l,λe D=>⟨(rs.p e D).1,(rs.p e D).2.1.mono (by unfold NP;lia),(rs.p e D).2.2⟩⟩
 let dr:=Th ds;let d7:(iQ ds).length+bZ ds<=12:=by lia
 generalize hl0:ds.zip g=l0 at *
 exists 9,1,(m:Int),8,6,7;refine gD (lo:=1) (n:=((m:Int) - 1).toNat) (λi σ H'=>aS H H'/\H' lf=some (.lst zs)/\Fqs Z.K H' zs (rst m l0)/\∃(f ys:vk)(ds:List RD)(g:List Mq.Q2)(ah ai:Option V),σ=[some (.ref a),some (.int (m:Int)),some (.ref r),some (.ref b),z4,z5,z6,some (.ref lf),z8,z9,ah,ai]/\RS Z.K H' r b m NP f ys ds g/\ds.length<=12+i/\(iQ ds).length+bZ ds<=12/\∀x,1<=x->x < m->flS x (ds.zip g)=if x<=i then 0 else flS x l0) ⟨s4.trans J,el,Fz,f,ys,ds,g,none,none,8,rs5,6,d7,λx x1 xm=>by rw[if_neg (),hl0]⟩ ?_ ?_
 .rintro i σ H6 hi ⟨s6,G,F6,f,ys,ds,g,ah,ai,rfl,rs,O,a6,a7⟩;let c5:=rs.R.length;let c7:=rs.F.length;let a1:=rs.l;let ap:=yJ (ps:=rst m l0) (j:=i+1) (by rw[rv.1];lia);let⟨w,ew,fw⟩:=F6.at ap;let vp:=rv.2.2 (i+1);let dp:=rd _ (mem_of_getElem? ap);generalize (rst m l0).getD (i+1) (0,1)=p at fw vp dp;let aw:atI zs (1+(i:Int))=some (.ref w):=by
   have:=bM ew
   rwa [show (((i+1:Nat)):Int)=1+(i:Int) by lia] at this
  exists 9,9,lf,zs,_,9,8,SqL.of G,aw,zl9 2,λt0 d8=>?_;let⟨H7,A,B,e7⟩:=nw d8 (.tup [.int 0,.int 1]);rw[A];refine xC (B.fq fw) (Fq.of (p:=(0,1)) e7) ⟨9,7⟩
  by_cases hp:p=(0,1)
  .refine L2.ifF (by show (!decide (p=(0,1)))=false;rw[decide_eq_true hp];rfl) ?_;exists s6.trans B,B _ _ G,F6.same B,f,ys,ds,g,_,9,rs.same B,6,a6,λx x1 xm=>?_;rw[a7 x x1 xm];rw[hp,Mq.mQ] at vp
   by_cases T:x=i+1
   .rw[if_neg (),if_pos (),T,vp]
   .by_cases hy:x<=i
    .rw[if_pos hy,if_pos ()]
    .rw[if_neg hy,if_neg ()]
  .refine L2.ifT (by show (!decide (p=(0,1)))=true;rw[decide_eq_false hp];rfl) ?_;let bp:=s6.trans B;exists 9,a,ns,2,2,8,8,bp.seq hS,al,λc H8 s8=>?_;exists 9,c,9,6,6,λw'=>?_;let br:=rs.same (B.trans s8);let da:=bp.trans s8;exists 9,r,f,8,.inl (SqL.of br.er),_,9,8,w',(8),(f.length:Int)+1,8,∅,∅,6,λy' H9 y0 y1 s9=>?_;obtain⟨y,rfl⟩:∃y:Nat,y'=(y:Int):=⟨y'.toNat,6⟩
   let bt:=br.same s9;let bu:=B.trans (s8.trans s9);let db:=da.trans s9;exists 9,.inl ⟨8,_,SqL.of bt.er⟩,9,9,9,9,lf,zs,_,9,8,SqL.of (bu _ _ G),aw,zl9 4,λN dc=>?_;let⟨HA,A,sA,eA⟩:=nw dc (.tup [.str "push",.int 0,.int (1+(i:Int)),.ref w]);rw[A];let I:=bt.same sA;let de:=db.trans sA;let aj:=bu.trans sA;let bv:=aj.fq fw;let df:SqT Z.K HA N [.str Kd.pu.wd,.int 0,.int (1+(i:Int)),.ref w]:=SqT.of eA;exists r,f,y,_,.ref N,8,8,8,6,I.er,aZ (),7;let bx:aS H (upd HA r (.lst (f.take y++.ref N :: f.drop y))):=de.change a3;let bz:upd HA r (.lst (f.take y++.ref N :: f.drop y)) r=some (.lst (f.take y++.ref N :: f.drop y)):=aB;let Y:upd HA r (.lst (f.take y++.ref N :: f.drop y)) b=some (.lst ys):=by rw[aQ (Ne.symm a0)];exact I.eb
   let ak:upd HA r (.lst (f.take y++.ref N :: f.drop y)) lf=some (.lst zs):=by rw[aQ d0];exact aj _ _ G
   let RB:=Rts.upd (o:=.lst (f.take y++.ref N :: f.drop y)) I.er ((Rts.take y I.R).app (.cons df bv (Rts.drop y I.R)));let FB:=I.F.upd (o:=.lst (f.take y++.ref N :: f.drop y)) I.er;let c0:=(F6.same aj).upd (o:=.lst (f.take y++.ref N :: f.drop y)) I.er;let c3:Fq Z.K (upd HA r (.lst (f.take y++.ref N :: f.drop y))) w p:=SqT.upd bv I.er;generalize upd HA r (.lst (f.take y++.ref N :: f.drop y))=HB at bx bz Y ak RB FB c0 c3 ⊢;exists 9,.inl ⟨8,_,SqL.of Y⟩,9,9,9,lf,zs,_,9,8,SqL.of ak,aw,b,ys,y,_,.ref w,8,8,8,6,Y,aZ (),7;let ez:=Na ((Kd.pu,0,1+(i:Int),p):RD) p y ds g a1.symm;exists bx.change a8,by rw[aQ d5];exact ak,c0.upd Y,_,_,ds.take y++(.pu,0,1+(i:Int),p) :: ds.drop y,g.take y++p :: g.drop y,_,_,rfl,⟨by rw[aQ a0];exact bz,aB,Rts.upd Y RB,((Fqs.take' y FB).app (.cons c3 (Fqs.drop' y FB))).upd Y,7,λe D=>?_⟩,?_,(Xq ds y _ _ p).symm ▸ a6,λx x1 xm=>?_
   .simp only[wq,length_cons,length_take,length_drop];lia
   .rw[ez] at D;have:e=((Kd.pu,0,1+(i:Int),p),p)\/e∈ds.zip g:=by
     rcases mem_append.mp D with z | z
     .exact .inr (mem_of_mem_take z)
     .rcases mem_cons.mp z with z | z
      .exact .inl z
      .exact .inr (mem_of_mem_drop z)
    rcases this with z | z
    .rw[z];exists ⟨⟨Int.le_refl 0,by show (0:Int) < m;lia,by show 0<=1+(i:Int);lia,by show 1+(i:Int) < m;lia,dp.1,(λz=>by cases z),dp.bd ∅ ∅⟩,(λz=>by cases z),(λ_=>dp)⟩,dp,by simp[okp]
    .exact rs.p e z
   .simp only[wq,length_cons,length_take,length_drop];lia
   .rw[ez,Yf,a7 x x1 xm];unfold flw;show (if ((0:Int)).toNat=x then Mq.val p else 0) + -(if (1+(i:Int)).toNat=x then Mq.val p else 0)+_=_;rw[if_neg (show ¬((0:Int)).toNat=x by show ¬0=x;lia)]
    by_cases T:x=i+1
    .rw[if_pos (),if_neg (),if_pos (),T,vp];grind
    .rw[if_neg (show ¬(1+(i:Int)).toNat=x by lia)]
     by_cases hy:x<=i
     .rw[if_pos hy,if_pos ()];grind
     .rw[if_neg hy,if_neg ()];grind
 rintro σ H6 ⟨s6,G,F6,f,ys,ds,g,ah,ai,rfl,rs,O,a6,a7⟩;exists 9,9,zl9 2,λt ht=>?_;let B:=aG ht (.tup [.ref r,.ref b]);refine q t r b f ys ds g _ (s6.trans B) a3 a8 a0 aB (rs.same B) () a6 ?_;unfold sv;rw[Fc (λe D=>(rs.p e D).e) (λx x1 xm=>by rw[a7 x x1 xm,if_pos ()]),Bool.and_true,all_eq_true];exact λe D=>(rs.p e D).2.2
theorem Y81:DZ 3 Z.f81 Z.d81 ["_law_marks","_law_lifts","_law_start","_law_goal","_law_size_here"] (Eh Z.K) "_law_joined":=by
 exists 7,F81.b5 _ _ _ _ _ (by intros;rfl),F81.kp,m81
 refine F81.ok9 Eo λ_ A _ s H _ Q E Y h=>?_;let⟨M,L,z,u,v,n,d,ls,xs,p,rfl,hM,hL,R,F,a7,hl,hu,hv,a0,fz,bz,bl,a8,q⟩:=h;refine⟨_,(aD (qQ0 (i:=5) Eo.nd (d9 Y75 Y rfl (aA (d9 Y75 Y rfl (aA (aR bK (pv 1) (pv 2)) (aA (aR bK (pv 1) (pv 3)) aC))) (aA (pv 4) aC))))
  (aD (qQ0 (i:=6) Eo.nd (aR bK (pv 0) (pv 3)))
  (aF (dE PassesOwn.never rfl (gE rfl n_range (aA (bX bV rfl n_len PySem.boot_len (aA (pv 0) aC)) aC)) (qQ1 (i:=7) Eo.nd)
   (aF (cD (bH eO (aR bK (pv 0) (pv 7)) (pv 6) (bL _)) (aD (jB (aR bK (pv 0) (pv 2)) (kL (pv 0) (pv 7) gY))
  (aF (jB (d9 Y74 Y rfl (aA (aR bK (pv 1) (pv 7)) (aA (pv 5) aC))) (kL (pv 1) (pv 7) gY)))) bN)))))),7⟩
 let lx:=F.length;let⟨xu,eu,fu⟩:=F.at (zS (show u < ls.length by lia));let⟨xv,ev,fv⟩:=F.at (zS (show v < ls.length by lia));let G:=gA bl (show u < ls.length by lia);let I:=gA bl (show v < ls.length by lia);exists 9,9,L,xs,_,9,8,SqL.of hL,bM eu,9,9,L,xs,_,9,8,SqL.of hL,bM ev,xu,xv,_,_,120,120,8,fu,fv,G.p2,I.p2,G.bd (),I.bd (),∅,λa1 H1 s1 e1=>?_;let D1:=G.d1 I;exists 9,a1,z,_,p,120,120,8,Fq.of e1,s1.fq fz,D1.p2,bz.p2,D1.bd (),bz.bd (),∅,λJ H2 s2 e2=>?_;let j:=s1.trans s2;let D2:=G.d2 I bz;let k:=j _ _ hM;let S:=j _ _ hL;exists 9,9,M,_,_,9,8,SqL.of k,bM (by rw[getElem?_map,wP hv];rfl),7;exists 9,M,9,.inl (SqL.of k),9,7;let lm:(d.map V.int).length=d.length:=length_map _;exists 6,6,7;let T:(((d.map V.int).length:Nat):Int).toNat=d.length:=by lia
 refine gD (λi σ H'=>SX [M,L] H2 H'/\∃z7,σ=[some (.ref M),some (.ref L),some (.int (u:Int)),some (.int (v:Int)),some (.ref z),some (.ref J),some (.int (d.getD v 0)),z7]/\H' M=some (.lst (((jn d u v).take i++d.drop i).map V.int))/\∃e,H' L=some (.lst e)/\Fqs Z.K H' e ((jnL d ls u v p).take i++ls.drop i)) ⟨λb o h _=>h,none,8,by rw[take_zero,drop_zero,nil_append];exact k,xs,S,by rw[take_zero,drop_zero,nil_append];exact F.same j⟩ ?_ ?_
 .rintro i σ H3 hi ⟨t,z7,rfl,g,e,w,F3⟩;let hi:i < d.length:=by lia
  let f:(jn d u v).length=d.length:=by unfold jn;rw[length_map]
  let x:(jnL d ls u v p).length=ls.length:=qZ ..;let l3:=F3.length;let a6:((jnL d ls u v p).take i++ls.drop i).length=ls.length:=by rw[wq,length_take,length_drop];lia
  let mi:=Jv (A:=jn d u v) (B:=d) (i:=i) f (Nat.le_refl i) ();let mu:((jn d u v).take i++d.drop i)[u]?=some (d.getD u 0):=by
   by_cases c:u < i
   .rw[qm4 c (),qe7 hu,if_neg a0]
   .rw[Jv f () (),wP hu]
  let li:=Jv (A:=jnL d ls u v p) (B:=ls) (i:=i) () (Nat.le_refl i) ();rw[wP hi] at mi;let li:=li.trans (zS (show i < ls.length by lia));let lsts:Ku [M,L] H2:=λa y=>by
   rcases mem_cons.mp y with z | z
   .exists _,by rw[z];exact k
   .exists _,by rw[mem_singleton.mp z];exact S
  let a3:Fq Z.K H3 J (Mq.minus (Mq.minus (ls.getD u (0,1)) (ls.getD v (0,1))) p):=SX.seqT lsts t (Fq.of e2);exists 9,9,M,_,_,9,8,SqL.of g,bM (by rw[Nat.zero_add,getElem?_map,mi];rfl),9,8,9,7;let N:=qe7 (u:=u) (v:=v) hi;let jl:=qp1 (ms:=d) (u:=u) (v:=v) (z:=p) (show i < ls.length by lia);let O:=Nv (ms:=d) (u:=u) (v:=v) (z:=p) (show i < ls.length by lia)
  by_cases c:d.getD i 0=d.getD v 0
  .refine L2.ifT (by show decide (V.int (d.getD i 0)=V.int (d.getD v 0))=true;rw[c];simp) ?_;rw[if_pos c] at N O;exists 9,9,M,_,_,9,8,SqL.of g,bM (by rw[getElem?_map,mu];rfl),9,9,M,_,_,i,8,8,g,by rw[Int.zero_add];exact iR (by rw[length_map,wq,length_take,length_drop];lia),?_;let l:Ku [M,L] H3:=λa y=>by
    rcases mem_cons.mp y with z | z
    .exists _,by rw[z];exact g
    .exists _,by rw[mem_singleton.mp z];exact w
   let U:upd H3 M (.lst ((((jn d u v).take i++d.drop i).map V.int).set i (.int (d.getD u 0)))) M=some (.lst (((jn d u v).take (i+1)++d.drop (i+1)).map V.int)):=by rw[aB,<- map_set,Lp f N]
   let C:upd H3 M (.lst ((((jn d u v).take i++d.drop i).map V.int).set i (.int (d.getD u 0)))) L=some (.lst e):=by rw[aQ (Ne.symm R)];exact w
   let m:SX [M,L] H3 (upd H3 M (.lst ((((jn d u v).take i++d.drop i).map V.int).set i (.int (d.getD u 0))))):=SX.write (λb o h _=>h) ⋯
   try dsimp only
   generalize upd H3 M (.lst ((((jn d u v).take i++d.drop i).map V.int).set i (.int (d.getD u 0))))=H4 at U C m ⊢;let F4:=SX.fqs l m F3;let a4:Fq Z.K H4 J _:=SX.seqT l m a3;let⟨xi,ei,fi⟩:=F4.at li;let Bi:=gA bl (show i < ls.length by lia);exists 9,9,L,e,_,9,8,SqL.of C,bM (by rw[Nat.zero_add];exact ei),9,xi,J,_,_,120,120,8,fi,a4,Bi.p2,D2.p2,Bi.bd (),D2.bd (),∅,λa5 H5 P e5=>?_;let W:=P _ _ U;let X:=P _ _ C;exists 9,9,L,e,_,i,8,8,X,by rw[Int.zero_add];exact iR (),?_;let r:Ku [M,L] H5:=λa y=>by
    rcases mem_cons.mp y with z | z
    .exists _,by rw[z];exact W
    .exists _,by rw[mem_singleton.mp z];exact X
   let D:SX [M,L] H5 (upd H5 L (.lst (e.set i (.ref a5)))):=SX.write (λb o h _=>h) ⋯;exists t.trans (m.trans (SX.trans (λb o h _=>P b o h) D)),9,by rw[aQ R];exact W,e.set i (.ref a5),aB,?_;rw[<- Lp () jl,O];exact Fqs.set (SX.seqT r D (Fq.of e5)) i (SX.fqs r D (F4.same P))
  .refine L2.ifF (by show decide (V.int (d.getD i 0)=V.int (d.getD v 0))=false;exact decide_eq_false λz=>c (V.int.inj z)) ?_;rw[if_neg c] at N O;exists t,9,7,e,w,7
   .rw[<- Um N (wP hi)];exact g
   .rw[<- Um jl (by rw[O];exact zS ())];exact F3
 .rintro σ H3 ⟨t,z7,rfl,g,e,w,F3⟩;let f:(jn d u v).length=d.length:=by unfold jn;rw[length_map]
  let x:(jnL d ls u v p).length=ls.length:=qZ ..;rw[T,<- f,take_length,f,drop_length,append_nil] at g;rw[T,<- hl,<- x,take_length,x,drop_length,append_nil] at F3;exact q e H3 (λb o h nb=>t b o (j b o h) nb) g w F3
theorem Y82:DZ 4 Z.f82 Z.d82 ["_law_rows","_law_many"] (Zw Z.K) "_law_first_ring":=by
 exists 7,F82.b2 _ _ (by intros;rfl),F82.kp,m82
 refine F82.ok9 Fb λ_ _ _ s H _ Q E hr h=>?_;let⟨r,us,m,ds,rfl,hS,hR,pt,U,ag,hz,q0,q1⟩:=h;let r2:=hr.mono (show 2<=3 by lia);refine⟨_,(aD (qQ0 (i:=2) Fb.nd (mE rfl rfl n_list rfl n_range (aA (pv 1) aC)))
  (aD (qQ0 (i:=3) Fb.nd (aY tW (cS (aA (dD (aA aE (aA aE aC))) aC)) (pv 1)))
  (aD (dE PassesOwn.never rfl (gE rfl n_range (aA (bX bV rfl n_len PySem.boot_len (aA (pv 0) aC)) aC)) (qQ1 (i:=4) Fb.nd)
   (aD (jB (aR bK (pv 0) (pv 4)) (gW rfl (bU (qQ1 (i:=5) Fb.nd) (bU (qQ1 (i:=6) Fb.nd) (bU (qQ1 (i:=7) Fb.nd) (bU (qQ1 (i:=8) Fb.nd) fK))))))
  (aD (cD (PW.pt (kO (bH eO (pv 5) cC (bL _)) (jL (bH eO (aR bK (pv 2) (pv 6)) (aR bK (pv 2) (pv 7)) (bL _))))) (aF (aU (dD (aA (pv 4) (aA (d9 Y75 r2 rfl (aA (pv 8) (aA (d9 Y75 r2 rfl (aA (aR bK (pv 3) (pv 6)) (aA (aR bK (pv 3) (pv 7)) aC))) aC))) aC))))) bN)
  (aF (cD (bH eO (pv 5) cC (bL _)) (aF (bY (d9 Y81 hr rfl (aA (pv 2) (aA (pv 3) (aA (pv 6) (aA (pv 7) (aA (pv 8) aC)))))))) bN)))))
  (aF (aU Ee))))),7⟩
 exists 9,m,8,6,λM hM=>?_;let s1:=aG hM (.lst ((List.range m).map λ(i:Nat)=>V.int (i:Int)));let e1:upd H M (.lst ((List.range m).map λ(i:Nat)=>V.int (i:Int))) M=some (.lst ((mks m (cG [])).map V.int)):=by rw[aB];show _=some (HO.lst (((List.range m).map λ(i:Nat)=>(i:Int)).map V.int));rw[map_map];rfl
 generalize upd H M (.lst ((List.range m).map λ(i:Nat)=>V.int (i:Int)))=H1 at s1 e1 ⊢
 try dsimp only
 exists zl9 2,λj a7=>⟨zl9 1,λL0 X=>?_⟩;let N:=aG a7 (.tup [.int 0,.int 1]);let eT:upd H1 j (.tup [.int 0,.int 1]) j=some (.tup [.int 0,.int 1]):=aB;generalize upd H1 j (.tup [.int 0,.int 1])=H2 at N eT X ⊢;let⟨H3,y,O,a8⟩:=nw X (.lst [.ref j]);rw[y];exists 9,L0,(m:Int),[.ref j],8,8,a8,6,6,7,λL A=>?_
 .rw[Int.toNat_natCast,sizeLine_eq];show 1*m<=_;lia
 let er:(replicate (m:Int).toNat [V.ref j]).flatten=replicate m (.ref j):=by rw[Int.toNat_natCast];simp
 rw[er];let⟨H4,y,sR,eL⟩:=nw A (.lst (replicate m (V.ref j)));rw[y];let Y:=N.trans (O.trans sR);let B:=s1.trans Y;let eM:=Y _ _ e1;let nL:H L=none:=(s1.trans (N.trans O)).free A;let a9:M≠L:=λz=>by rw[<- z] at A;rw[(N.trans O) _ _ e1] at A;cases A
 let F0:Fqs Z.K H4 (replicate m (.ref j)) (replicate m (0,1)):=jW (Fq.of (p:=(0,1)) ((O.trans sR) _ _ eT)) m;let a0:∀x∈[M,L],H x=none:=λx hx=>by
  rcases mem_cons.mp hx with z | z
  .rw[z];exact hM
  .rw[mem_singleton.mp z];exact nL
 let lu:=hR.length
 try dsimp only
 exists 9,r,us,8,.inl (B.seq hS),9,6,6,7;let rk:=λi(hi:i<=ds.length)=>iC (W:=wHo) (xM pt) i (by rw[qD];exact hi);refine gD (λi σ H'=>SX [M,L] H4 H'/\(bO wHo (skl ds) i).2=[]/\∃z4 z5 z6 z7 z8,σ=[some (.ref r),some (.int (m:Int)),some (.ref M),some (.ref L),z4,z5,z6,z7,z8]/\H' M=some (.lst ((mks m (cG (bO wHo (skl ds) i).1)).map V.int))/\∃xs ls,H' L=some (.lst xs)/\Fqs Z.K H' xs ls/\LfI m i ds (bO wHo (skl ds) i).1 ls) ⟨λb o h _=>h,8,none,none,none,none,none,8,eM,_,_,eL,F0,LfI.start m ds⟩ ?_ ?_
 .rintro i σ H5 hi ⟨C,g,z4,z5,z6,z7,z8,rfl,l,xs,ls,q,F5,LI⟩;let hi:i < ds.length:=by lia
  let D:=SX.same B C a0;obtain⟨d,w⟩:∃d,ds[i]?=some d:=⟨_,getElem?_eq_getElem hi⟩
  let⟨t,z,et,hT,P⟩:=(hR.same D).at w;exists 9,9,r,us,_,9,8,D.seq hS,bM (by rw[Nat.zero_add];exact et),t,9,hT,8,_,9,_,9,_,9,_,9,8,7;let⟨F,u,v,p⟩:=d;obtain⟨u0,u1,v0,v1⟩:cO (m:Int) u v:=pt _ (mem_of_getElem? w);obtain⟨a,rfl⟩:∃a:Nat,u=(a:Int):=⟨u.toNat,6⟩
  obtain⟨f,rfl⟩:∃f:Nat,v=(f:Int):=⟨v.toNat,6⟩
  let aa:(skl ds)[i]?=some (F,a,f):=by unfold skl;rw[getElem?_map,w];simp
  let G:=dF (W:=wHo) aa;let ri:=rk i ();let P:Fq Z.K H5 z p:=P;let Bz:LfB 0 p:=hz _ (mem_of_getElem? w);let dw:∀b,decide (F=.ho)=b->decide (V.str F.wd=V.str "hold")=b:=λb e=>by rw[<- e];exact qt6 F
  let ah:=F5.length;let ac:=LI.ln;let mu:∀x,x < m->atI ((mks m (cG (bO wHo (skl ds) i).1)).map V.int) (x:Int)=some (.int (L2.mk m (cG (bO wHo (skl ds) i).1) x)):=λx hx=>bM (by rw[getElem?_map,wP (by rw[hJ];exact hx)];rfl)
  by_cases I:F=.ho
  .exists 9,8,9,L2.ifT (dw _ (decide_eq_true I)) ?_;exists 9,9,M,_,_,9,8,SqL.of l,mu a (),9,9,M,_,_,9,8,SqL.of l,mu f (),8,9,7;subst I;let a3:=ri.pt;let wi:=Dg a3 U (show f < m by lia) (show a < m by lia);let⟨xu,eu,fu⟩:=F5.at (zS (show a < ls.length by lia));let⟨xv,ev,fv⟩:=F5.at (zS (show f < ls.length by lia));let R:=gA LI.bd (show a < ls.length by lia);let S:=gA LI.bd (show f < ls.length by lia)
   by_cases c:L2.mk m (cG (bO wHo (skl ds) i).1) a=L2.mk m (cG (bO wHo (skl ds) i).1) f
   .refine L2.ifT (by show decide (V.int (L2.mk m (cG (bO wHo (skl ds) i).1) a)=V.int (L2.mk m (cG (bO wHo (skl ds) i).1) f))=true;rw[c];simp) ?_;let⟨st,hw⟩:=Option.isSome_iff_exists.mp (wi.mpr c);let J:=Blk.ringS_so (n:=i) ((pC .ho).mpr rfl) hw;rw[<- G] at J;let⟨rr,a4⟩:=Aj (W:=wHo) (sk:=skl ds) (i+1) (ds.length - (i+1));rw[J,g,show i+1+(ds.length - (i+1))=ds.length by lia] at a4;let⟨ai,pp⟩:=qr3 hw;let T:=R.d1 S;exists 9,9,9,9,L,xs,_,9,8,SqL.of q,bM eu,9,9,L,xs,_,9,8,SqL.of q,bM ev,xu,xv,_,_,120,120,8,fu,fv,R.p2,S.p2,R.bd (),S.bd (),∅,λa1 H6 s6 e6=>?_;exists z,a1,p,_,120,120,8,s6.fq P,Fq.of e6,Bz.p2,T.p2,Bz.bd (),T.bd (),∅,λa2 H7 s7 e7=>?_;exists zl9 2,λt9 ad=>?_;let s9:=aG ad (.tup [.int (0+(i:Int)),.ref a2]);refine q1 _ _ a4 t9 a2 _ _ (D.trans (s6.trans (s7.trans s9))) (SqT.of (by rw[aB,Int.zero_add])) (s9.fq (Fq.of e7)) (Mq.cH Bz.p2 T.p2) ?_;rw[Mq.dS Bz.p2 T.p2,Mq.dS R.p2 S.p2];let su:=qo4 (sz:=szR ds) (h:=λx=>Mq.val (ls.getD x (0,1))) (λe he=>by
     let⟨k,hk⟩:=ri.at_ e he;let le:=ri.lt e he;obtain⟨d',a5⟩:∃d,ds[e.1]?=some d:=⟨_,getElem?_eq_getElem ()⟩
     let o:=LI.po e he d' a5;show Mq.val (ls.getD e.2.1 (0,1)) - Mq.val (ls.getD e.2.2 (0,1))=szR ds e.1;unfold szR;rw[o,getD_eq_getElem?_getD (i:=e.1),a5];rfl) pp
    let sz:szR ds i=Mq.val p:=by unfold szR;rw[getD_eq_getElem?_getD,w];rfl
    show _=(((1:Int):Rat)*szR ds i)+(st.map λs=>((s.2:Int):Rat)*szR ds s.1).sum;rw[su,sz,show ((1:Int):Rat)=1 by rfl];show _=1*Mq.val p+(Mq.val (ls.getD f (0,1)) - Mq.val (ls.getD a (0,1)))
    grind
   .refine L2.ifF (by show decide (V.int (L2.mk m (cG (bO wHo (skl ds) i).1) a)=V.int (L2.mk m (cG (bO wHo (skl ds) i).1) f))=false;exact decide_eq_false λz=>c (V.int.inj z)) ?_;exists 9,8,9,L2.ifT rfl ?_;let hw:jI (bO wHo (skl ds) i).1 f a=none:=by
     cases hw:jI (bO wHo (skl ds) i).1 f a with
     |none=>rfl
     |some st=>rw[hw] at wi;exact absurd (wi.mp rfl) c
    let J:=Blk.ringS_no (n:=i) ((pC .ho).mpr rfl) hw;rw[<- G] at J;rw[J];let em:jn (mks m (cG (bO wHo (skl ds) i).1)) a f=mks m (cG ((bO wHo (skl ds) i).1++[(i,a,f)])):=by
     have:cG ((bO wHo (skl ds) i).1++[(i,a,f)])=cG (bO wHo (skl ds) i).1++[(.pc,(a:Int),(f:Int),(0,1))]:=by unfold cG;rw[map_append];rfl
     rw[this,lL];unfold iM;rw[if_neg (λz=>by cases z)];show _=jn _ (a:Int).toNat (f:Int).toNat;rw[Int.toNat_natCast,Int.toNat_natCast]
    exists 9,9,9,9,9,M,L,z,a,f,i,_,ls,xs,p,8,l,q,a9,F5,by rw[hJ];exact U,by rw[hJ];exact ac,by rw[hJ];lia,by rw[hJ];lia,c,P,Bz,LI.bd,(),λae H6 x6 a6 af F6=>?_;rw[em] at a6;exists C.trans x6,g,_,_,_,_,9,a6,ae,_,af,F6,LI.join a3 w () () c Bz
  .exists 9,8,9,L2.ifF (dw _ (decide_eq_false I)) ?_;refine L2.ifF rfl ?_;exists 9,8,9,L2.ifF (dw _ (decide_eq_false I)) ?_;let e:bO wHo (skl ds) (i+1)=bO wHo (skl ds) i:=by rw[G];unfold eY;rw[if_neg (λz=>I ((pC _).mp z))]
   rw[e];exists C,g,_,_,_,_,9,l,xs,ls,q,F5,LI.mono (Nat.le_succ i)
 .rintro σ H5 ⟨C,g,z4,z5,z6,z7,z8,rfl,l,xs,ls,q,F5,LI⟩;exact q0 (by rw[show ((us.length:Nat):Int).toNat=ds.length by lia] at g;exact g) H5 (SX.same B C a0)
theorem Y83:DZ 4 Z.f83 Z.d83 ["_law_rows","_law_many"] (qc2 Z.K) "_law_floating":=by
 exists 7,F83.b2 _ _ (by intros;rfl),F83.kp,m83
 refine F83.ok9 Kj λ_ _ _ s H _ Q E hr h=>?_;let⟨r,us,m,ds,rfl,hS,hR,pt,ae,af,ag,hz,q⟩:=h;refine⟨_,(aD (aT (i:=2) Kj.nd rfl (Or.inr rfl) (mE rfl rfl n_list rfl n_range (aA (pv 1) aC)))
  (aD (qQ0 (i:=3) Kj.nd (aY tW (cS (aA (dD (aA aE (aA aE aC))) aC)) (pv 1)))
  (aD (dE PassesOwn.never rfl (cF (pv 0)) (gW rfl (bU (qQ1 (i:=4) Kj.nd) (bU (qQ1 (i:=5) Kj.nd) (bU (qQ1 (i:=6) Kj.nd) (bU (qQ1 (i:=7) Kj.nd) fK)))))
   (aF (cD (PW.pt (kO (bH jQ (pv 4) cC (bL _)) (jL (bH jQ (aR bK (pv 2) (pv 5)) (aR bK (pv 2) (pv 6)) (bL _))))) (aF (bY (d9 Y81 hr rfl (aA (pv 2) (aA (pv 3) (aA (pv 5) (aA (pv 6) (aA (pv 7) aC)))))))) bN)))
  (aF (aU (dM (nl:=1) (fr:=[2]) (Nc:=["_law_point","_law_marks"]) (cl:=[("_law_marks",s.heap.objs.size+1)]) rfl ⟨8,8,∅,∅,λx c h=>h,dY rfl,8,λi n h=>match i,h with | 0,h=>by cases h;exact⟨2,8,8,8,8,.inl rfl⟩ | k+1,h=>by rw[show 1+(k+1)=k+2 by lia] at h;cases h⟩
    (gE rfl n_range (aA (pv 1) aC)) (λ_ _ _ _ _=>(qQ1 (i:=0) yQ)) (λ_ _ _ _ _=>(lV (bH jQ (aR (iT (K:=Z.K) rfl) (pv 1) (pv 0)) (aR (iT (K:=Z.K) rfl) (pv 1) aE) (bL _))))
    (λ_ _ _ _ _=>(pv 0)))))))),7⟩
 exists 9,m,8,6,λM hM=>?_;let s1:=aG hM (.lst ((List.range m).map λ(i:Nat)=>V.int (i:Int)));let e1:upd H M (.lst ((List.range m).map λ(i:Nat)=>V.int (i:Int))) M=some (.lst ((mks m (ds.take 0)).map V.int)):=by rw[aB];show _=some (HO.lst (((List.range m).map λ(i:Nat)=>(i:Int)).map V.int));rw[map_map];rfl
 generalize upd H M (.lst ((List.range m).map λ(i:Nat)=>V.int (i:Int)))=H1 at s1 e1 ⊢
 try dsimp only
 exists zl9 2,λj a5=>⟨zl9 1,λL0 a0=>?_⟩;let U:=aG a5 (.tup [.int 0,.int 1]);let eT:upd H1 j (.tup [.int 0,.int 1]) j=some (.tup [.int 0,.int 1]):=aB;generalize upd H1 j (.tup [.int 0,.int 1])=H2 at U eT a0 ⊢;let⟨H3,N,W,a6⟩:=nw a0 (.lst [.ref j]);rw[N];exists 9,L0,(m:Int),[.ref j],8,8,a6,6,6,7,λL O=>?_
 .rw[Int.toNat_natCast,sizeLine_eq];show 1*m<=_;lia
 let er:(replicate (m:Int).toNat [V.ref j]).flatten=replicate m (.ref j):=by rw[Int.toNat_natCast];simp
 rw[er];let⟨H4,N,sR,eL⟩:=nw O (.lst (replicate m (V.ref j)));rw[N];let a1:=U.trans (W.trans sR);let y:=s1.trans a1;let eM:=a1 _ _ e1;let nL:H L=none:=(s1.trans (U.trans W)).free O;let a7:M≠L:=λz=>by rw[<- z] at O;rw[(U.trans W) _ _ e1] at O;cases O
 let F0:Fqs Z.K H4 (replicate m (.ref j)) (replicate m (0,1)):=jW (Fq.of (p:=(0,1)) ((W.trans sR) _ _ eT)) m;let P:∀x∈[M,L],H x=none:=λx w=>by
  rcases mem_cons.mp w with z | z
  .rw[z];exact hM
  .rw[mem_singleton.mp z];exact nL
 let lu:=hR.length
 try dsimp only
 refine pK (λah H'=>SX [M,L] H4 H'/\∃A B F G,ah=[some (.ref r),some (.int (m:Int)),some (.ref M),some (.ref L),A,B,F,G]/\H' M=some (.lst ((mks m ds).map V.int))) (λX hX=>?_) ?_
 .exists 9,r,8,⟨_,y.seq hS⟩,7;refine eX (xs:=us) (λi σ H'=>SX [M,L] H4 H'/\∃A B F G,σ=[some (.ref r),some (.int (m:Int)),some (.ref M),some (.ref L),A,B,F,G]/\H' M=some (.lst ((mks m (ds.take i)).map V.int))/\∃xs ls,H' L=some (.lst xs)/\Fqs Z.K H' xs ls/\ls.length=m/\∀q∈ls,LfB i q) ⟨λb o h _=>h,none,none,none,none,8,eM,_,_,eL,F0,length_replicate,λq hq=>by rw[eq_of_mem_replicate hq];exact LfB.zero⟩ (λi σ H' _ h=>(SX.same y h.1 P).seq hS) ?_ ?_
  rotate_left
  .rintro σ H5 ⟨I,A,B,F,G,rfl,a,_⟩;rw[lu,take_length] at a;exact hX _ _ ⟨I,_,_,_,9,a⟩
  rintro i x σ H5 w ⟨I,A,B,F,G,rfl,a,xs,ls,R,F5,S,LB⟩;let hi:i < us.length:=(wk.mp w).1;let a8:=SX.same y I P;obtain⟨d,Y⟩:∃d,ds[i]?=some d:=⟨_,getElem?_eq_getElem ()⟩
  let⟨t,z,et,hT,fz⟩:=(hR.same a8).at Y;obtain rfl:x=.ref t:=by rw[w] at et;exact Option.some.inj et
  exists t,9,hT,8,_,9,_,9,_,9,_,9,8,7;let⟨l,u,v,p⟩:=d;obtain⟨u0,u1,v0,v1⟩:cO (m:Int) u v:=pt _ (mem_of_getElem? Y);obtain⟨e,rfl⟩:∃e:Nat,u=(e:Int):=⟨u.toNat,6⟩
  obtain⟨f,rfl⟩:∃f:Nat,v=(f:Int):=⟨v.toNat,6⟩
  let fz:Fq Z.K H5 z p:=fz;let Bz:LfB 0 p:=hz _ (mem_of_getElem? Y);let a9:mks m (ds.take (i+1))=iM (mks m (ds.take i)) (l,(e:Int),(f:Int),p):=by rw[take_add_one,Y];exact lL ..
  rw[a9];let dw:decide (V.str l.wd=V.str "push")=decide (l=.pu):=oR l;let lm:=hJ m (ds.take i);generalize mks m (ds.take i)=g at a lm;let a2:∀q∈ls,LfB (i+1) q:=λq hq=>(LB q hq).mono (Nat.le_succ i);let T:∀x,x < m->atI (g.map V.int) (x:Int)=some (.int (g.getD x 0)):=λx w=>bM (by rw[getElem?_map,wP ()];rfl);unfold iM
  by_cases kp:l=.pu
  .rw[if_pos kp];exists 9,8,9,L2.ifF (by show (!decide (V.str l.wd=V.str "push"))=false;rw[dw,decide_eq_true kp];rfl) ?_;exact L2.ifF rfl ⟨I,_,_,_,9,a,xs,ls,R,F5,S,a2⟩
  .rw[if_neg kp];exists 9,8,9,L2.ifT (by show (!decide (V.str l.wd=V.str "push"))=true;rw[dw,decide_eq_false kp];rfl) ?_;exists 9,9,M,_,_,9,8,SqL.of a,T e (),9,9,M,_,_,9,8,SqL.of a,T f (),8,9,7;show ite _ _ _;rw[show jn g (l,(e:Int),(f:Int),p).2.1.toNat (l,(e:Int),(f:Int),p).2.2.1.toNat=jn g e f by show jn g (e:Int).toNat (f:Int).toNat=_;rw[Int.toNat_natCast,Int.toNat_natCast]]
   by_cases c:g.getD e 0=g.getD f 0
   .refine L2.ifF (by show (!decide (V.int (g.getD e 0)=V.int (g.getD f 0)))=false;rw[c];simp) ?_;rw[qu1 c];exists I,_,_,_,9,a,xs,ls,R,F5,S,a2
   .refine L2.ifT (by show (!decide (V.int (g.getD e 0)=V.int (g.getD f 0)))=true;rw[decide_eq_false λz=>c (V.int.inj z)];rfl) ?_;exists 9,9,9,9,9,M,L,z,e,f,i,g,ls,xs,p,8,a,R,a7,F5,6,6,6,6,c,fz,Bz,LB,6,λaa H6 x6 ac ad F6=>?_;exists I.trans x6,_,_,_,9,ac,aa,_,ad,F6,by rw[qZ];exact S,Tv LB () () Bz
 rintro ai H9 ⟨x9,A,B,F,G,rfl,a3⟩;let a4:=SX.same y x9 P;exists 9,9,6,6,λD hD=>?_;let sD:=aG hD (.lst []);rw[Int.toNat_natCast];refine xL (n:=m) (λi zs H'=>aS H9 H'/\H' D=some (.lst zs)/\zs=((((List.range i).filter λp=>decide (L2.mk m ds p≠L2.mk m ds 0)).map λ(p:Nat)=>(p:Int)).map V.int)) ⟨sD,aB,8⟩ (λi zs H' h=>h.2.1) ?_ ?_
 .rintro i zs H2 hi ⟨J,e2,rfl⟩ C hC;rw[Int.zero_add];let T:∀x,x < m->atI ((mks m ds).map V.int) (x:Int)=some (.int (L2.mk m ds x)):=λx w=>bM (by rw[getElem?_map,wP (by rw[hJ];exact w)];rfl);let ll:=length_filter_le (λp=>decide (L2.mk m ds p≠L2.mk m ds 0)) (List.range i);rw[length_range] at ll;exists dU.1,dU.2,9,9,M,_,_,9,8,SqL.of (J _ _ a3),T i hi,9,M,_,_,9,8,SqL.of (J _ _ a3),T 0 (),8,9,7
  by_cases c:L2.mk m ds i=L2.mk m ds 0
  .refine L2.ifF (by show (!decide (V.int (L2.mk m ds i)=V.int (L2.mk m ds 0)))=false;rw[c];simp) (hC _ _ ⟨J,e2,7⟩);rw[range_succ,filter_append,filter_cons_of_neg (by simp[c])];simp
  .refine L2.ifT (by show (!decide (V.int (L2.mk m ds i)=V.int (L2.mk m ds 0)))=true;rw[decide_eq_false λz=>c (V.int.inj z)];rfl) ⟨9,e2,aZ (by rw[length_map,length_map];lia),hC _ _ ⟨J.change hD,aB,7⟩⟩;rw[range_succ,filter_append,filter_cons_of_pos (by simp[c]),map_append,map_append];rfl
 .rintro zs H2 ⟨J,e2,rfl⟩;exact q D H2 (a4.trans J) (a4.free hD) e2
theorem Y84:DZ 11 Z.f84 Z.d84 ["_law_net_here","_law_streams"] (zZ Z.c_Net Z.c_NoStreams Z.c_Ring Z.c_Floats Z.K) "_law_refusal":=by
 exists 7,F84.b2 _ _ (by intros;rfl),F84.kp,m84
 refine F84.ok Ls (λvs H Q E h=>?_) λa0 A O s H vs Q E L h=>?_
 .unfold zZ at h;let⟨n,l,x,m,ds,rfl,nt,D,f,m6,g,hw⟩:=h;rfl
 skip
 let⟨n,l,x,m,ds,rfl,nt,D,f,m6,g,hw⟩:=h;let⟨P,R,S,T,U⟩:=oc.oe;refine⟨_,(aD (qQ0 (i:=2) Ls.nd Ee)
  (aD (qj3 ⟨8,8,8⟩ (yH (qi1 (oH (uG (pv 1))) (yH (Hq (Nj R68 ⟨8,8,8⟩ L rfl m68 F68.kp b68 .nil (aA (pv 0) aC)))) (yH (Hq (Nj R67 ⟨8,8,8⟩ L rfl m67 F67.kp b67 .nil (aA (pv 0) (aA (pv 1) aC))))))) bN (qt7 (j:=3) ⟨8,8,8⟩ Ls.nd rfl rfl rfl (.inl R) (λa=>aF (qQ0 (i:=2) Ls.nd (pv 3))) Wk))
  (aF (aU (pv 2))))),7⟩
 let M:∀{E:XK}(q:∀y H',aS H H'->Kpt Z.c_Ring Z.c_Floats Z.K H' y m ds->Q y H'),(∀C d H',W.exmOne Z.K (.ref C) (.ref P)=some true->(∀a,H' a=none->Q (.ref a) (upd H' a (kT a (.ref C) d)))->E (.ref C) d H')->Rfs Z.c_Ring Z.c_Floats Z.K H E m ds:=λq N=>⟨λc r e dx p t V H' s' w np B st X=>N _ _ _ T λa ha=>by
   let b:=aG ha (kT a (.ref Z.c_Ring) (some dx));exact q _ _ (s'.trans b) ⟨λc1 Y k=>by
    obtain rfl:c=c1:=by rw[e] at k;exact(List.cons.inj k).1
    exact⟨a,dx,p,t,V,8,aB,b _ _ w,b _ _ B,st.same b,b.fq X⟩,λk _=>absurd (e.symm.trans k) ⋯⟩,λk e2 dx p H' s' w np B=>N _ _ _ U λa ha=>by
   let b:=aG ha (kT a (.ref Z.c_Floats) (some dx));exact q _ _ (s'.trans b) ⟨λc1 Y e=>absurd (k.symm.trans e) ⋯,λ_ _=>⟨a,dx,p,8,aB,b _ _ w,b _ _ B⟩⟩⟩
 rcases hw with ⟨v,rfl,o,q⟩ | ⟨hx,u,q⟩
 .exists 9,9,L2.ifF rfl ?_;refine⟨9,9,n,l,_,m,ds,false,8,nt,D,f,m6,g,o,λ_ H' s' a ha=>?_,λz=>by cases z⟩;exists true,S,7;rw[if_pos rfl];exists 9,9,q a _ (s'.trans (aG ha _)) aB
 rcases hx with rfl | ⟨v,rfl,o⟩
 .exists 9,9,L2.ifT rfl ?_;exists 9,n,l,m,ds,8,nt,D,f,m6,g,M q λC d H' F G a ha=>?_,λI J=>absurd J (u I);exists true,F,7;rw[if_pos rfl];exists 9,9,G a ha
 .exists 9,9,L2.ifF rfl ?_;exists 9,9,n,l,_,m,ds,true,8,nt,D,f,m6,g,o,(λz=>by cases z),λ_=>⟨M q λC d H' F G a ha=>?_,λI J=>absurd J (u I)⟩;exists true,F,7;rw[if_pos rfl];exists 9,9,G a ha
theorem Y85:DZ 1 Z.f85 Z.d85 ["_law_kept","_law_word"] (tV Z.K Z.mg) "_law_only":=by
 exists 7,F85.b2 _ _ (by intros;rfl),F85.kp,m85
 refine F85.ok qs6 (λvs H Q E h=>?_) λa6 A a5 s H vs Q E hr h=>?_
 .unfold tV at h;let⟨a,C,r,j,wd,rfl,u,k,I,q⟩:=h;rfl
 skip
 let⟨a,C,r,j,wd,rfl,u,k,I,q⟩:=h;let hu:=hr.units;let⟨e0,n0,P⟩:=k.ks 0 _ rfl;let⟨e1,n1,R⟩:=k.ks 1 _ rfl;let⟨e2,n2,S⟩:=k.ks 2 _ rfl;let⟨T,c1,U,W,X,Y,c6,c7,c8,c9,o0,o1,o2,o3,o4,o5,o6,o7,o8,o9,ka⟩:=k.ka;let ex:=k.ex;refine⟨_,(aD (cD (fX (dQ (bX oY rfl bl.isi PyProof.Rows.boot_isinstance (aA (pv 0) (aA (Ez (v:=.ty "ValueError") rfl n_ValueError PyProof.Rows.Boot.«ValueError» rfl) aC))))) (aF (aU jD)) bN)
  (aD (cD (dQ (bX Io rfl bl.isi PyProof.Rows.boot_isinstance (aA (pv 0) (aA (dD (aA (iN rfl o0) (aA (iN rfl o1) (aA (iN rfl o2) (aA (iN rfl o3) (aA (iN rfl o4) (aA (iN rfl o5) (aA (iN rfl o6) (aA (iN rfl o7) (aA (iN rfl o8) (aA (iN rfl o9) aC))))))))))) aC)))) (aF (aU jD)) bN)
  (aD (qQ0 (i:=2) qs6.nd (cS (aA (dD (aA cC (aA (bX oY rfl bl.isi PyProof.Rows.boot_isinstance (aA (pv 0) (aA (iN rfl n0) aC))) aC))) (aA (dD (aA cC (aA (bX oY rfl bl.isi PyProof.Rows.boot_isinstance (aA (pv 0) (aA (iN rfl n1) aC))) aC))) aC))))
  (aD (bY (iS PySem.F.plainAttrs_list PySem.F.slot_list_append PySem.F.type_list_append dG (pv 2) (aA (dD (aA cC (aA (bX oY rfl bl.isi PyProof.Rows.boot_isinstance (aA (pv 0) (aA (iN rfl n2) aC))) aC))) aC)))
  (aF (aU (iA (oK hu) (dM (nl:=2) (fr:=[]) (Nc:=["_law_one","_law_truth"]) (cl:=[]) (g:=(Dc Z.K 2 (iU (gX 0) (iU (gX 1) Dy)))) rfl ⟨8,8,∅,∅,λx c h=>(by cases h),dY rfl,8,λi n h=>(by simp at h)⟩
    (cF (pv 2)) (λ_ _ _ _ _=>(gW rfl (bU (qQ1 (i:=0) rL) (bU (qQ1 (i:=1) rL) fK)))) (λ_ _ _ _ _=>(lV (dQ (pv 1))))
    (λ_ _ _ _ _=>(pv 0))) (cS (aA (pv 1) aC)) (bL _)))))))),7⟩
 exists 9,a,C,r,_,_,9,u,ex,8,λ_ h=>h,k.ve,9,L2.ifF rfl ?_;exists 9,zl9 10,λp hp=>?_;let⟨H1,b,w,ep⟩:=nw hp (.tup [.ref T,.ref c1,.ref U,.ref W,.ref X,.ref Y,.ref c6,.ref c7,.ref c8,.ref c9]);rw[b];exists a,C,r,p,[T,c1,U,W,X,Y,c6,c7,c8,c9],false,8,u.same w,ex,ep,ka,9,gB ?_;exists 9,a,C,r,_,_,9,u.same w,ex,8,λ_ h=>h,P,zl9 2,λd a0=>?_;let⟨J0,b,J,w0⟩:=nw a0 (.tup [.str "streams",.bl (decide (0=j))]);rw[b];exists 9,a,C,r,_,_,9,u.same (w.trans J),ex,8,λ_ h=>h,R,zl9 2,λe a1=>?_;let⟨J1,b,L,w1⟩:=nw a1 (.tup [.str "ring",.bl (decide (1=j))]);rw[b];exists zl9 2,λM hM=>?_;let⟨JM,b,N,wM⟩:=nw hM (.lst [.ref d,.ref e]);rw[b];let g:=w.trans (J.trans (L.trans N));let nM:H M=none:=(w.trans (J.trans L)).free hM;let a2:Pbs Z.K JM [.ref d,.ref e] [("streams",decide (0=j)),("ring",decide (1=j))]:=.cons (N.seqT (L.seqT (SqT.of w0))) (.cons (N.seqT (SqT.of w1)) .nil);exists 9,.inl ⟨8,_,SqL.of wM⟩,9,a,C,r,_,_,9,u.same g,ex,8,λ_ h=>h,S,zl9 2,λf a3=>?_;let⟨l,b,O,w2⟩:=nw a3 (.tup [.str "floats",.bl (decide (2=j))]);rw[b];let B:=O _ _ wM;exists M,[.ref d,.ref e],.ref f,8,8,B,by show 2+1<=sizeLine;decide,?_;let sG:=(g.trans O).change nM (o:=.lst ([.ref d,.ref e]++[.ref f]));let PB:Pbs Z.K (upd l M (.lst ([.ref d,.ref e]++[.ref f]))) ([.ref d,.ref e]++[.ref f]) ((List.range 3).map λi=>(oWd.getD i "",decide (i=j))):=by
  let sq:∀{t:Addr}{p:Str × Bool},SqT Z.K l t [.str p.1,.bl p.2]->SqT Z.K (upd l M (.lst ([.ref d,.ref e]++[.ref f]))) t [.str p.1,.bl p.2]:=λh=>SqT.upd h B;let go:∀{xs:vk}{ps:List (Str × Bool)},Pbs Z.K l xs ps->Pbs Z.K (upd l M (.lst ([.ref d,.ref e]++[.ref f]))) xs ps:=λh=>by
   induction h with
   |nil=>exact .nil
   |cons h _ ih=>exact .cons (sq h) ih
  exact go ((a2.same O).app (.cons (p:=("floats",decide (2=j))) (SqT.of w2) .nil))
 let m:upd l M (.lst ([.ref d,.ref e]++[.ref f])) M=some (.lst ([.ref d,.ref e]++[.ref f])):=aB
 try dsimp only
 generalize upd l M (.lst ([.ref d,.ref e]++[.ref f]))=G at sG PB m ⊢;exists 9,M,8,⟨_,SqL.of m⟩,λD hD=>?_;let sD:=aG hD (.lst []);let lP:=PB.length;refine cW (xs:=[.ref d,.ref e]++[.ref f]) (λi zs H'=>aS G H'/\H' D=some (.lst zs)/\zs=(((((List.range 3).map λi=>(oWd.getD i "",decide (i=j))).take i).filter λp=>p.2).map λp=>V.str p.1)) ⟨sD,aB,8⟩ (λi zs H' h=>h.2.1) (λi zs H' _ h=>SqL.of (h.1 _ _ m)) ?_ ?_
 .rintro i zs x H4 hx ⟨y,z,rfl⟩ C' hC;let⟨tt,p,rfl,hp,hT⟩:=(PB.same y).at hx;let hi:i < 3:=by have:=(wk.mp hp).1;rw[length_map,length_range] at this;exact this
  exists tt,9,hT,8,_,9,_,9,8,jC.1,jC.2,7;let tk:((List.range 3).map λi=>(oWd.getD i "",decide (i=j))).take (i+1)=((List.range 3).map λi=>(oWd.getD i "",decide (i=j))).take i++[p]:=by rw[take_add_one,hp];rfl
  exists 9,9,7
  cases hb:p.2 with
  |false=>
   refine L2.ifF rfl (hC _ _ ⟨y,z,7⟩);rw[tk,filter_append,filter_cons_of_neg (by rw[hb];simp)];simp
  |true=>
   refine L2.ifT rfl ⟨9,z,aZ ?_,hC _ _ ⟨y.change hD,aB,7⟩⟩
   .rw[length_map];have:=length_filter_le (λp:Str × Bool=>p.2) (((List.range 3).map λi=>(oWd.getD i "",decide (i=j))).take i);rw[length_take] at this;lia
   .rw[tk,filter_append,filter_cons_of_pos hb,map_append];rfl
 .rintro zs H4 ⟨y,z,rfl⟩;rw[lP,take_length,qh2 I] at z;exists 9,zl9 1,λl2 a4=>?_;let s5:=aG a4 (.lst [.str wd]);exact qd1 (SqL.of (s5 _ _ z)) (SqL.of aB) (ql9 I) (q _ (sG.trans (y.trans s5)))
theorem Y86:DZ 5 Z.f86 Z.d86 ["_law_kept","_law_rows","_law_many"] (qi3 Z.c_Ring Z.c_Floats Z.K) "_law_of_the_net":=by
 exists 7,F86.b3 _ _ _ (by intros;rfl),F86.kp,m86
 refine F86.ok9 Zs λ_ _ _ s H _ Q E T h=>?_;let⟨x,r,M,m,ds,rfl,N,O,D,a0,m6,G,kp,a1,q⟩:=h;let U:=T.mono (show 1<=4 by lia);let r4:=T;let hu:=T.units;refine⟨_,(aD (qQ0 (i:=3) Zs.nd (d9 Y82 r4 rfl (aA (pv 1) (aA (pv 2) aC))))
  (aD (cD (oH (uG (pv 3))) (aF (aU (kR (d9 Y85 U rfl (aA (pv 0) (aA cC aC))) (oE (iA (oK hu) (pE (pv 0) rfl) (d9 Y83 r4 rfl (aA (pv 1) (aA (pv 2) aC))) (bL _)))))) bN)
  (aD (cD (PW.pt (kU (fX (dQ (d9 Y85 U rfl (aA (pv 0) (aA cC aC))))) (kU (fX (dQ (bX Az rfl bl.isi PyProof.Rows.boot_isinstance (aA (pE (pv 0) rfl) (aA (Ez (v:=.ty "list") rfl n_list PyProof.Rows.boot_list rfl) aC))))) (kN (bH yG (bX bV rfl n_len PySem.boot_len (aA (pE (pv 0) rfl) aC)) aE (bL _)))))) (aF (aU jD)) bN)
  (aD (dE PassesOwn.never rfl (cF (pE (pv 0) rfl)) (gW rfl (bU (qQ1 (i:=4) Zs.nd) (bU (qQ1 (i:=5) Zs.nd) fK)))
   (aF (cD (PW.pt (kU (bH jQ (aR bC (aR bK (pv 1) (pv 4)) aE) cC (bL _)) (kN (bH Gz (pv 4) (aR bC (pv 3) aE) (bL _))))) (aF (aU jD)) bN)))
  (aF (aU (kR (iA (oK hu) (aR bK (pE (pv 0) rfl) aE) (dD (aA (aR bC (pv 3) aE) (aA aE aC))) (bL _)) (oE (d9 Y78 U rfl (aA (pE (pv 0) rfl) (aA (aR bC (pv 3) aE) aC))))))))))),7⟩
 let pt:∀d∈ds,cO (m:Int) d.2.1 d.2.2.1:=λd A=>(D d A).pt;let I:∀d∈ds,LfB 0 d.2.2.2:=λd A=>(D d A).lf;let J:m<=20:=by lia
 cases hG:rgH ds with
 |nil=>
  exists 9,9,r,M,m,ds,8,N,O,pt,J,G,I,λ_ H1 B=>?_,λc rr e=>absurd (hG.symm.trans e) ⋯;let⟨a,dx,p,rfl,g,o,C⟩:=kp.fl hG (a1 hG);exists 9,9,L2.ifT rfl ?_;exists 9,7;refine Cg (od:=some dx) ⟨B _ _ g,λa2 e=>by cases e;exact⟨_,B _ _ o⟩⟩ kF rfl λH2 F=>⟨9,fZ ?_⟩
  let b:=B.trans F;exists 9,a,Z.c_Floats,dx,_,.ref p,8,b _ _ g,b _ _ o,kF.ex,fc.hf,fc.np,8,7;exists 9,9,r,M,m,ds,8,b.seq N,O.same b,pt,a0,J,G,I,λl H3 s3 nl el=>?_;exact qn3 (ns:=cZ m ds) (SqL.of ((b.trans s3) _ _ C)) (SqL.of el) (q H3 (b.trans s3))
 |cons c rr=>
  let⟨a,dx,p,t,y,rfl,g,o,C,st,ft⟩:=kp.rg c rr hG;let ri:=iC (W:=wHo) (xM pt) ds.length (by rw[qD];exact Nat.le_refl _);let rk:=Mo (W:=wHo) (sk:=skl ds) ds.length (by rw[qD];exact Nat.le_refl _);let mc:c∈rgH ds:=by rw[hG];exact mem_cons_self ..
  let⟨ad,k',u',v',ae,af,ag,X,a3,ch,_⟩:=ri.r c mc;let a4:∀s∈c.2,s.1<=c.1/\∃d,ds[s.1]?=some d/\d.1=.ho:=λs hs=>by
   let of:∀{j:Nat}{k:Kd}{u v:Nat},(skl ds)[j]?=some (k,u,v)->wHo k=true->∃d,ds[j]?=some d/\d.1=.ho:=λ{j k u v} e w=>by
    unfold skl at e;rw[getElem?_map] at e;let⟨d,A,Y⟩:=Option.map_eq_some_iff.mp e;exists d,A,7;have:d.1=k:=congrArg (·.1) Y;rw[this];exact(pC k).mp w
   rw[X] at hs;rcases mem_cons.mp hs with z | z
   .subst z;let⟨k,u,v,e,w⟩:=rk.2 c mc;exists Nat.le_refl _,of e w
   .let⟨h1,h2⟩:=a3 s z;let⟨e,he,Y⟩:=mem_map.mp h2;let⟨k,u,v,e3,w⟩:=rk.1 e he;rw[Y] at e3;exists Nat.le_of_lt h1,of e3 w
  exists 9,9,r,M,m,ds,8,N,O,pt,J,G,I,λe=>absurd (hG.symm.trans e) ⋯,λc' ah e P z1 p1 H1 B L a5 a6 a7=>?_;obtain rfl:c=c':=by rw[hG] at e;exact(List.cons.inj e).1
  exists 9,9,L2.ifF rfl ?_;exists 9,7;refine Cg (od:=some dx) ⟨B _ _ g,λa2 e=>by cases e;exact⟨_,B _ _ o⟩⟩ kG rfl λH2 F=>⟨9,gB ?_⟩
  let b:=B.trans F;exists 9,a,Z.c_Ring,dx,_,.ref p,8,b _ _ g,b _ _ o,kG.ex,fc.hg,fc.nr,8,_,_,_,true,8,.lst (SqL.of (b _ _ C)),8,9,gB ?_;let lu:=st.length;exists 9,a,Z.c_Ring,dx,_,.ref p,8,b _ _ g,b _ _ o,kG.ex,fc.hg,fc.nr,8,p,y,8,.inl (SqL.of (b _ _ C)),_,9,8,9,L2.ifF ?_ ?_
  .show decide (((y.length:Nat):Int) < 1)=false;rw[lu,X,length_cons];exact decide_eq_false ()
  exists 9,a,Z.c_Ring,dx,_,.ref p,8,b _ _ g,b _ _ o,kG.ex,fc.hg,fc.nr,8,p,8,⟨_,SqL.of (b _ _ C)⟩,7;refine eX (xs:=y) (λn σ H'=>aS H2 H'/\∃z4 z5:Option V,σ=[some (.ref a),some (.ref r),some (.int (m:Int)),some (.ref P),z4,z5]) ⟨aS.refl _,none,none,8⟩ (λn σ H' _ h=>SqL.of ((b.trans h.1) _ _ C)) ?_ ?_
  .rintro i x σ H3 hx ⟨s3,z4,z5,rfl⟩;let f:=b.trans s3;let⟨tt,s',rfl,es,hT⟩:=(st.same f).get hx;let⟨le,⟨k,u,v,sz⟩,A,hk⟩:=a4 s' (mem_of_getElem? es);let hk:k=.ho:=hk;subst hk;let⟨td,zd,a8,a9,_⟩:=(O.same f).at A;exists tt,9,hT,8,_,9,_,9,8,7;exists 9,9,r,M,_,9,8,f.seq N,bM a8,td,_,0,9,8,a9,8,8,9,gB ?_;exists 9,9,P,_,0,9,8,(F.trans s3).seqT L,8,_,9,8,9,L2.ifF ?_ ⟨s3,_,9⟩;show decide ((s'.1:Int) > (c.1:Int))=false;exact decide_eq_false ()
  rintro σ H3 ⟨s3,z4,z5,rfl⟩;let f:=b.trans s3;obtain⟨t0,e0,h0⟩:∃t0,y[0]?=some (.ref t0)/\SqT Z.K H3 t0 [.int (c.1:Int),.int 1]:=by
   let S:=st.same f;rw[X] at S
   cases S with
   |cons h _=>exact⟨9,h⟩
  exists 9,a,Z.c_Ring,dx,_,.ref p,8,f _ _ g,f _ _ o,kG.ex,fc.hg,fc.nr,8,p,y,_,9,8,SqL.of (f _ _ C),bM (j:=0) e0,7;exists 9,P,_,0,9,8,(F.trans s3).seqT L,8,zl9 2,λt6 aa=>?_;let⟨H6,ac,R,e6⟩:=nw aa (.tup [.int (c.1:Int),.int 1]);rw[ac];let s06:=f.trans R;refine Yh (R.seqT h0) (SqT.of e6) ⟨9,fZ ?_⟩;let pe:tot (c.2.map (gU ds))=p1:=Lu (Qo I c.2).1 a6 (by rw[a7];exact(Qo I c.2).2);exists 9,a,Z.c_Ring,dx,_,.ref t,8,s06 _ _ g,s06 _ _ o,kG.ex,fc.hg,fc.nt,8,9,P,_,1,9,8,(F.trans (s3.trans R)).seqT L,8,7;exists t,z1,p1,8,pe ▸ s06.fq ft,(F.trans (s3.trans R)).fq a5,q H6 s06
theorem Y87:DZ 11 Z.f87 Z.d87 ["_law_net_here","_law_rows","_law_streams","_law_many"] (Mi Z.c_Net Z.K) "_law_let_by":=by
 exists 7,F87.b4 _ _ _ _ (by intros;rfl),F87.kp,m87
 refine F87.ok9 Lx λ_ _ _ s H _ Q E U h=>?_;let⟨n,l,r,W,us,ys,m,ds,ss,rfl,nt,hS,hR,hB,hF,lS,dN,a0,D,y,m6,F,tp,L,I,q⟩:=h;let r1:=U.mono (show 1<=10 by lia);let a1:=R67.calm;let a2:=R68.calm;refine⟨_,(aD (qQ0 (i:=4) Lx.nd (aH a1 U rfl m67 F67.kp b67 .nil aM (aA (pv 0) (aA (gC fY rfl n_list PyProof.Rows.boot_list (aA (pv 2) aC)) aC))))
  (aD (vD (i:=5) (nl:=1) (fr:=[]) (Nc:=["_law_row"]) (cl:=[]) Lx.nd rfl rfl rfl ⟨8,8,∅,∅,λx c h=>(by cases h),dY rfl,8,λi n h=>(by simp at h)⟩
    (cF (pv 1)) (λ_ _ _ _ _=>(qQ1 (i:=0) Yo)) (λ_ _ _ _ _=>(lV (bH jQ (aR (rW (K:=Z.K) rfl) (pv 0) aE) cC (bL _))))
    (λ_ _ _ _ _=>(pv 0)) rfl)
  (aD (cD (PW.pt (kU (fX (dQ (iJ (i:=4) rfl (Or.inl rfl) bl.isi n_list rfl rfl PyProof.Rows.boot_list))) (kN (bH jQ (bX bV rfl n_len PySem.boot_len (aA (pv 4) aC)) (aY eK (aY kD (bX bV rfl n_len PySem.boot_len (aA (pv 5) aC)) (pv 3)) aE) (bL _))))) (aF (aU jD)) bN)
  (aD (qQ0 (i:=6) Lx.nd (aH a2 U rfl m68 F68.kp b68 .nil aM (aA (pv 0) aC)))
  (aF (aU (kR (aH Y78.G r1 rfl m78 F78.kp Y78.b .nil aM (aA (pv 6) (aA (pv 6) aC))) (oE (bX (rH rfl) rfl n_all PyProof.Rows.boot_all (aA (dM (nl:=1) (fr:=[]) (Nc:=["_law_one"]) (cl:=[]) rfl ⟨8,8,∅,∅,λx c h=>(by cases h),dY rfl,8,λi n h=>(by simp at h)⟩
    (cF (pv 4)) (λ_ _ _ _ _=>(qQ1 (i:=0) Ze)) (λ_ _ _ _ _=>eU)
    (λ_ _ _ _ _=>(aH Y78.G r1 rfl m78 F78.kp Y78.b .nil aM (aA (pv 0) (aA (pv 0) aC))))) aC)))))))))),7⟩
 let pt:∀d∈ds,cO (m:Int) d.2.1 d.2.2.1:=λd P=>(D d P).pt;let rf:∀{H0:Hp}{E:XK},Rfs Z.c_Ring Z.c_Floats Z.K H0 E m ds:=λ{H0 E}=>⟨λc r e=>absurd (L.symm.trans e) ⋯,λ_ e=>absurd I e⟩
 let a4:=hR.length;refine pK (λY H'=>aS H H'/\∃(f:Addr)(zs:vk)(ps:List Mq.Q2),Y=[some (.ref n),some (.ref r),some (.ref W),some (.int (m:Int)),some (.ref f),none,none]/\H' f=some (.lst zs)/\Fqs Z.K H' zs ps/\dP ps/\ps.length=(Dq ds).length) (λX hX=>?_) ?_
 .exists 9,9,W,ys,8,.inl hB,λlc a5=>?_;let⟨H1,a6,o,e1⟩:=nw a5 (.lst ys);rw[a6];exists n,l,.ref lc,m,ds,true,8,nt.same o,D,y,m6,F,.ls (SqL.of e1) (hF.same o) lS dN a0,(λz=>by cases z),λ_=>⟨rf,λ_ _=>⟨Qq y m6 F D tp (nt.same o) L I,λf zs ps H2 j _ A F2 al lp=>hX _ _ ⟨o.trans j,f,zs,ps,8,A,F2,al,lp⟩⟩⟩
 rintro a8 H1 ⟨o,f,zs,ps,rfl,e1,F1,al,lp⟩;refine pK (λY H'=>aS H1 H'/\∃(g:Addr)(a:vk),Y=[some (.ref n),some (.ref r),some (.ref W),some (.int (m:Int)),some (.ref f),some (.ref g),none]/\H' g=some (.lst a)/\a.length=(joF ds).length) (λX hX=>?_) ?_
 .exists 9,r,8,⟨_,o.seq hS⟩,λC M=>?_;refine clS M (xs:=us) (λi a H'=>a.length=(joF (ds.take i)).length) rfl (λ_ h=>(o.trans h).seq hS) ?_ ?_
  .rintro i a x H2 N ⟨j,A,B⟩ C' J;let hi:i < ds.length:=by have:=(wk.mp N).1;lia
   obtain⟨⟨k,u,v,p⟩,P⟩:∃d,ds[i]?=some d:=⟨_,getElem?_eq_getElem hi⟩
   let⟨t,z,et,hT,fz⟩:=(hR.same (o.trans j)).at P;let ex:x=.ref t:=by rw[et] at N;exact(Option.some.inj N).symm
   subst ex;let tk:ds.take (i+1)=ds.take i++[(k,u,v,p)]:=by rw[take_add_one,P];rfl
   let l1:a.length<=24:=by
    rw[B];refine Nat.le_trans (length_filter_le _ _) ?_;rw[length_take];lia
   exists dU.1,dU.2,7;exists 9,t,_,0,9,8,hT,8,8,9,7
   by_cases R:k=.pu
   .refine L2.ifF (by show (!decide (V.str k.wd=V.str "push"))=false;rw[oR,decide_eq_true R];rfl) (J _ _ ⟨j,A,7⟩);rw[B,tk];unfold joF;rw[filter_append,filter_cons_of_neg (by simpa using R)];simp
   .refine L2.ifT (by show (!decide (V.str k.wd=V.str "push"))=true;rw[oR,decide_eq_false R];rfl) ⟨9,A,aZ (),J _ _ ⟨j.change M,aB,7⟩⟩;rw[wq,B,tk];unfold joF;rw[filter_append,filter_cons_of_pos (by simpa using R),wq];rfl
  .rintro a H2 ⟨j,A,B⟩;refine hX _ _ ⟨j,C,a,8,A,7⟩;rw[B,a4,take_length]
 rintro a9 H2 ⟨j,g,a,rfl,A,B⟩;let lz:=F1.length;let cl:=Ym y () pt I;let f2:=j _ _ e1;exists _,_,true,8,.lst (SqL.of f2),8,9,gB ?_;exists 9,f,zs,8,.inl (SqL.of f2),9,g,a,8,.inl (SqL.of A),9,_,9,8,_,9,8,8,9,L2.ifF ?_ ?_
 .show (!decide (V.int ((zs.length:Nat):Int)=V.int (((a.length:Nat):Int) - (m:Int)+1)))=false;rw[decide_eq_true (by rw[lz,lp,B];congr 1;lia)];rfl
 let O:=o.trans j;exists 9,n,l,m,ds,8,nt.same O,D,y,m6,F,rf,λ_ _=>⟨Qq y m6 F D tp (nt.same O) L I,λp a7 a3 H3 s3 e3=>?_⟩;exists 9,9,a3,a3,p,8,Fq.of e3,Fq.of e3,9,fZ ?_;let f3:=s3 _ _ f2;exists 9,f,8,⟨_,SqL.of f3⟩,λC M=>?_;refine clS M (xs:=zs) (λi a H'=>a=(((ps.take i).map λ_=>true).map V.bl)) rfl (λ_ h=>SqL.of (h _ _ f3)) ?_ ?_
 .rintro i a x H4 N ⟨S,e4,rfl⟩ C' J;let⟨w,p',rfl,ep,fp⟩:=F1.get N;let hi:i < ps.length:=(wk.mp ep).1;let T:=(j.trans (s3.trans S)).fq fp;let cs:(Dq ds).length<=24:=by
   have:(joF ds).length<=ds.length:=length_filter_le _ _;lia
  exists dU.1,dU.2,fZ ?_;exists 9,9,w,w,p',8,T,T,e4,aZ (by rw[length_map,length_map,length_take];lia),J _ _ ⟨S.change M,aB,7⟩;rw[take_add_one,ep,map_append,map_append];rfl
 .rintro a H4 ⟨S,e4,rfl⟩;exists C,9,SqL.of e4,7;rw[lz,take_length,all_map,show ps.all (id ∘ λ_=>true)=true by simp];exact q _ (O.trans (s3.trans S))
theorem Y88:DZ 3 Z.f88 Z.d88 ["_law_rows","_law_streams","_law_cell"] (Vj Z.K) "_law_bad":=by
 exists 7,F88.b3 _ _ _ (by intros;rfl),F88.kp,m88
 refine F88.ok9 Gf λ_ _ _ s H _ Q E hr h=>?_;let⟨r,b,O,ys,c,m,ds,M,rfl,rs,c4,de,q⟩:=h;let hu:=hr.units;let r1:=hr.mono (show 1<=2 by lia);refine⟨_,(aD (qQ0 (i:=3) Gf.nd (cS (aA (aY mM (pv 1) (cS (aA (dD (aA aE (aA aE aC))) aC))) aC)))
  (aD (dE PassesOwn.never rfl (gE rfl n_range (aA (bX bV rfl n_len PySem.boot_len (aA (pv 0) aC)) aC)) (qQ1 (i:=4) Gf.nd)
   (aD (qQ0 (i:=5) Gf.nd (aY mM (aY mM (fU iH (pv 1) jK (eZ (pv 4))) (cS (aA (d9 Y74 hr rfl (aA (aR bK (pv 1) (pv 4)) (aA (dD (aA aE (aA aE aC))) aC))) aC))) (fU iH (pv 1) (eZ (aY eK (pv 4) aE)) jK)))
  (aD (cD (PW.pt (kU (bH eO (aR bC (aR bK (pv 0) (pv 4)) aE) cC (bL _)) (kN (bH jQ (aR bC (aR bK (pv 0) (pv 4)) aE) (aR bC (aR bK (pv 0) (pv 4)) aE) (bL _))))) (aF (bY (iS PySem.F.plainAttrs_list PySem.F.slot_list_append PySem.F.type_list_append dG (pv 3) (aA (pv 5) aC)))) bN)
  (aF (dE PassesOwn.never rfl (gE rfl n_range (aA (bX bV rfl n_len PySem.boot_len (aA (pv 0) aC)) aC)) (qQ1 (i:=6) Gf.nd)
   (aF (cD (PW.pt (kO (bH jQ (pv 6) (pv 4) (bL _)) (kO (bH eO (aR bC (aR bK (pv 0) (pv 4)) aE) cC (bL _)) (jL (bH (oK hu) (fU Ss (aR bK (pv 0) (pv 6)) (eZ aE) (eZ aE)) (fU Ss (aR bK (pv 0) (pv 4)) (eZ aE) (eZ aE)) (bL _)))))) (aF (bY (iS PySem.F.plainAttrs_list PySem.F.slot_list_append PySem.F.type_list_append dG (pv 3) (aA (aY mM (aY mM (fU iH (pv 5) jK (eZ (pv 6))) (cS (aA (d9 Y75 hr rfl (aA (aR bK (pv 5) (pv 6)) (aA (dD (aA aE (aA aE aC))) aC))) aC))) (fU iH (pv 5) (eZ (aY eK (pv 6) aE)) jK)) aC)))) bN)))))))
  (aF (aU (cS (aA (aR bK (pv 3) aE) (aA (gC kC rfl n_tuple PyProof.Rows.boot_tuple (aA (pv 1) aC)) (aA (aR bK (pv 3) (d9 Y70 r1 rfl (aA (pv 2) (aA aE (aA (bX bV rfl n_len PySem.boot_len (aA (pv 3) aC)) aC))))) (aA (aR bK (pv 3) (Fo wD aE)) aC))))))))),7⟩
 let er:=rs.er;let eb:=rs.eb;let hR:=rs.R;let hF:=rs.F;let hl:=rs.l;let df:=hR.length;let dg:=hF.length;let dN:=rs.dn;let c5:∀e∈ds.zip M,EOk m e:=λe he=>(rs.p e he).e;let c7:dP M:=λp hp=>(dN p hp).1;let dc:NP+27720<=NS:=by decide
 let db:NP+27720+27720<=NS:=by decide
 let dh:NS < 2 ^ 99:=by decide
 let di:NP<=NS:=by decide
 exists 9,zl9 2,λt0 c8=>?_;let⟨H1,a,s1,e1⟩:=nw c8 (.tup [.int 0,.int 1]);rw[a];exists zl9 1,λp0 c9=>?_;let⟨H2,a,s2,e2⟩:=nw c9 (.lst [.ref t0]);rw[a];let ai:=s1.trans s2;exists b,p0,_,9,8,ai _ _ eb,e2,(by rw[sizeLine_eq];simp only[length_cons,length_nil];lia),λq0 ca=>?_;let⟨H3,a,s3,e3⟩:=nw ca (.lst (ys++[.ref t0]));rw[a];exists zl9 1,λB hB=>?_;let⟨H4,a,s4,e4⟩:=nw hB (.lst [.ref q0]);rw[a];let ak:=ai.trans (s3.trans s4);let nB:H B=none:=(ai.trans s3).free hB;let cb:q0≠B:=bA e3 hB;let c0:mZ Z.K H4 m ds (.ref q0):=⟨q0,_,M++[(0,1)],8,s4 _ _ e3,(hF.same ak).app (.cons ((s2.trans (s3.trans s4)).fq (Fq.of e1)) .nil),λp hp=>by
  rcases mem_append.mp hp with z | z
  .exact c7 p z
  .rw[mem_singleton.mp z];exact⟨∅,∅⟩,by rw[wq];simp only[length_cons,length_nil];lia,.inl (by rw[wq];simp only[length_cons,length_nil];lia)⟩
 dsimp only;refine pK (λe5 H'=>aS H H'/\∃(xs:vk)(z4 z5 G:Option V),e5=[some (.ref r),some (.ref b),some (.int c),some (.ref B),z4,z5,G]/\H' B=some (.lst xs)/\(∀x∈xs,mZ Z.K H' m ds x/\x≠.ref B)/\1<=xs.length/\xs.length<=1+18*17) (λX hX=>?_) ?_
 .exists 9,r,O,8,.inl (ak.seq (SqL.of er)),(O.length:Int),8,6,6,7;refine gD (λi σ H'=>aS H H'/\∃(xs:vk)(z4 z5 G:Option V),σ=[some (.ref r),some (.ref b),some (.int c),some (.ref B),z4,z5,G]/\H' B=some (.lst xs)/\(∀x∈xs,mZ Z.K H' m ds x/\x≠.ref B)/\1<=xs.length/\xs.length<=1+18*i) ⟨ak,[.ref q0],none,none,none,8,e4,λx A=>by rw[mem_singleton.mp A];exact⟨c0,λz=>cb (by injection z)⟩,Nat.le_refl _,Nat.le_refl _⟩ ?_ ?_
  rotate_left
  .rintro σ H' ⟨s,xs,z4,z5,G,rfl,eB,bd,l1,l2⟩;exact hX _ _ ⟨s,xs,z4,z5,G,8,eB,bd,l1,6⟩
  rintro k σ H5 hk ⟨s5,xs,z4,z5,G,rfl,eB,bd,l1,l2⟩;let hk:k < O.length:=by lia
  rw[Int.zero_add];obtain⟨⟨P,u,v,sz⟩,hd⟩:∃d,ds[k]?=some d:=⟨_,getElem?_eq_getElem ()⟩
  let ay:=yJ (ps:=M) (j:=k) ();let dy:=dN _ (mem_of_getElem? ay);obtain⟨S,cc⟩:∃S,M.getD k (0,1)=S:=⟨9⟩
  rw[cc] at ay dy;let pk:=rs.p _ (mem_of_getElem? (show (ds.zip M)[k]?=some ((P,u,v,sz),S) from getElem?_zip_eq_some.mpr ⟨hd,ay⟩));dsimp only;refine pK (λe5 H'=>aS H5 H'/\∃(g w:Addr),e5=[some (.ref r),some (.ref b),some (.int c),some (.ref B),some (.int (k:Int)),some (.ref g),G]/\H' g=some (.lst (ys.set k (.ref w)))/\g≠B/\Fq Z.K H' w (Mq.plus S (1,3))) (λX hX=>?_) ?_
  .exists 9,9,(k:Int),8,b,9,SqL.of (s5 _ _ eb),λD al=>?_;rw[Lm ys ()];let⟨H6,a,N,e6⟩:=nw al (.lst (ys.take k));rw[a];let⟨w0,an,ao⟩:=(hF.same (s5.trans N)).at ay;exists 9,9,b,ys,_,9,8,SqL.of ((s5.trans N) _ _ eb),bM an,zl9 2,λt3 ap=>?_;let⟨H7,a,T,e7⟩:=nw ap (.tup [.int 1,.int 3]);rw[a];exists w0,t3,_,(1,3),99,99,8,T.fq ao,Fq.of e7,dy.1.pos,∅,dy.bd () (),qb5.bd ∅ ∅,∅,λw1 H8 I f8=>?_;exists zl9 1,λp2 aq=>?_;let⟨H9,a,s9,e9⟩:=nw aq (.lst [.ref w1]);rw[a];exists D,p2,_,9,8,(T.trans (I.trans s9)) _ _ e6,e9,(by rw[sizeLine_eq];simp only[length_take,length_cons,length_nil];lia),λp3 ar=>?_;let⟨as,a,a4,cd⟩:=nw ar (.lst (ys.take k++[.ref w1]));rw[a];let a8:=N.trans (T.trans (I.trans (s9.trans a4)));exists 9,9,_,9,8,(k:Int)+1,8,b,9,SqL.of ((s5.trans a8) _ _ eb),λp4 au=>?_;rw[zY];let⟨ce,a,J,av⟩:=nw au (.lst (ys.drop (k+1)));rw[a];exists p3,p4,_,9,8,J _ _ cd,av,(by rw[sizeLine_eq];simp only[length_take,length_drop,wq,length_cons,length_nil];lia),λp5 a5=>?_;rw[Ql ()];let⟨cf,a,W,aw⟩:=nw a5 (.lst (ys.set k (.ref w1)));rw[a];exact hX _ _ ⟨a8.trans (J.trans W),p5,w1,8,aw,Ne.symm (bA ((a8.trans J) _ _ eB) a5),(s9.trans (a4.trans (J.trans W))).fq (Fq.of f8)⟩
  rintro e8 H6 ⟨N,g,w,rfl,em,ax,fw⟩;let d1:Mq.Dn (NP+27720) (Mq.plus S (1,3)):=dy.plus qb5;let az:Mq.val (Mq.plus S (1,3))≠Mq.val S:=by
   rw[Mq.iF dy.1.pos ∅];intro e;exact qv5 (by grind)
  let b0:Mq.plus S (1,3)≠S:=λe=>az (by rw[e]);generalize Mq.plus S (1,3)=D at fw d1 az b0;let Y:=s5.trans N;let Fm:∀{H':Hp},aS H H'->Fq Z.K H' w D->Fqs Z.K H' (ys.set k (.ref w)) (M.set k D):=λ{H'} s f=>Fqs.set f k (hF.same s);let lm:(M.set k D).length=ds.length:=by rw[length_set];exact hl
  let dm:∀s∈M.set k D,Mq.Dn (NP+27720) s:=λs hs=>by
   rcases mem_or_eq_of_mem_set hs with z | z
   .exact(dN s z).mono ()
   .rw[z];exact d1
  let bf:(M.set k D)[k]?=some D:=by rw[getElem?_set,if_pos rfl,if_pos ()]
  let bg:P=.pu->S=sz:=λe=>by
   let h3:=pk.2.2
   by_cases c:S=sz
   .exact c
   .simp[okp,e,c] at h3
  let cg:(P=.pu\/u≠v)->∀{H':Hp},aS H H'->H' g=some (.lst (ys.set k (.ref w)))->Fq Z.K H' w D->mZ Z.K H' m ds (.ref g):=λb7 {H'} s em f=>⟨g,_,9,em,Fm s f,λp hp=>(dm p hp).1,6,.inr ⟨lm,λp hp=>(dm p hp).mono (),by
   by_cases e:P=.pu
   .exact Mn hd e bf (by show D≠sz;rw[<- bg e];exact b0)
   .exact qk1 hl c5 d1.1.pos c4 hd ay az (b7.resolve_left e)⟩⟩
  let⟨t1,z1,a6,a7,_⟩:=hR.at hd;let bd6:∀x∈xs,mZ Z.K H6 m ds x/\x≠.ref B:=λx A=>⟨(bd x A).1.same N,(bd x A).2⟩
  let U:=N _ _ eB;refine pK (λe5 H'=>aS H H'/\H' g=some (.lst (ys.set k (.ref w)))/\Fq Z.K H' w D/\∃(t:vk),e5=[some (.ref r),some (.ref b),some (.int c),some (.ref B),some (.int (k:Int)),some (.ref g),G]/\H' B=some (.lst t)/\(∀x∈t,mZ Z.K H' m ds x/\x≠.ref B)/\1<=t.length/\t.length<=2+18*k) (λX hX=>?_) ?_
  .let hT:=Y.seqT a7;let bh:(P=.pu\/u≠v)->X [some (.ref r),some (.ref b),some (.int c),some (.ref B),some (.int (k:Int)),some (.ref g),G] (upd H6 B (.lst (xs++[.ref g]))):=λb7=>by
    let sB:=Y.change nB (o:=.lst (xs++[.ref g]));let bi:upd H6 B (.lst (xs++[.ref g])) g=some (.lst (ys.set k (.ref w))):=by rw[aQ ax];exact em
    let bj:Fq Z.K (upd H6 B (.lst (xs++[.ref g]))) w D:=SqT.upd fw U;refine hX _ _ ⟨sB,bi,bj,xs++[.ref g],8,aB,λx A=>?_,by rw[wq];lia,by rw[wq];simp only[length_cons,length_nil];lia⟩;rcases mem_append.mp A with z | z
    .exists (bd6 x z).1.updB U (bd6 x z).2,(bd6 x z).2
    .rw[mem_singleton.mp z];exists cg b7 sB bi bj,λz=>ax (by injection z)
   exists 9,9,r,O,_,9,8,SqL.of (Y _ _ er),bM a6,t1,_,0,9,8,hT,8,8,9,7
   by_cases e:P=.pu
   .refine L2.ifT (by show decide (V.str P.wd=V.str "push")=true;rw[oR];exact decide_eq_true e) ?_;exists 9,.inl ⟨8,_,SqL.of U⟩,9,B,xs,.ref g,8,8,U,aZ (),bh (.inl e)
   refine L2.ifF (by show decide (V.str P.wd=V.str "push")=false;rw[oR];exact decide_eq_false e) ?_;exists 9,9,r,O,_,9,8,SqL.of (Y _ _ er),bM a6,t1,_,1,9,8,hT,8,9,9,r,O,_,9,8,SqL.of (Y _ _ er),bM a6,t1,_,2,9,8,hT,8,8,9,7
   by_cases e2:u=v
   .exact L2.ifF (by show (!decide (V.int u=V.int v))=false;rw[e2,decide_eq_true rfl];rfl) (hX _ _ ⟨Y,em,fw,xs,8,U,bd6,l1,6⟩)
   .refine L2.ifT (by show (!decide (V.int u=V.int v))=true;rw[decide_eq_false (λz=>e2 (by injection z))];rfl) ?_;exists 9,.inl ⟨8,_,SqL.of U⟩,9,B,xs,.ref g,8,8,U,aZ (),bh (.inr e2)
  rintro ea H7 ⟨T,ch,ci,cj,rfl,ck,cm,co,dk⟩;exists 9,r,O,8,.inl (T.seq (SqL.of er)),(O.length:Int),8,6,6,7;refine gD (λj σ H'=>aS H H'/\H' g=some (.lst (ys.set k (.ref w)))/\Fq Z.K H' w D/\∃(t:vk)(G:Option V),σ=[some (.ref r),some (.ref b),some (.int c),some (.ref B),some (.int (k:Int)),some (.ref g),G]/\H' B=some (.lst t)/\(∀x∈t,mZ Z.K H' m ds x/\x≠.ref B)/\1<=t.length/\t.length<=2+18*k+j) ⟨T,ch,ci,cj,G,8,ck,cm,co,6⟩ ?_ ?_
  rotate_left
  .rintro σ H' ⟨s,_,_,t,G,rfl,cp,cq,cr,dp⟩;exists s,t,_,_,9,cp,cq,cr,6
  rintro j σ H8 hj ⟨I,ad,ae,af,dr,rfl,bn,ag,cs,dt⟩;let hj:j < O.length:=by lia
  rw[Int.zero_add];let stay:∀{H':Hp},aS H8 H'->(∃(t:vk)(G:Option V),[some (V.ref r),some (.ref b),some (.int c),some (.ref B),some (.int (k:Int)),some (.ref g),some (.int (j:Int))]=[some (V.ref r),some (.ref b),some (.int c),some (.ref B),some (.int (k:Int)),some (.ref g),G]/\H' B=some (.lst t)/\(∀x∈t,mZ Z.K H' m ds x/\x≠.ref B)/\1<=t.length/\t.length<=2+18*k+(j+1)):=λ{H'} s=>⟨af,9,s _ _ bn,λx A=>⟨(ag x A).1.same s,(ag x A).2⟩,cs,6⟩
  exists 9,9,8,9,7
  by_cases jk:j=k
  .refine L2.ifF (by show (!decide (V.int (j:Int)=V.int (k:Int)))=false;rw[jk,decide_eq_true rfl];rfl) ⟨I,ad,ae,stay (aS.refl _)⟩
  refine L2.ifT (by show (!decide (V.int (j:Int)=V.int (k:Int)))=true;rw[decide_eq_false (λz=>jk (by injection z with z;exact Int.ofNat.inj z))];rfl) ?_;let ct:=I.seqT a7;exists 9,9,r,O,_,9,8,SqL.of (I _ _ er),bM a6,t1,_,0,9,8,ct,8,8,9,7
  by_cases e:P=.pu
  rotate_left
  .exact L2.ifF (by show decide (V.str P.wd=V.str "push")=false;rw[oR];exact decide_eq_false e) ⟨I,ad,ae,stay (aS.refl _)⟩
  refine L2.ifT (by show decide (V.str P.wd=V.str "push")=true;rw[oR];exact decide_eq_true e) ?_;obtain⟨⟨cu,u2,v2,du⟩,cv⟩:∃d,ds[j]?=some d:=⟨_,getElem?_eq_getElem ()⟩
  let⟨t2,z2,cw,b8,_⟩:=hR.at cv;let b8:SqT Z.K H t2 [.str cu.wd,.int u2,.int v2,.ref z2]:=b8;let a7:SqT Z.K H t1 [.str P.wd,.int u,.int v,.ref z1]:=a7;exists 9,9,r,O,_,9,8,SqL.of (I _ _ er),bM cw,1,8,3,8,t2,9,I.seqT b8,(λz=>absurd (show HT.sIx 4 0 (some 1)=0 from z.1) ∅),λc1 cx=>?_;rw[qg6];let⟨H9,a,s9,f9⟩:=nw cx (.tup [.int u2,.int v2]);rw[a];let f9:Fq Z.K H9 c1 (u2,v2):=Fq.of f9;exists 9,9,r,O,_,9,8,SqL.of ((I.trans s9) _ _ er),bM a6,1,8,3,8,t1,9,(I.trans s9).seqT a7,(λz=>absurd (show HT.sIx 4 0 (some 1)=0 from z.1) ∅),λc2 cy=>?_;rw[qg6];let⟨as,a,a4,ba⟩:=nw cy (.tup [.int u,.int v]);rw[a];let ba:Fq Z.K as c2 (u,v):=Fq.of ba;let C:=s9.trans a4;refine xC (a4.fq f9) ba ⟨9,rF (λ_=>?_) (λ_=>⟨I.trans C,C _ _ ad,C.fq ae,stay C⟩)⟩;let bb:=I.trans C;let a1:=C _ _ ad;let a9:=C.fq ae;let aa:=C _ _ bn;let ac:∀x∈af,mZ Z.K as m ds x/\x≠.ref B:=λx A=>⟨(ag x A).1.same C,(ag x A).2⟩
  generalize hYs:ys.set k (.ref w)=Ys at *
  let lY:Ys.length=ys.length:=by rw[<- hYs,length_set]
  let aj:=yJ (ps:=M.set k D) (j:=j) ();let dj:=dm _ (mem_of_getElem? aj);generalize (M.set k D).getD j (0,1)=pj at aj dj;exists 9,.inl ⟨8,_,SqL.of aa⟩,9,9,(j:Int),8,g,9,SqL.of a1,λcz al=>?_;rw[Lm Ys ()];let⟨ce,a,J,av⟩:=nw al (.lst (Ys.take j));rw[a];let⟨w0,an,ao⟩:=(Fm (bb.trans J) (J.fq a9)).at aj;exists 9,9,g,Ys,_,9,8,SqL.of (J _ _ a1),bM an,zl9 2,λt3 ap=>?_;let⟨cf,a,W,aw⟩:=nw ap (.tup [.int 1,.int 3]);rw[a];exists w0,t3,_,(1,3),99,99,8,W.fq ao,Fq.of aw,dj.1.pos,∅,dj.bd () (),qb5.bd ∅ ∅,∅,λw1 dv bo d0=>?_;exists zl9 1,λp2 aq=>?_;let⟨dw,a,bc,d4⟩:=nw aq (.lst [.ref w1]);rw[a];exists cz,p2,_,9,8,(W.trans (bo.trans bc)) _ _ av,d4,(by rw[sizeLine_eq];simp only[length_take,length_cons,length_nil];lia),λp3 ar=>?_;let⟨dz,a,bp,d5⟩:=nw ar (.lst (Ys.take j++[.ref w1]));rw[a];let a2:=J.trans (W.trans (bo.trans (bc.trans bp)));exists 9,9,_,9,8,(j:Int)+1,8,g,9,SqL.of (a2 _ _ a1),λp4 au=>?_;rw[zY];let⟨e0,a,ah,d6⟩:=nw au (.lst (Ys.drop (j+1)));rw[a];exists p3,p4,_,9,8,ah _ _ d5,d6,(by rw[sizeLine_eq];simp only[length_take,length_drop,wq,length_cons,length_nil];lia),λp5 a5=>?_;rw[Ql ()];let⟨d7,a,br,d8⟩:=nw a5 (.lst (Ys.set j (.ref w1)));rw[a];let a0:=a2.trans (ah.trans br);let be:=bb.trans a0;let a3:=a0 _ _ aa;let bt:p5≠B:=Ne.symm (bA ((a2.trans ah) _ _ aa) a5);let dq:=dj.minus qb5;let bd5:mZ Z.K d7 m ds (.ref p5):=⟨p5,_,(M.set k D).set j (Mq.minus pj (1,3)),8,d8,Fqs.set ((bc.trans (bp.trans (ah.trans br))).fq (Fq.of d0)) j (Fm be (a0.fq a9)),λp hp=>by
   rcases mem_or_eq_of_mem_set hp with z | z
   .exact(dm p z).1
   .rw[z];exact dq.1,by rw[length_set];lia,.inr ⟨by rw[length_set];exact lm,λp hp=>by
   rcases mem_or_eq_of_mem_set hp with z | z
   .exact(dm p z).mono ()
   .rw[z];exact dq.mono (),Mn hd e (by rw[getElem?_set,if_neg jk];exact bf) (by show D≠sz;rw[<- bg e];exact b0)⟩⟩
  exists B,af,.ref p5,8,8,a3,aZ (),7;let c3:=a0 _ _ a1;refine⟨be.change nB,by rw[aQ ax];exact c3,SqT.upd (a0.fq a9) a3,af++[.ref p5],9,aB,λx A=>?_,by rw[wq];lia,by rw[wq];simp only[length_cons,length_nil];lia⟩;rcases mem_append.mp A with z | z
  .exists ((ac x z).1.same a0).updB a3 (ac x z).2,(ac x z).2
  .rw[mem_singleton.mp z];exists bd5.updB a3 (λz=>bt (by injection z)),λz=>bt (by injection z)
 rintro ec H5 ⟨s5,xs,z4,z5,G,rfl,eB,bd,l1,l2⟩;obtain⟨x0,bu⟩:∃x,xs[0]?=some x:=⟨_,getElem?_eq_getElem ()⟩
 exists 9,B,xs,0,x0,8,8,SqL.of eB,bM (j:=0) bu,7;exists 9,b,ys,8,.inl ⟨SqL.of (s5 _ _ eb),λtt da=>?_⟩;let⟨H6,a,N,e6⟩:=nw da (.tup ys);rw[a];exists 9,9,9,B,xs,8,.inl (SqL.of (N _ _ eB)),c,1,(xs.length:Int),8,∅,∅,6,λy' H7 y0 y1 T=>?_;obtain⟨y,rfl⟩:∃y:Nat,y'=(y:Int):=⟨y'.toNat,6⟩
 obtain⟨x1,bv⟩:∃x,xs[y]?=some x:=⟨_,getElem?_eq_getElem ()⟩
 exists B,xs,_,x1,8,8,SqL.of ((N.trans T) _ _ eB),bM bv,7;obtain⟨x2,bx⟩:∃x,xs[xs.length - 1]?=some x:=⟨_,getElem?_eq_getElem ()⟩
 let am:atI xs (-1)=some x2:=Zp (n:=xs.length - 1) () bx;exists 9,9,B,xs,-1,x2,8,8,SqL.of ((N.trans T) _ _ eB),am,zl9 4,λL hL=>?_;let I:=aG hL (.lst [x0,.ref tt,x1,x2]);let bz:=N.trans (T.trans I);let get:∀x∈xs,∃v:Addr,x=.ref v/\SvI Z.K (upd H7 L (.lst [x0,.ref tt,x1,x2])) m ds x false:=λx A=>((bd x A).1.same bz).sv;refine q L _ _ (s5.trans bz) ((s5.trans (N.trans T)).free hL) aB rfl λx A=>?_;rcases mem_cons.mp A with rfl | A
 .exact get _ (mem_of_getElem? bu)
 rcases mem_cons.mp A with rfl | A
 .exists tt,8,qb7 ((T.trans I) _ _ e6)
 rcases mem_cons.mp A with rfl | A
 .exact get _ (mem_of_getElem? bv)
 .rw[mem_singleton.mp A];exact get _ (mem_of_getElem? bx)
theorem Rlaw:FZ CX0 12 Z.f89 (W.fnOf ("law") ("law") (fC Ey) (dA Ey) (aI Ey) .none Z.kV89 Z.dc89 Z.pm89 Z.an89 Z.cd89 Z.ct89) ["_law_script"] (Fu Z.K):=by
 refine F89.ok9 pS λ_ _ _ s H _ Q E hr h=>?_;let⟨a,ns,rfl,hS,a8,q⟩:=h;let r1:=hr.mono (show 1<=11 by lia);let r3:=hr.mono (show 3<=11 by lia);let r4:=hr.mono (show 4<=11 by lia);let r5:=hr.mono (show 5<=11 by lia);let r6:=hr.mono (show 6<=11 by lia);let a0:=hr;let hu:=hr.units;refine⟨_,(aD (qQ0 (i:=1) pS.nd (aY eK aE (aY kS (aH Y69.G r1 rfl m69 F69.kp Y69.b .nil aM (aA (pv 0) (aA aE aC))) aE)))
  (aD (jB (aH Y80.G r4 rfl m80 F80.kp Y80.b .nil aM (aA (pv 0) (aA (pv 1) aC))) (gW rfl (bU (qQ1 (i:=2) pS.nd) (bU (qQ1 (i:=3) pS.nd) fK))))
  (aD (qQ0 (i:=4) pS.nd (aH Y79.G r6 rfl m79 F79.kp Y79.b .nil aM (aA (pv 1) (aA (pv 2) aC))))
  (aD (dE PassesOwn.never rfl (cF (aH Y88.G r3 rfl m88 F88.kp Y88.b .nil aM (aA (pv 2) (aA (pv 3) (aA (aH Y69.G r1 rfl m69 F69.kp Y69.b .nil aM (aA (pv 0) (aA aE aC))) aC))))) (qQ1 (i:=5) pS.nd)
   (aF (cD (fX (dQ (aH Y85.G r1 rfl m85 F85.kp Y85.b .nil aM (aA (aH Y84.G a0 rfl m84 F84.kp Y84.b .nil aM (aA (pv 4) (aA (pv 5) aC))) (aA cC aC))))) (aF (aU jD)) bN)))
  (aD (qQ0 (i:=6) pS.nd (aH Y83.G r4 rfl m83 F83.kp Y83.b .nil aM (aA (pv 2) (aA (pv 1) aC))))
  (aD (qQ0 (i:=7) pS.nd (aH Y82.G r4 rfl m82 F82.kp Y82.b .nil aM (aA (pv 2) (aA (pv 1) aC))))
  (aD (cD (PW.pt (kO (bH (oK hu) (pv 6) (cS aC) (bL _)) (jL (oH (uG (pv 7)))))) (aF (aU (aH Y87.G a0 rfl m87 F87.kp Y87.b .nil aM (aA (pv 4) (aA (pv 2) (aA (pv 3) (aA (pv 1) aC))))))) bN)
  (aD (dE PassesOwn.never rfl (cF (cS (aA (pv 3) (aA Ee (aA (pv 3) aC))))) (qQ1 (i:=8) pS.nd)
   (aF (cD (fX (dQ (aH Y86.G r5 rfl m86 F86.kp Y86.b .nil aM (aA (aH Y84.G a0 rfl m84 F84.kp Y84.b .nil aM (aA (pv 4) (aA (pv 8) aC))) (aA (pv 2) (aA (pv 1) aC)))))) (aF (aU jD)) bN)))
  (aD (dE PassesOwn.never rfl (cF (pv 6)) (qQ1 (i:=9) pS.nd)
   (aD (bY (iS PySem.F.plainAttrs_list PySem.F.slot_list_append PySem.F.type_list_append dG (pv 2) (aA (dD (aA cC (aA aE (aA (pv 9) (aA (dD (aA aE (aA aE aC))) aC))))) aC)))
  (aD (bY (iS PySem.F.plainAttrs_list PySem.F.slot_list_append PySem.F.type_list_append dG (pv 3) (aA (dD (aA aE (aA aE aC))) aC)))
  (aF (bY (Ll (pv 4) NTx.cl X9 R32 r5 b32 .nil aM (aA (aH Y21.G r3 rfl m21 F21.kp Y21.b .nil aM (aA (aR bK (pv 2) (Fo wD aE)) aC)) aC)))))))
  (aD (cD (oH (Yg (pv 7))) (aF (aU (aH Y86.G r5 rfl m86 F86.kp Y86.b .nil aM (aA (aH Y84.G a0 rfl m84 F84.kp Y84.b .nil aM (aA (pv 4) (aA (pv 3) aC))) (aA (pv 2) (aA (pv 1) aC)))))) bN)
  (aF (aU (aH Y87.G a0 rfl m87 F87.kp Y87.b .nil aM (aA (pv 4) (aA (pv 2) (aA (pv 3) (aA (pv 1) aC))))))))))))))))),7⟩
 refine pK (λO H'=>aS H H'/\∃m:Nat,1<=m/\m<=6/\O=[some (.ref a),some (.int (m:Int)),none,none,none,none,none,none,none,none]) (λX C=>?_) ?_
 .exists 9,a,ns,0,0,8,8,hS,a8,λc H1 s1=>?_;let c0:=Int.emod_nonneg c (show (5:Int)≠0 by decide);let c1:=Int.emod_lt_of_pos c (show (0:Int) < 5 by decide);obtain⟨m,hm⟩:∃m:Nat,2+c % 5=(m:Int):=⟨(2+c % 5).toNat,6⟩
  exists _,9,8,(show (0:Int) < 5 by decide),_,9,8,C _ _ ⟨s1,m,6,6,by rw[<- hm];rfl⟩
 rintro bi H1 ⟨s1,m,w,m84,rfl⟩;exists 9,9,a,ns,m,8,s1.seq hS,a8,w,m84,λt r b us ys ds ss H2 s2 nr nb ag et M as tp ah=>?_;exists t,9,SqT.of et,8,_,9,_,9,8,7;exists 9,9,(m:Int),r,us,ds,8,6,6,SqL.of M.er,M.R,λd hd=>(M.pt d hd).ok,6,λn ln H3 s3 a1 nt=>?_;let lr:ln≠r:=λz=>by rw[z,M.er] at a1;cases a1
 let lb:ln≠b:=λz=>by rw[z,M.eb] at a1;cases a1
 let ai:=s1.trans (s2.trans s3);let N3:NSt Z.c_Net Z.K H3 n ln r b us ys m ds ss:=⟨M.same s3,nt,ah,tp,6⟩
 let D:=M.pt;let pt:∀d∈ds,cO (m:Int) d.2.1 d.2.2.1:=λd hd=>(D d hd).pt;let hz:∀d∈ds,LfB 0 d.2.2.2:=λd hd=>(D d hd).lf;let aj:=ai.seq hS;clear M nt s1 s2 s3 ai hS a1 et
 try dsimp only
 refine pK (λO H'=>aS H3 H'/\∃I:Option V,O=[some (.ref a),some (.int (m:Int)),some (.ref r),some (.ref b),some (.ref n),I,none,none,none,none]) (λX C=>?_) ?_
 .exists 9,9,9,a,ns,2,2,8,8,aj,a8,λc H4 s4=>?_;exists r,b,us,ys,c,m,ds,ss,8,N3.rs.same s4,ah,as,λL xs H5 s5 nL eL lx all=>?_;exists L,8,⟨_,SqL.of eL⟩,7;refine eX (xs:=xs) (λi σ H'=>aS H5 H'/\∃I:Option V,σ=[some (.ref a),some (.int (m:Int)),some (.ref r),some (.ref b),some (.ref n),I,none,none,none,none]) ⟨aS.refl _,none,8⟩ (λi σ H' _ h=>SqL.of (h.1 _ _ eL)) ?_ ?_
  .rintro i y σ H6 hy ⟨J,I,rfl⟩;let⟨v,rfl,sI⟩:=all y (mem_of_getElem? hy);let N6:=N3.same (s4.trans (s5.trans J));exists 9,9,7;refine qd3 N6.nt D w m84 N6.l24 (sI.same J) λa' H7 N e7=>?_;refine Cg (od:=none) ⟨e7,λdx e=>by cases e⟩ kP rfl λH8 s8=>⟨9,L2.ifF rfl ⟨J.trans (N.trans s8),9⟩⟩
  .rintro σ H6 ⟨J,I,rfl⟩;exact C _ _ ⟨s4.trans (s5.trans J),I,8⟩
 rintro bj H4 ⟨s4,I,rfl⟩;let N4:=N3.same s4;clear s4 N3 aj;exists 9,9,r,us,m,ds,8,SqL.of N4.rs.er,N4.rs.R,pt,w,6,N4.l24,hz,λl H5 s5 nl el=>?_;let N5:=N4.same s5;let au:l≠r:=λz=>by rw[z,N4.rs.er] at nl;cases nl
 let av:l≠b:=λz=>by rw[z,N4.rs.eb] at nl;cases nl
 let aw:l≠ln:=λz=>by
  let⟨_,ts,e,_⟩:=N4.nt;rw[z,e] at nl;cases nl
 clear N4 s5 nl
 try dsimp only
 refine pK (λO H'=>aS H5 H'/\∃z7:V,O=[some (.ref a),some (.int (m:Int)),some (.ref r),some (.ref b),some (.ref n),I,some (.ref l),some z7,none,none]/\(rgH ds=[]->z7=.non)/\(rgH ds≠[]->∃t,z7=.ref t)) (λX C=>?_) ?_
 .exists 9,9,r,us,m,ds,8,SqL.of N5.rs.er,N5.rs.R,pt,6,N5.l24,hz,λu H6 J=>C _ _ ⟨J,9,λ_=>rfl,λz=>absurd u z⟩,λc rr u t z p H6 J _ _ _ _=>C _ _ ⟨J,9,λz=>absurd (u.symm.trans z) ⋯,λ_=>⟨t,8⟩⟩
 rintro bn H6 ⟨J,z7,rfl,zn,zr⟩;let N6:=N5.same J;let a3:=J _ _ el;clear N5 J el;let a4:∀{H':Hp}{f g:vk}{es:List RD}{j:List Mq.Q2},NSt Z.c_Net Z.K H' n ln r b f g m es j->rgH es=[]->cZ m es=[]->Mi Z.c_Net Z.K [.ref n,.ref r,.ref b,.int (m:Int)] H' Q E0:=λ{H' f g es j} h u T=>⟨n,ln,r,b,f,g,m,es,j,8,h.nt,SqL.of h.rs.er,h.rs.R,SqL.of h.rs.eb,h.rs.F,h.rs.l,λs hs=>(h.rs.dn s hs).mono ∅,h.sv,h.rs.pt,w,m84,h.l24,h.tp,u,T,λax _=>q ax⟩
 by_cases all:rgH ds=[]/\cZ m ds=[]
 .let⟨u,T⟩:=all
  cases zn u
  exists 9,zl9 0,λe hE=>?_;let⟨H7,A,N,e7⟩:=nw hE (.lst []);rw[A];refine xK (ns:=cZ m ds) (SqL.of (N _ _ a3)) (SqL.of e7) ⟨9,7⟩;refine L2.ifT (by rw[T];rfl) ?_;exists 9,9,L2.ifT rfl ?_;exists 9,9,9,9,a4 (N6.same N) u T
 let ak:Bad m ds:=λu T=>all ⟨u,T⟩
 try dsimp only
 refine pK (λO H'=>aS H6 H'/\O=[some (.ref a),some (.int (m:Int)),some (.ref r),some (.ref b),some (.ref n),I,some (.ref l),some z7,none,none]) (λX C=>?_) ?_
 .exists 9,zl9 0,λe hE=>?_;let⟨H7,A,N,e7⟩:=nw hE (.lst []);rw[A];refine xK (ns:=cZ m ds) (SqL.of (N _ _ a3)) (SqL.of e7) ⟨9,7⟩
  by_cases T:cZ m ds=[]
  .refine L2.ifT (by rw[T];rfl) ?_;let⟨t,rfl⟩:=zr λu=>all ⟨u,T⟩;exists 9,9,L2.ifF rfl (C _ _ ⟨N,8⟩)
  .exact L2.ifF (by cases hx:cZ m ds with | nil=>exact absurd hx T | cons y ys=>rfl) (C _ _ ⟨N,8⟩)
 rintro bo H7 ⟨N,rfl⟩;let N7:=N6.same N;let al:=N _ _ a3;clear N6 N a3 all
 try dsimp only
 refine pK (λO H'=>aS H7 H'/\∃z8:Option V,O=[some (.ref a),some (.int (m:Int)),some (.ref r),some (.ref b),some (.ref n),I,some (.ref l),some z7,z8,none]) (λX C=>?_) ?_
 .exists 9,9,zl9 3,λW hW=>?_;let⟨H8,A,sW,eW⟩:=nw hW (.lst [.ref b,.non,.ref b]);rw[A];exists W,8,⟨_,SqL.of eW⟩,7;refine eX (xs:=[.ref b,.non,.ref b]) (λi σ H'=>aS H8 H'/\∃z8:Option V,σ=[some (.ref a),some (.int (m:Int)),some (.ref r),some (.ref b),some (.ref n),I,some (.ref l),some z7,z8,none]) ⟨aS.refl _,none,8⟩ (λi σ H' _ h=>SqL.of (h.1 _ _ eW)) ?_ ?_
  .rintro i y σ H9 hy ⟨s9,z8,rfl⟩;let ay:y=.ref b\/y=.non:=by
    match i,hy with
    |0,e=>exact .inl (Option.some.inj e).symm
    |1,e=>exact .inr (Option.some.inj e).symm
    |2,e=>exact .inl (Option.some.inj e).symm
   exists 9,9,7;refine Of (N7.same (sW.trans s9)).nt D w m84 N7.l24 ?_ ak λy' az a5 kp=>?_
   .rcases ay with rfl | rfl
    .exact .inr ⟨b,8,(N7.same (sW.trans s9)).sI⟩
    .exact .inl rfl
   let a2:=N7.same (sW.trans (s9.trans a5));exists 9,9,y',r,us,m,ds,8,SqL.of a2.rs.er,a2.rs.R,D,w,m84,N7.l24,kp,ak,λH11 b0=>⟨9,L2.ifF rfl ⟨s9.trans (a5.trans b0),9⟩⟩
  .rintro σ H9 ⟨s9,z8,rfl⟩;exact C _ _ ⟨sW.trans s9,z8,8⟩
 rintro bp H8 ⟨s8,z8,rfl⟩;let N8:=N7.same s8;let am:=s8 _ _ al;let bh:=Zu m w ds;clear N7 s8 al
 try dsimp only
 refine pK (λO H'=>∃f g j z9,O=[some (.ref a),some (.int (m:Int)),some (.ref r),some (.ref b),some (.ref n),I,some (.ref l),some z7,z8,z9]/\NSt Z.c_Net Z.K H' n ln r b f g m (ds++pcF (cZ m ds)) j/\rgH (ds++pcF (cZ m ds))=rgH ds) (λX C=>?_) ?_
 .exists 9,l,8,⟨_,SqL.of am⟩,7;refine eX (xs:=(cZ m ds).map V.int) (λi σ H'=>H' l=some (.lst ((cZ m ds).map V.int))/\∃f g j z9,σ=[some (.ref a),some (.int (m:Int)),some (.ref r),some (.ref b),some (.ref n),I,some (.ref l),some z7,z8,z9]/\NSt Z.c_Net Z.K H' n ln r b f g m (ds++pcF ((cZ m ds).take i)) j/\rgH (ds++pcF ((cZ m ds).take i))=rgH ds) ⟨am,us,ys,ss,none,8,by simpa[pcF] using N8,by simp[pcF]⟩ (λi σ H' _ h=>SqL.of h.1) ?_ ?_
  rotate_left
  .rintro σ HA ⟨_,f,g,j,z9,rfl,B,U⟩;rw[length_map,take_length] at B U;exact C _ _ ⟨f,g,j,z9,8,B,U⟩
  rintro i y σ HA hy ⟨an,f,g,j,z9,rfl,B,U⟩;obtain⟨p,hp,rfl⟩:∃p,(cZ m ds)[i]?=some p/\y=.int p:=by
   rw[getElem?_map] at hy
   cases h:(cZ m ds)[i]? with
   |none=>rw[h] at hy;cases hy
   |some p=>rw[h] at hy;cases hy;exists p,8,8
  let hi:=(wk.mp hp).1;let⟨Y,rfl,pm⟩:=Zr (mem_of_getElem? hp);let tk:(cZ m ds).take (i+1)=(cZ m ds).take i++[(Y:Int)]:=by rw[take_add_one,hp];rfl
  let pk:ds++pcF ((cZ m ds).take (i+1))=(ds++pcF ((cZ m ds).take i))++[(.pc,0,(Y:Int),(1,2))]:=by rw[tk];unfold pcF;rw[map_append,List.append_assoc];rfl
  rw[pk];let b7:(ds++pcF ((cZ m ds).take i)).length<=22:=by
   rw[wq];unfold pcF;rw[length_map,length_take];lia
  generalize ds++pcF ((cZ m ds).take i)=es at B U b7 ⊢;let lA:=B.rs.R.length;let lB:=B.rs.F.length;let lS:=B.rs.l;let a9:=r12 (m:=m) (p:=(Y:Int)) w () ();let b8:=qn8 B.rs.l (λe he=>(B.rs.p e he).e) a9.pt (λz=>by cases z) B.sv;let ba:=Yw es 0 (Y:Int) 2;let bb:rgH (es++[(.pc,0,(Y:Int),(1,2))])=rgH ds:=(qp8 (λz=>by cases z)).trans U;let PP:∀e∈(es++[((.pc,0,(Y:Int),(1,2)):RD)]).zip (j++[(0,1)]),Xu m NP e:=λe he=>by
   rw[yF _ _ _ _ B.rs.l.symm] at he;rcases mem_append.mp he with z | z
   .exact B.rs.p e z
   .rw[mem_singleton.mp z];exists a9,dn0.mono ∅,8
  let bc:=B.tp;exists 9,.inl ⟨8,_,SqL.of B.rs.er⟩,9,zl9 2,λz hz=>?_;let⟨HB,A,sz,ez⟩:=nw hz (.tup [.int 1,.int 2]);rw[A];exists zl9 4,λt ht=>?_;let⟨HC,A,st,et⟩:=nw ht (.tup [.str "piece",.int 0,.int (Y:Int),.ref z]);rw[A];let sC:=sz.trans st;let NC:=B.same sC;let P:=NC.rs.er;exists r,f,.ref t,8,8,P,aZ (),7;let TC:SqT Z.K HC t [.str "piece",.int 0,.int (Y:Int),.ref z]:=SqT.of et;let FC:Fq Z.K HC z (1,2):=Fq.of (p:=(1,2)) (st _ _ ez);let aa:Rts Z.K (upd HC r (.lst (f++[.ref t]))) (f++[.ref t]) (es++[(.pc,0,(Y:Int),(1,2))]):=Rts.upd P (NC.rs.R.app (.cons (k:=.pc) TC FC .nil));let xD:cQ r HC (upd HC r (.lst (f++[.ref t]))):=λb o h ne=>by rw[aQ ne];exact h
  let ac:=NC.nt.x P xD lr;let ad:upd HC r (.lst (f++[.ref t])) l=some (.lst ((cZ m ds).map V.int)):=xD _ _ (sC _ _ an) au;let a6:upd HC r (.lst (f++[.ref t])) b=some (.lst g):=xD _ _ NC.rs.eb (Ne.symm ag);let FD:=NC.rs.F.upd (o:=.lst (f++[.ref t])) P;let TD:=xD.seqT P TC;let zD:=xD.seqT P FC;let ae:upd HC r (.lst (f++[.ref t])) r=some (.lst (f++[.ref t])):=aB;clear xD TC FC et ez P sC st sz NC B an;generalize upd HC r (.lst (f++[.ref t]))=HD at aa ac ad a6 FD TD zD ae ⊢;exists 9,.inl ⟨8,_,SqL.of a6⟩,zl9 2,λz0 be=>?_;let⟨HE,A,s0,e0⟩:=nw be (.tup [.int 0,.int 1]);rw[A];let S:=s0 _ _ a6;exists b,g,.ref z0,8,8,S,aZ (),7;let xF:cQ b HE (upd HE b (.lst (g++[.ref z0]))):=λc o h ne=>by rw[aQ ne];exact h
  let a7:=(ac.same s0).x S xF lb;let ao:upd HE b (.lst (g++[.ref z0])) l=some (.lst ((cZ m ds).map V.int)):=xF _ _ (s0 _ _ ad) av;let af:upd HE b (.lst (g++[.ref z0])) r=some (.lst (f++[.ref t])):=xF _ _ (s0 _ _ ae) ag;let ap:upd HE b (.lst (g++[.ref z0])) b=some (.lst (g++[.ref z0])):=aB;let RF:=Rts.upd (o:=.lst (g++[.ref z0])) S (aa.same s0);let FF:=((FD.same s0).app (.cons (Fq.of (p:=(0,1)) e0) .nil)).upd (o:=.lst (g++[.ref z0])) S;let TF:=xF.seqT S (s0.seqT TD);let zF:=xF.seqT S (s0.seqT zD);clear xF e0 S s0 ac ad a6 FD TD zD ae aa;generalize upd HE b (.lst (g++[.ref z0]))=HF at a7 ao af ap RF FF TF zF ⊢;let⟨dn,hn⟩:=a7.ob;exists 9,n,dn,9,hn,eE _ _ ∅ ∅,9,1,8,r,_,_,.ref t,8,8,SqL.of af,Ft f (.ref t),7;exists t,_,_,_,9,TF,.pc,8,λy HG sG ny rw=>?_;exists n,ln,y,z,(m:Int),_,.pc,0,(Y:Int),(1,2),8,a7.same sG,rw,sG.fq zF,a9.ok,6,λHH xH bf=>?_;let⟨ts,aq,_⟩:=(a7.same sG).ls;exists xH _ _ (sG _ _ ao) aw,f++[.ref t],g++[.ref z0],j++[(0,1)],9,⟨⟨xH _ _ (sG _ _ af) (Ne.symm lr),xH _ _ (sG _ _ ap) (Ne.symm lb),cQ.rts aq xH (RF.same sG),cQ.fqsL aq xH (FF.same sG),by rw[wq,wq,lS];rfl,PP⟩,bf,b8,by rw[ba];exact bc,by rw[wq];simp only[length_cons,length_nil];lia⟩,bb
 rintro br H9 ⟨f,g,j,z9,rfl,N9,U⟩;let bg:∀d∈ds++pcF (cZ m ds),cO (m:Int) d.2.1 d.2.2.1:=λd hd=>(N9.rs.pt d hd).pt;let ar:=Vi w pt bg;generalize ds++pcF (cZ m ds)=es at N9 ar U ⊢
 by_cases u:rgH ds=[]
 .cases zn u
  exists 9,9,L2.ifF rfl ?_;exists 9,9,9,9,a4 N9 (U.trans u) ar
 .let⟨t,rfl⟩:=zr u;exists 9,9,L2.ifT rfl ?_;exists 9,9,7;refine Of N9.nt N9.rs.pt w m84 N9.l24 (.inr ⟨b,8,N9.sI⟩) (λe=>absurd (U.symm.trans e) u) λy' az a5 kp=>?_;let a2:=N9.same a5;exists 9,9,y',r,f,m,es,8,SqL.of a2.rs.er,a2.rs.R,N9.rs.pt,w,m84,N9.l24,kp,(λe=>absurd (U.symm.trans e) u),λH11 _=>q H11
end
theorem qq0(c:CZ){a:Addr}(b:c.mg "law"=some (.ref a))(h:GZ c):
  ∃fd:FuncData,(∀(s:Shared)(v:Value),BindsTo s fd ⟨[v],[]⟩ [("_law_script",v)])/\∀base:Heap,c.K.In base->base.Ns mainGlobals c.mg->aK c.P c.w c.K c.mg base CX0 12 a fd ["_law_script"] (Fu c.K):=by
 let e:=b.symm.trans h.m89
 cases e
 exists W.fnOf "law" "law" (fC Ey) (dA Ey) (aI Ey) .none c.kV89 c.dc89 c.pm89 c.an89 c.cd89 c.ct89,λs v=>.of_eq rfl,λbase _ _=>?_
 refine Classical.byContradiction λn=>?_
 let e:=Classical.epsilon_spec (p:=λx:CZ×Heap=>GZ x.1/\¬OZ x.1 x.2) ⟨(c,base),h,n⟩
 let i:GZ Z:=by unfold Z;exact e.1
 let j:=@Rlaw i
 unfold FZ Z ZB at j;exact e.2 j
theorem qz8{l:W.OpenLaw}{XP:(Str->Option Value)->Heap->Prop}{K:Params->Frag}(j:l.most=some 63)(g:d.params.defaults=[])(m:∀(w:World)(h:Heap),YP w h->(K w.params).In h)(F:∀(w:World)(mg:Str->Option Value)(i:Addr)(h:Heap),(K w.params).In h->h.Ns mainGlobals mg->mg d.name=some (.ref i)->
   ∃fd:FuncData,(∀(s:Shared)(u:Value),BindsTo s fd ⟨[u],[]⟩ [("_law_script",u)])/\∀base:Heap,(K w.params).In base->base.Ns mainGlobals mg->aK l.prog w (K w.params) mg base CX0 12 i fd ["_law_script"] (Fu (K w.params))):
  W.WalkO q loose XP YP l.row.toRowW d [] (λf vs=>PySem.call f vs):=
 L2.Zi (n:=63) (k:=12) (x:="_law_script") (CX:=λ_=>CX0) (sp:=λw=>Fu (K w.params)) j ∅ g ⟨8,∅,∅⟩ m F (λ_ _ a b c _ e=>⟨a,b,8,e,c,λ_=>rfl⟩) λ_ _ _ _ _ z=>z
end K49
local macro_rules | `(tactic| walk_at "F9")=>`(tactic| (refine' L2.vE ?l9 ?c9 ?kk9;(case l9=>k_is);(case c9=>k_is);(case kk9=>show _=_;k_is)))
namespace PySem.W.Fast
noncomputable section
def Q:=Nat
local macro_rules|`(command|universe $_)=>return Lean.mkNullNode (← ((((List.range 1046).map λi=>s!"o_{i}")++"env_41 heap_1046 heap_39 heap_46 sts_101 sts_1013 sts_116 sts_131 sts_146 sts_161 sts_176 sts_191 sts_206 sts_228 sts_250 sts_272 sts_325 sts_409 sts_451 sts_49 sts_494 sts_537 sts_594 sts_603 sts_673 sts_71 sts_748 sts_792 sts_850 sts_86 sts_929 tree_100 tree_1012 tree_1045 tree_115 tree_130 tree_145 tree_160 tree_175 tree_190 tree_205 tree_227 tree_249 tree_271 tree_324 tree_408 tree_450 tree_47 tree_493 tree_536 tree_593 tree_602 tree_672 tree_70 tree_747 tree_791 tree_849 tree_85 tree_928 view_39".splitOn).map (Lean.Name.str `PySem.Challenge.cw_ohmyard_k49_refused_waste_holds)++[`PySem.Challenge.pw_ohmyard_k49_refused_waste]).toArray.mapM λn=>`(command|def $(Lean.mkIdent (.mkSimple s!"tw{n.hash}")):ident:=Q))
universe u
end
end PySem.W.Fast
open PySem PySem.W PyProof.Rows
set_option maxRecDepth 100000 in
set_option maxHeartbeats 0 in
theorem PySem.Challenge.cw_ohmyard_k49_refused_waste_holds : PySem.Challenge.rw_ohmyard_k49_refused_waste.Holds := by
  w_on; o_law; k_head; (case hw => w_witness2)
  k_fill
  refine K49.qz8 (l := PySem.Challenge.rw_ohmyard_k49_refused_waste) rfl rfl (fun w h Y => PySem.W.kIn_of Y) ?F
  case F =>
    intro w mg fa h KX G hmg
    refine' K49.qq0 {P:=PySem.Challenge.rw_ohmyard_k49_refused_waste.prog,w:=w,mg:=mg,K:=PySem.Challenge.cw_ohmyard_k49_refused_waste_holds.heap_39 w.params,..} hmg (.mk ?_ ?_ ?_ ?_ ?_ ?_ ?_ ?_ ?_ ?_ ?_ ?_ ?_ ?_ ?_ ?_ ?_ ?_ ?_ ?_ ?_ ?_ ?_ ?_ ?_ ?_ ?_ ?_ ?_ ?_ ?_ ?_ ?_ ?_ ?_ ?_ ?_ ?_ ?_ ?_ ?_ ?_ ?_ ?_ ?_ ?_ ?_ ?_ ?_ ?_ ?_ ?_ ?_ ?_ ?_ ?_ ?_ ?_ ?_ ?_ ?_ ?_ ?_ ?_ ?_ ?_ ?_ ?_ ?_ ?_ ?_ ?_ ?_ ?_ ?_ ?_ ?_ ?_ ?_ ?_ ?_ ?_ ?_ ?_ ?_ ?_ ?_ ?_ ?_ ?_ ?_ ?_ ?_ ?_ ?_ ?_ ?_ ?_ ?_ ?_ ?_ ?_ ?_ ?_ ?_ ?_ ?_ ?_ ?_ ?_ ?_ ?_ ?_ ?_ ?_ ?_ ?_ ?_ ?_ ?_ ?_ ?_ ?_ ?_ ?_ ?_ ?_ ?_ ?_ ?_ ?_ ?_ ?_ ?_ ?_ ?_ ?_ ?_ ?_ ?_ ?_ ?_ ?_ ?_ ?_ ?_ ?_ ?_ ?_ ?_ ?_ ?_ ?_ ?_ ?_ ?_ ?_ ?_ ?_ ?_ ?_ ?_ ?_ ?_ ?_ ?_ ?_ ?_ ?_ ?_ ?_ ?_ ?_ ?_ ?_ ?_ ?_ ?_ ?_ ?_ ?_ ?_ ?_ ?_ ?_ ?_ ?_ ?_ ?_ ?_ ?_ ?_ ?_ ?_ ?_ ?_ ?_ ?_ ?_ ?_ ?_ ?_ ?_ ?_ ?_ ?_ ?_ ?_ ?_ ?_ ?_ ?_ ?_ ?_ ?_ ?_ ?_ ?_ ?_ ?_ ?_ ?_ ?_ ?_ ?_ ?_ ?_ ?_ ?_ ?_ ?_ ?_ ?_ ?_ ?_ ?_ ?_ ?_ ?_ ?_ ?_ ?_ ?_ ?_ ?_ ?_ ?_ ?_ ?_ ?_ ?_ ?_ ?_ ?_ ?_ ?_ ?_ ?_ ?_ ?_ ?_ ?_ ?_ ?_ ?_ ⟨(mg_none_of KX G ?_),(mg_none_of KX G ?_),(mg_none_of KX G ?_),(mg_none_of KX G ?_)⟩ ⟨L2.jV ⟨?_,?_,?_,?_⟩ ⟨?_,?_,?_,?_⟩ ⟨?_,?_,?_,?_⟩,L2.jV ?_ ?_ ?_,L2.jV ?_ ?_ ?_,L2.jV ?_ ?_ ?_,L2.jV ?_ ?_ ?_,?_,?_,L2.jV ?_ ?_ ?_,L2.jV ?_ ?_ ?_,L2.jV (L2.jV (L2.rN _ _) ?_ ?_) (L2.jV ?_ (L2.rN _ _) ?_) (L2.jV ?_ ?_ (L2.rN _ _)),(mg_of KX G ?_),L2.jV (mg_of KX G ?_) (mg_of KX G ?_) (mg_of KX G ?_)⟩ (L2.Fq.mod ?_) (L2.Fq.mod ?_) ⟨⟨?_,?_,?_,?_⟩,?_,?_,?_,?_,?_,?_,(mg_of KX G ?_)⟩ ⟨⟨?_,?_,?_,?_⟩,?_,?_,?_,(mg_of KX G ?_)⟩ (K49.qj5 (mg_of KX G ?_) (mg_of KX G ?_) (mg_of KX G ?_)) ⟨_,(mg_of KX G ?_),?_,?_,?_⟩ ⟨?_,?_,?_,?_,?_⟩ ⟨⟨_,_,_,_,_,_,_,_,_,_,_,_,_,_,?_⟩,⟨_,_,_,_,_,_,_,_,_,_,_,_,_,_,_,?_⟩,?_,?_,?_⟩ ⟨⟨_,_,_,_,_,_,_,_,_,_,_,_,_,_,?_⟩,⟨_,_,_,_,_,_,_,_,_,_,_,_,_,_,_,?_⟩,?_,?_,?_⟩ ⟨?_,?_,?_⟩ ⟨?_,?_⟩ ⟨?_,?_⟩ ⟨?_,?_⟩ (L2.jV (⟨?_,?_,?_,?_⟩) (⟨?_,?_,?_,?_⟩) (⟨?_,?_,?_,?_⟩)) ⟨?_,?_,?_,?_⟩ ⟨?_,?_,?_,?_⟩)
    any_goals first|(refine mg_of KX G ?_;k_is)|(refine mg_none_of KX G ?_;k_is)
    all_goals try dsimp only
    any_goals first|k_is|walk_at "F9"|kit_is|kts_exm|k_exc|(unfold L2.qd4;k_exc)|(show _=_;k_is)|rfl|decide
    any_goals first|k_is|walk_at "F9"|kit_is|kts_exm|k_exc|(unfold L2.qd4;k_exc)|(show _=_;k_is)|rfl|decide
