import PyProof.Rows.All
import Wide.All
import OpenK.AllK
import Wide.FinOn
import Lean
import PyProof.EqAt
import PyProof.EqKinds
import PyProof.TupleCall
import PyProof.Rows.StrInSeq3
import PyProof.Rows.SeqMore2
import PyProof.Rows.StrSplit
import PyProof.Rows.StrItems
import PyProof.Cells
import PyProof.SumWalkG
import PyProof.EnumStmt
import PyProof.EnumMake
import PyProof.InstStoreFacts
import PyProof.StrCalls2
import KE.KDictList
import PyProof.StrBlock2
import PySem.Challenge.RW_ohmyard_k84_parts_refused
set_option Elab.async false
set_option linter.all false
set_option maxRecDepth 100000
namespace L2
open PySem PySem.Spec PyProof.Rows
abbrev Key:=Sum Int Str
def keyIs:Key→Value→Bool
 | .inl k,v=>Value.isInt k v
 | .inr x,v=>Value.isStrOf x v
def keyH (w:World):Key→Int
 | .inl k=>hashInt k
 | .inr x=>hashStr w x
theorem keyIs_shape:∀{k:Key} {v:Value},keyIs k v=true→(∃i t,k=Sum.inl i∧v=Value.int i t)∨(∃x t,k=Sum.inr x∧v=Value.str x t)
 | .inl i,v,h=>by
  obtain⟨t,e⟩:=Value.isInt_shape (k:=i) (v:=v) h
  exact .inl ⟨i,t,rfl,e⟩
 | .inr x,v,h=>by
  obtain⟨t,e⟩:=Value.isStrOf_shape (x:=x) (v:=v) h
  exact .inr ⟨x,t,rfl,e⟩
theorem keyIs_int (i:Int)(t:Tok):keyIs (.inl i) (.int i t)=true:=by simp[keyIs,Value.isInt]
theorem keyIs_str (x:Str)(t:Tok):keyIs (.inr x) (.str x t)=true:=by simp[keyIs,Value.isStrOf]
theorem key_ll (a b:Int):decide ((Sum.inl a:Key)=Sum.inl b)=(a == b):=by
 by_cases e:a=b
 ·subst e;simp
 ·have h:¬(Sum.inl a:Key)=Sum.inl b:=fun q=>e (Sum.inl.inj q)
  rw[decide_eq_false h]
  exact(beq_eq_false_iff_ne.mpr e).symm
theorem key_rr (a b:Str):decide ((Sum.inr a:Key)=Sum.inr b)=decide (a=b):=by
 by_cases e:a=b
 ·subst e;simp
 ·have h:¬(Sum.inr a:Key)=Sum.inr b:=fun q=>e (Sum.inr.inj q)
  rw[decide_eq_false h,decide_eq_false e]
theorem key_lr (a:Int)(b:Str):decide ((Sum.inl a:Key)=Sum.inr b)=false:=decide_eq_false (fun q=>nomatch q)
theorem key_rl (a:Str)(b:Int):decide ((Sum.inr a:Key)=Sum.inl b)=false:=decide_eq_false (fun q=>nomatch q)
def mixKind (prog:Program)(w:World):PySem.KeyKind prog w Key where
 is:=keyIs
 hash:=keyH w
 inj:=fun v a b ha hb=>by
  rcases keyIs_shape ha with ⟨i,t,rfl,rfl⟩ | ⟨x,t,rfl,rfl⟩
  ·rcases keyIs_shape hb with ⟨j,u,rfl,e⟩ | ⟨y,u,rfl,e⟩
   ·injection e with e1 _;rw[e1]
   ·exact nomatch e
  ·rcases keyIs_shape hb with ⟨j,u,rfl,e⟩ | ⟨y,u,rfl,e⟩
   ·exact nomatch e
   ·injection e with e1 _;rw[e1]
 byValue:=fun k v h=>by
  rcases keyIs_shape h with ⟨i,t,rfl,rfl⟩ | ⟨x,t,rfl,rfl⟩<;>rfl
 pyHash:=fun hv h=>by
  rcases keyIs_shape hv with ⟨i,t,rfl,rfl⟩ | ⟨x,t,rfl,rfl⟩
  ·exact wpAny_pyHash_int h
  ·exact wpAny_pyHash_str h
 eqBool:=fun hu hv h=>by
  rcases keyIs_shape hu with ⟨i,t,rfl,rfl⟩ | ⟨x,t,rfl,rfl⟩
  ·rcases keyIs_shape hv with ⟨j,u,rfl,rfl⟩ | ⟨y,u,rfl,rfl⟩
   ·rw[key_ll] at h;exact wpAny_eqBool_int h
   ·rw[key_lr] at h;exact SeqAt.EqAt.int_str i t y u _ _ _ _ h
  ·rcases keyIs_shape hv with ⟨j,u,rfl,rfl⟩ | ⟨y,u,rfl,rfl⟩
   ·rw[key_rl] at h;exact SeqAt.EqAt.str_int x t j u _ _ _ _ h
   ·rw[key_rr] at h;exact wpAny_eqBool_str h
 «strs»:=fun k x t v h=>by
  rcases keyIs_shape h with ⟨i,u,rfl,e⟩ | ⟨y,u,rfl,e⟩
  ·exact nomatch e
  ·injection e with e1 _
   subst e1
   cases v<;>rfl
theorem mixKind_int (prog:Program)(w:World)(i:Int)(t:Tok):(mixKind prog w).is (.inl i) (.int i t)=true:=keyIs_int i t
theorem mixKind_str (prog:Program)(w:World)(x:Str)(t:Tok):(mixKind prog w).is (.inr x) (.str x t)=true:=keyIs_str x t
inductive V where
 |non | bl (b:Bool) | int (i:Int) | str (x:Str) | byt (b:Array UInt8) | flt (b:UInt64) | ref (a:Addr) | ty (n:String)
 deriving DecidableEq
def RelV:V→Value→Prop
 | .non,u=>u=Value.none
 | .bl b,u=>u=Value.bool b
 | .int i,u=>∃t,u=Value.int i t
 | .str x,u=>∃t,u=Value.str x t
 | .byt b,u=>∃t,u=Value.bytes b t
 | .flt b,u=>∃t,u=Value.float b t
 | .ref a,u=>u=Value.ref a
 | .ty n,u=>u=Value.type n
abbrev Vals:List V→List Value→Prop:=Paired RelV
theorem Vals.length {xs:List V}{us:List Value}(r:Vals xs us):xs.length=us.length:=Paired.length r
theorem Vals.get:∀{xs:List V} {us:List Value} {i:Nat} {x:V},Vals xs us→xs[i]?=some x→∃u,us[i]?=some u∧RelV x u
 |_,_,_,_,.nil,e=>by simp at e
 |_,_,0,_,.cons r _,e=>by simp at e;subst e;exact⟨_,rfl,r⟩
 |_,_,i+1,x,.cons _ t,e=>by
  obtain⟨u,h1,h2⟩:=Vals.get (i:=i) (x:=x) t (by simpa using e)
  exact⟨u,by simpa using h1,h2⟩
theorem Vals.append:∀{xs ys:List V} {us ws:List Value},Vals xs us→Vals ys ws→Vals (xs++ys) (us++ws)
 |_,_,_,_,.nil,s=>s
 |_,_,_,_,.cons r t,s=>.cons r (Vals.append t s)
theorem Vals.take:∀{xs:List V} {us:List Value} (n:Nat),Vals xs us→Vals (xs.take n) (us.take n)
 |_,_,0,_=>.nil
 |_,_,_+1,.nil=>.nil
 |_,_,n+1,.cons r t=>.cons r (Vals.take n t)
theorem Vals.drop:∀{xs:List V} {us:List Value} (n:Nat),Vals xs us→Vals (xs.drop n) (us.drop n)
 |_,_,0,r=>r
 |_,_,_+1,.nil=>.nil
 |_,_,n+1,.cons _ t=>Vals.drop n t
def RelO:Option V→Option Value→Prop
 |some v,some u=>RelV v u
 |none,none=>True
 |_,_=>False
def KV {κ:Type}:List (κ × V)→List (κ × Value)→Prop:=Paired fun (p:κ × V) (q:κ × Value)=>p.1=q.1∧RelV p.2 q.2
def kV:Key→V
 | .inl i=>.int i
 | .inr x=>.str x
inductive HO where
 |lst (xs:List V)
 |tup (xs:List V)
 |dK (kvs:List (Key × V)) | dT (kvs:List (List Key × V))
 |set (S:Int→Bool) (n:Nat)
 |ins (C dx:Addr) (fs:List (Str × V))
 |own (x:Addr)
 |xd (fs:List (Str × V))
 |met (f x:Addr)
 |rng (lo hi:Int)
 |frz (o:Obj) (u:HO)
 |tbl (ps:Array Value)
 |ext (φ:Heap→Prop)
abbrev Hp:=Addr→Option HO
def upd (H:Hp)(a:Addr)(o:HO):Hp:=fun b=>if b=a then some o else H b
theorem upd_same {H:Hp}{a:Addr}{o:HO}:upd H a o a=some o:=by unfold upd;rw[if_pos rfl]
theorem upd_ne {H:Hp}{a b:Addr}{o:HO}(h:b≠a):upd H a o b=H b:=by unfold upd;rw[if_neg h]
theorem upd_upd {H:Hp}{a:Addr}{o u:HO}:upd (upd H a o) a u=upd H a u:=by
 funext b;unfold upd;split<;>rfl
theorem ne_of {H:Hp}{a b:Addr}{o u:HO}(h:H a=some o)(h':H b=some u)(d:o≠u):a≠b:=by
 intro e;subst e;rw[h] at h';exact d (Option.some.inj h')
theorem ne_of_none {H:Hp}{a b:Addr}{o:HO}(h:H a=some o)(h':H b=none):a≠b:=by
 intro e;subst e;rw[h] at h';cases h'
section
variable (P:Program) (w:World)
def ObjOk (H:Hp)(h:Heap)(a:Addr):HO→Prop
 | .lst xs=>xs.length≤sizeLine∧∃(its:List Value) (n:Nat),Vals xs its∧h.get? a=some { cls:=.type "list",data:=.seq its.toArray n }
 | .tup xs=>xs.length≤sizeLine∧∃its:List Value,Vals xs its∧IsTup h a its.toArray
 | .dK kvs=>kvs.length≤sizeLine∧(a == sysModules)=false∧∃vs,KV kvs vs∧h.DictOf (mixKind P w) a vs
 | .dT kvs=>kvs.length≤sizeLine∧(a == sysModules)=false∧∃xs:List (List Key × Addr × Value),
   Paired (fun (p:List Key × V) (q:List Key × Addr × Value)=>p.1=q.1∧H q.2.1=some (.tup (p.1.map kV))∧RelV p.2 q.2.2) kvs xs∧
   ∃o es ep,h.get? a=some o∧o.ExactDict∧o.data=.dict es ep∧es.toList=xs.map (entryOfKey (tupleKind (mixKind P w)))∧(xs.map (·.1)).Nodup
 | .set S n=>h.SetOf (intKind P w) a S n
 | .ins C dx fs=>H dx=some (.own a)∧fs.length≤1000∧dx≠a∧h.get? a=some (PySem.W.instObj C dx)∧
   ∃mA,h.Ns1 dx mA∧(∀f,RelO (fs.lookup f) (mA f))∧PySem.Within mA (fs.map (·.1))
 | .own _=>∃o,h.get? a=some o
 | .xd fs=>∃mA,h.Ns1 a mA∧∀f,RelO (fs.lookup f) (mA f)
 | .rng lo hi=>∃t u v,h.get? a=some { cls:=.type "range",data:=.fields #[.int lo t,.int hi u,.int 1 v] }
 | .frz o u=>h.get? a=some o∧ObjOk H h a u
 | .tbl ps=>h.get? a=some { cls:=.none,data:=.fields ps }
 | .met f x=>h.get? a=some (PySem.W.methodObj (.ref f) (.ref x))
 | .ext φ=>φ h∧(∃o,h.get? a=some o)∧∀h1 h2:Heap,φ h1→(∀o,h1.get? a=some o→h2.get? a=some o)→φ h2
def HOk (H:Hp)(h:Heap):Prop:=∀a o,H a=some o→ObjOk P w H h a o
end
section
variable {P:Program} {w:World} {H H':Hp} {h h':Heap} {a:Addr} {o:HO}
theorem ObjOk.lt (x:ObjOk P w H h a o):a < h.objs.size:=by
 cases o with
 |lst xs=>obtain⟨_,_,_,_,e⟩:=x;exact Heap.lt_size e
 |tup xs=>obtain⟨_,_,_,p⟩:=x;exact p.lt
 |dK kvs=>obtain⟨_,_,_,_,o,_,_,e,_⟩:=x;exact Heap.lt_size e
 |dT kvs=>obtain⟨_,_,_,_,o,_,_,e,_⟩:=x;exact Heap.lt_size e
 |set S n=>obtain⟨o,_,_,_,e,_⟩:=x;exact Heap.lt_size e
 |ins C dx fs=>obtain⟨_,_,_,e,_⟩:=x;exact Heap.lt_size e
 |own y=>obtain⟨_,e⟩:=x;exact Heap.lt_size e
 |xd fs=>obtain⟨_,⟨_,_,_,e,_⟩,_⟩:=x;exact Heap.lt_size e
 |rng lo hi=>obtain⟨_,_,_,e⟩:=x;exact Heap.lt_size e
 |frz ob u=>obtain⟨e,_⟩:=x;exact Heap.lt_size e
 |tbl ps=>exact Heap.lt_size (show h.get? a=some _ from x)
 |met f y=>exact Heap.lt_size (show h.get? a=some _ from x)
 |ext φ=>obtain⟨_,⟨_,e⟩,_⟩:=x;exact Heap.lt_size e
theorem Paired.mapP {α β:Type}{F G:α→β→Prop}:∀{l₁:List α} {l₂:List β},Paired F l₁ l₂→(∀a b,F a b→G a b)→Paired G l₁ l₂
 |_,_,.nil,_=>.nil
 |_,_,.cons r t,f=>.cons (f _ _ r) (Paired.mapP t f)
theorem ObjOk.stay (x:ObjOk P w H h a o)(k:∀b u,(b=a∨H b=some (.own a))→h.get? b=some u→h'.get? b=some u)(ho:∀b,H b=some (.own a)→H' b=some (.own a))(ht:∀b xs,H b=some (.tup xs)→H' b=some (.tup xs)):ObjOk P w H' h' a o:=by
 induction o with
 |lst xs=>obtain⟨z,its,n,r,e⟩:=x;exact⟨z,its,n,r,k _ _ (.inl rfl) e⟩
 |tup xs=>obtain⟨z,its,r,ob,e,c⟩:=x;exact⟨z,its,r,ob,k _ _ (.inl rfl) e,c⟩
 |dK kvs=>obtain⟨z,y,vs,r,ob,es,ep,e,c⟩:=x;exact⟨z,y,vs,r,ob,es,ep,k _ _ (.inl rfl) e,c⟩
 |dT kvs=>
  obtain⟨z,y,xs,r,ob,es,ep,e,c⟩:=x
  exact⟨z,y,xs,Paired.mapP r fun p q z=>⟨z.1,ht _ _ z.2.1,z.2.2⟩,ob,es,ep,k _ _ (.inl rfl) e,c⟩
 |set S n=>obtain⟨ob,es,ep,t,e,c⟩:=x;exact⟨ob,es,ep,t,k _ _ (.inl rfl) e,c⟩
 |ins C dx fs=>
  obtain⟨d,z,ne,e,mA,⟨od,es,ep,e2,c⟩,r⟩:=x
  exact⟨ho _ d,z,ne,k _ _ (.inl rfl) e,mA,⟨od,es,ep,k _ _ (.inr d) e2,c⟩,r⟩
 |own y=>obtain⟨ob,e⟩:=x;exact⟨ob,k _ _ (.inl rfl) e⟩
 |xd fs=>obtain⟨mA,⟨od,es,ep,e,c⟩,r⟩:=x;exact⟨mA,⟨od,es,ep,k _ _ (.inl rfl) e,c⟩,r⟩
 |rng lo hi=>obtain⟨t,u,v,e⟩:=x;exact⟨t,u,v,k _ _ (.inl rfl) e⟩
 |frz ob u ih=>obtain⟨e,q⟩:=x;exact⟨k _ _ (.inl rfl) e,ih q⟩
 |tbl ps=>
  have e:h.get? a=some { cls:=.none,data:=.fields ps }:=x
  show h'.get? a=some { cls:=.none,data:=.fields ps }
  exact k a _ (.inl rfl) e
 |met f y=>
  have e:h.get? a=some (PySem.W.methodObj (.ref f) (.ref y)):=x
  show h'.get? a=some (PySem.W.methodObj (.ref f) (.ref y))
  exact k a _ (.inl rfl) e
 |ext φ=>obtain⟨p,⟨o,e⟩,st⟩:=x;exact⟨st _ _ p fun o q=>k _ _ (.inl rfl) q,⟨o,k _ _ (.inl rfl) e⟩,st⟩
theorem HOk.lt (x:HOk P w H h)(e:H a=some o):a < h.objs.size:=(x a o e).lt
theorem HOk.fresh (x:HOk P w H h)(e:h.objs.size≤a):H a=none:=by
 cases q:H a with
 |none=>rfl
 |some u=>exact absurd (Nat.lt_of_lt_of_le (x.lt q) e) (Nat.lt_irrefl _)
theorem HOk.kept (x:HOk P w H h)(k:∀b u,h.get? b=some u→h'.get? b=some u):HOk P w H h':=fun a o e=>
 (x a o e).stay (fun b u _ q=>k b u q) (fun _ q=>q) fun _ _ q=>q
theorem HOk.laid (x:HOk P w H h)(k:∀b u,h.get? b=some u→h'.get? b=some u)(hp:h.objs.size≤a)(new:ObjOk P w (upd H a o) h' a o):HOk P w (upd H a o) h':=fun b u e=>by
 have hn:=x.fresh hp
 by_cases hb:b=a
 ·subst hb;rw[upd_same] at e;cases e;exact new
 ·rw[upd_ne hb] at e
  exact(x b u e).stay (fun c v _ q=>k c v q) (fun c q=>by rw[upd_ne (ne_of_none q hn)];exact q) fun c xs q=>by rw[upd_ne (ne_of_none q hn)];exact q
end
def Rd (H:Hp)(a:Addr)(u:HO):Prop:=H a=some u∨∃o,H a=some (.frz o u)
theorem Rd.of {H:Hp}{a:Addr}{u:HO}(h:H a=some u):Rd H a u:=.inl h
theorem Rd.ok {P:Program}{w:World}{H:Hp}{h:Heap}{a:Addr}{u:HO}(r:Rd H a u)(x:HOk P w H h):ObjOk P w H h a u:=by
 rcases r with r | ⟨o,r⟩
 ·exact x a u r
 ·obtain⟨_,q⟩:=x a _ r
  exact q
def Mut:Option HO→Prop
 |some (.lst _)=>True
 |some (.dK _)=>True
 |some (.dT _)=>True
 |some (.set _ _)=>True
 |some (.ins _ _ _)=>True
 |some (.ext _)=>True
 |_=>False
section
variable {P:Program} {w:World} {H:Hp} {h h':Heap} {x e:Addr} {o':HO}
theorem HOk.write (ok:HOk P w H h)(mu:Mut (H x))(he:e=x∨H e=some (.own x))(k:∀b u,b≠e→h.get? b=some u→h'.get? b=some u)(heo:∃u,h'.get? e=some u)(new:ObjOk P w (upd H x o') h' x o'):HOk P w (upd H x o') h':=fun b u q=>by
 have nown:∀c y,H c=some (.own y)→c≠x:=fun c y r z=>by subst z;rw[r] at mu;exact mu
 have ntup:∀c xs,H c=some (.tup xs)→c≠x:=fun c xs r z=>by subst z;rw[r] at mu;exact mu
 by_cases hb:b=x
 ·subst hb;rw[upd_same] at q;cases q;exact new
 ·rw[upd_ne hb] at q
  by_cases hbe:b=e
  ·have q':H b=some (.own x):=by
    rcases he with z | z
    ·exact absurd (hbe.trans z) hb
    ·rw[hbe];exact z
   rw[q] at q';cases q'
   obtain⟨v,hv⟩:=heo
   exact⟨v,by rw[hbe];exact hv⟩
  ·refine(ok b u q).stay (fun c v hc r=>k c v ?_ r) (fun c r=>by rw[upd_ne (nown c b r)];exact r) fun c xs r=>by rw[upd_ne (ntup c xs r)];exact r
   rcases hc with rfl | hc
   ·exact hbe
   ·rintro rfl
    rcases he with z | z
    ·exact nown c b hc z
    ·rw[hc] at z;cases z;exact hb rfl
end
structure Un (fs ex:List Addr) (H H':Hp) (h h':Heap):Prop where
 keep:∀b o,h.get? b=some o→H b=none→b∉fs→b∉ex→h'.get? b=some o
 slot:∀b o,h.get? b=some o→H b=none→b∈fs→b∉ex→∃sl,h'.get? b=some { o with slots:=sl }
 free:∀b o,h.get? b=some o→H b=none→b∉ex→H' b=none
 there:∀b o,h.get? b=some o→b∉ex→∃o',h'.get? b=some o'
 tups:∀b xs,H b=some (.tup xs)→H' b=some (.tup xs)
 frzs:∀b o u,H b=some (.frz o u)→H' b=some (.frz o u)
 tbls:∀b ps,H b=some (.tbl ps)→∃more,H' b=some (.tbl (ps++more))
section
variable {fs fs' ex ex':List Addr} {H H1 H2:Hp} {h h1 h2 h':Heap} {a x e:Addr} {o:HO}
theorem Un.any (u:Un fs ex H H1 h h1){b:Addr}{ob:Obj}(q:h.get? b=some ob)(n:H b=none)(hx:b∉ex):∃sl,h1.get? b=some { ob with slots:=sl }:=by
 by_cases hb:b∈fs
 ·exact u.slot b ob q n hb hx
 ·exact⟨ob.slots,u.keep b ob q n hb hx⟩
theorem Un.kept (k:∀b u,h.get? b=some u→h'.get? b=some u):Un fs ex H H h h':=
 ⟨fun b ob q _ _ _=>k b ob q,fun b ob q _ _ _=>⟨ob.slots,k b ob q⟩,fun _ _ _ n _=>n,fun b ob q _=>⟨ob,k b ob q⟩,fun _ _ q=>q,fun _ _ _ q=>q,fun _ ps q=>⟨#[],by rw[q];simp⟩⟩
theorem Un.refl:Un fs ex H H h h:=Un.kept fun _ _ q=>q
theorem Un.laid (k:∀b u,h.get? b=some u→h'.get? b=some u)(hp:h.objs.size≤a)(hn:H a=none):Un fs ex H (upd H a o) h h' where
 keep:=fun b u q _ _ _=>k b u q
 slot:=fun b u q _ _ _=>⟨u.slots,k b u q⟩
 free:=fun b u q n _=>by rw[upd_ne (Nat.ne_of_lt (Nat.lt_of_lt_of_le (Heap.lt_size q) hp))];exact n
 there:=fun b u q _=>⟨u,k b u q⟩
 tups:=fun b xs q=>by rw[upd_ne (ne_of_none q hn)];exact q
 frzs:=fun b u xs q=>by rw[upd_ne (ne_of_none q hn)];exact q
 tbls:=fun b ps q=>⟨#[],by rw[upd_ne (ne_of_none q hn),q];simp⟩
theorem Un.write (mu:Mut (H x))(he:e=x∨H e=some (.own x))(k:∀b u,b≠e→h.get? b=some u→h'.get? b=some u)(heo:∃u,h'.get? e=some u):Un fs ex H (upd H x o) h h':=by
 have hx:∀b,H b=none→b≠x:=fun b n z=>by subst z;rw[n] at mu;exact mu
 have hb:∀b,H b=none→b≠e:=fun b n z=>by
  subst z
  rcases he with r | r
  ·exact hx b n r
  ·rw[n] at r;cases r
 have hm:∀b u,H b=some u→¬Mut (some u)→b≠x:=fun b u q nm z=>by subst z;rw[q] at mu;exact nm mu
 refine⟨fun b u q n _ _=>k b u (hb b n) q,fun b u q n _ _=>⟨u.slots,k b u (hb b n) q⟩,fun b u q n _=>by rw[upd_ne (hx b n)];exact n,fun b u q _=>?_,
  fun b xs q=>by rw[upd_ne (hm b _ q fun z=>z)];exact q,fun b u xs q=>by rw[upd_ne (hm b _ q fun z=>z)];exact q,fun b ps q=>⟨#[],by rw[upd_ne (hm b _ q fun z=>z),q];simp⟩⟩
 by_cases hbe:b=e
 ·subst hbe;exact heo
 ·exact⟨u,k b u hbe q⟩
end
def trk (h:Heap)(H:Hp):List Addr:=(List.range h.objs.size).filter fun a=>(H a).isSome
def hidT (h:Heap)(H:Hp):Heap:=PySem.W.hideAll h (trk h H)
theorem hidT_size (h:Heap)(H:Hp):(hidT h H).objs.size=h.objs.size:=PySem.W.hideAll_size _ _
theorem hidT_get {h:Heap}{H:Hp}{b:Addr}{o:Obj}(e:h.get? b=some o)(n:H b=none):(hidT h H).get? b=some o:=
 PySem.W.hideAll_get _ e fun hm=>by
  have q:(H b).isSome=true:=(List.mem_filter.mp hm).2
  rw[n] at q;simp at q
theorem of_hidT {h:Heap}{H:Hp}{b:Addr}{o:Obj}(e:(hidT h H).get? b=some o):h.get? b=some o∧H b=none:=by
 have e':h.get? b=some o:=PySem.W.of_hideAll (trk h H) e
 refine⟨e',?_⟩
 cases q:H b with
 |none=>rfl
 |some x=>
  have hm:b∈trk h H:=List.mem_filter.mpr ⟨List.mem_range.mpr (Heap.lt_size e'),by simp[q]⟩
  have z:(hidT h H).get? b=none:=PySem.W.hideAll_none (trk h H) hm
  rw[z] at e;cases e
structure Mod (K:PySem.W.Frag) (mg:Str→Option Value) (base:Heap):Prop where
 kin:K.In base
 glob:base.Ns mainGlobals mg
 blt:∃mb,base.Ns builtinsNs mb∧∀x:Str,x≠"__name__"→mb x=bootBuiltins x
 nolimit:base.NoLimit
structure Cx where
 prog:Program
 w:World
 K:PySem.W.Frag
 mg:Str→Option Value
 base:Heap
 A:Around
 N:List Str
 s₀:Shared
 H₀:Hp
 env:Env
 outer:List Env
 stack:List Env
 ex:List Addr
 fn:Str→Bool
 calm:Bool
 pn:List (Addr × Obj)
 xe:Value→Shared→Prop
def frs (l:List Env):List Addr:=l.filterMap (·.frame)
abbrev Cx.fs (X:Cx):List Addr:=frs X.outer
def Vis (sc:Scope)(x:Str):Prop:=sc.names.lookup x=some .local∨sc.names.lookup x=some .cell∨sc.names.lookup x=some .free
def Loc (sc:Scope)(x:Str):Prop:=sc.names.lookup x=some .local∨sc.names.lookup x=some .cell
def Look (env:Env)(h:Heap)(m:Str→Option Value)(x:Str)(u:Value):Prop:=
 (env.kindOf x=some .local∧m x=some u)∨((env.kindOf x=some .cell∨env.kindOf x=some .free)∧∃c,env.cells.lookup x=some c∧h.IsCell c (some u))
structure Cx.Ok (X:Cx):Prop where
 mod:Mod X.K X.mg X.base
 kind:X.env.scope.kind=.function
 glob:X.env.globals=mainGlobals
 blt:X.env.builtins=builtinsNs
 above:X.s₀.heap.objs.size≤X.env.locals
 inj:∀x y c,X.env.cells.lookup x=some c→X.env.cells.lookup y=some c→x=y
 has:∀x,(X.env.kindOf x=some .cell∨X.env.kindOf x=some .free)→∃c,X.env.cells.lookup x=some c
 cab:∀x c,X.fn x=true→X.env.cells.lookup x=some c→X.s₀.heap.objs.size≤c
 hd:X.calm=true→X.A.handled=none
 frames:X.A.frames=some X.stack
 stk:X.stack=X.outer∨(X.stack=X.env :: X.outer∧X.env.frame=some X.env.locals)
 exf:∀b∈X.ex,b≠X.env.locals∧∀x c,X.env.cells.lookup x=some c→c≠b
 bs:∀b o,X.base.get? b=some o→X.s₀.heap.get? b=some o∧X.H₀ b=none
 bsz:X.base.objs.size≤X.s₀.heap.objs.size
 noex:∀b o,X.base.get? b=some o→b∉X.ex
 exfs:∀b∈X.ex,b∉X.fs
 funs:X.s₀.heap.FunFrames X.base X.outer
 frf:∀b∈X.fs,X.H₀ b=none
structure Inv (X:Cx) (pins:List (Addr × Obj)) (σ:List (Option V)) (H:Hp) (s:Shared):Prop where
 ok:X.Ok
 os:s.os=X.s₀.os
 bare:AllBare s.gens
 base:Un X.fs X.ex X.H₀ H X.s₀.heap s.heap
 loc:∃m,s.heap.Ns X.env.locals m∧∀(i:Nat) (x:Str) (v:V),X.N[i]?=some x→σ[i]?=some (some v)→Vis X.env.scope x→∃u,RelV v u∧Look X.env s.heap m x u
 cell:∀x c,X.env.cells.lookup x=some c→∃v,s.heap.IsCell c v
 free:H X.env.locals=none
 freeC:∀x c,X.env.cells.lookup x=some c→H c=none
 pin:∀p∈X.pn++pins,s.heap.get? p.1=some p.2∧H p.1=none∧p.1≠X.env.locals∧p.1∉X.fs∧∀v,p.2.data≠.cell v
 hok:HOk X.prog X.w H s.heap
 len:σ.length=X.N.length
section
variable {X:Cx} {pins:List (Addr × Obj)} {σ:List (Option V)} {H H':Hp} {s:Shared} {h':Heap}
theorem Cx.Ok.nofr (ok:X.Ok){b:Addr}{o:Obj}(e:X.base.get? b=some o):b∉X.fs:=fun hb=>by
 have:=(ok.funs.mem hb).1
 rw[e] at this;cases this
theorem Inv.bs (I:Inv X pins σ H s):∀b o,X.base.get? b=some o→s.heap.get? b=some o∧H b=none:=fun b o e=>
 ⟨I.base.keep b o (I.ok.bs b o e).1 (I.ok.bs b o e).2 (I.ok.nofr e) (I.ok.noex b o e),I.base.free b o (I.ok.bs b o e).1 (I.ok.bs b o e).2 (I.ok.noex b o e)⟩
theorem Inv.bk (I:Inv X pins σ H s):∀b o,X.base.get? b=some o→s.heap.get? b=some o:=fun b o e=>(I.bs b o e).1
theorem Inv.mod (I:Inv X pins σ H s):Mod X.K X.mg X.base:=I.ok.mod
theorem Inv.kIn (I:Inv X pins σ H s):X.K.In s.heap:=I.ok.mod.kin.keeps I.bk
theorem Inv.nolimit (I:Inv X pins σ H s):s.heap.NoLimit:=I.ok.mod.nolimit.keeps I.bk
theorem Inv.lt (I:Inv X pins σ H s):X.env.locals < s.heap.objs.size:=let ⟨_,hn,_⟩:=I.loc;hn.lt
theorem Inv.sz (I:Inv X pins σ H s):X.s₀.heap.objs.size≤s.heap.objs.size:=Nat.le_trans I.ok.above (Nat.le_of_lt I.lt)
theorem Inv.nofs (I:Inv X pins σ H s){a:Addr}(h:s.heap.objs.size≤a):a∉X.fs:=fun hb=>by
 obtain⟨_,o,ho,_⟩:=I.ok.funs.mem hb
 exact absurd (Nat.lt_of_lt_of_le (Heap.lt_size ho) (Nat.le_trans I.sz h)) (Nat.lt_irrefl _)
theorem Inv.cne (I:Inv X pins σ H s):∀x c,X.env.cells.lookup x=some c→c≠X.env.locals:=fun x c e z=>by
 obtain⟨v,o,ho,hd⟩:=I.cell x c e
 obtain⟨m,⟨o',es,ep,ho',hd',_⟩,_⟩:=I.loc
 rw[z,ho'] at ho;cases ho;rw[hd'] at hd;cases hd
theorem Inv.funs (I:Inv X pins σ H s):s.heap.FunFrames X.base X.outer:=by
 have all:∀(l:List Env),(∀b∈frs l,b∈X.fs)→X.s₀.heap.FunFrames X.base l→s.heap.FunFrames X.base l:=by
  intro l
  induction l with
  |nil=>intro _ _;trivial
  |cons env r ih=>
   intro hs hl
   obtain⟨hk,⟨L,o,hf,hn,ho,hd⟩,hr⟩:=hl
   have hL:L∈X.fs:=hs L (by unfold frs;rw[List.filterMap_cons,hf];exact List.mem_cons_self)
   obtain⟨sl,e⟩:=I.base.slot L o ho (I.ok.frf L hL) hL fun z=>I.ok.exfs L z hL
   exact⟨hk,⟨L,_,hf,hn,e,hd⟩,ih (fun b hb=>hs b (by unfold frs;rw[List.filterMap_cons,hf];exact List.mem_cons_of_mem _ hb)) hr⟩
 exact all X.outer (fun _ hb=>hb) I.ok.funs
theorem Inv.stack (I:Inv X pins σ H s):s.heap.FunFrames X.base X.stack:=by
 rcases I.ok.stk with e | ⟨e,hf⟩
 ·rw[e];exact I.funs
 ·rw[e]
  obtain⟨m,hn,_⟩:=I.loc
  refine .cons (by rw[I.ok.kind];decide) hf hn ?_ I.funs
  exact Heap.get?_none_of_le (Nat.le_trans I.ok.bsz I.ok.above)
theorem Inv.stkSub (I:Inv X pins σ H s):∀b∈frs X.stack,b∈X.env.locals :: X.fs:=fun b hb=>by
 rcases I.ok.stk with e | ⟨e,hf⟩
 ·rw[e] at hb;exact List.mem_cons_of_mem _ hb
 ·rw[e] at hb
  unfold frs at hb
  rw[List.filterMap_cons,hf] at hb
  exact hb
theorem Inv.stkFree (I:Inv X pins σ H s):∀b∈frs X.stack,H b=none:=fun b hb=>by
 rcases List.mem_cons.mp (I.stkSub b hb) with e | hb
 ·rw[e];exact I.free
 ·obtain⟨_,o,ho,_⟩:=I.ok.funs.mem hb
  exact I.base.free b o ho (I.ok.frf b hb) fun z=>I.ok.exfs b z hb
theorem Inv.step {g':Array GenState}{t':Nat}{d':Drawn}{ch:List Addr}(I:Inv X pins σ H s)(hch:∀b∈ch,(b∈X.ex∨X.s₀.heap.objs.size≤b)∧b≠X.env.locals∧(∀x c,X.env.cells.lookup x=some c→c≠b)∧∀p∈X.pn++pins,p.1≠b)(keep:∀b o,b≠X.env.locals→b∉X.fs→b∉ch→s.heap.get? b=some o→H b=none→h'.get? b=some o)(slot:∀b o,b≠X.env.locals→b∈X.fs→b∉ch→s.heap.get? b=some o→H b=none→∃sl,h'.get? b=some { o with slots:=sl })(free:∀b o,b∉ch→s.heap.get? b=some o→H b=none→H' b=none)(there:∀b o,b∉ch→s.heap.get? b=some o→∃o',h'.get? b=some o')(tups:∀b xs,H b=some (.tup xs)→H' b=some (.tup xs))(frzs:∀b o u,H b=some (.frz o u)→H' b=some (.frz o u))(tbls:∀b ps,H b=some (.tbl ps)→∃more,H' b=some (.tbl (ps++more)))(ns:∀m,s.heap.Ns X.env.locals m→h'.Ns X.env.locals m)(hok:HOk X.prog X.w H' h')(hg:AllBare g') :
  Inv X pins σ H' { s with heap:=h',gens:=g',drawn:=d',toks:=t' }:=by
 have neL:∀b o,X.s₀.heap.get? b=some o→b≠X.env.locals:=fun b o e=>Nat.ne_of_lt (Nat.lt_of_lt_of_le (Heap.lt_size e) I.ok.above)
 have neC:∀b o,X.s₀.heap.get? b=some o→b∉X.ex→b∉ch:=fun b o e hx hb=>by
  rcases (hch b hb).1 with z | z
  ·exact hx z
  ·exact absurd (Nat.lt_of_lt_of_le (Heap.lt_size e) z) (Nat.lt_irrefl _)
 have cellK:∀x c,X.env.cells.lookup x=some c→∀v,s.heap.IsCell c v→h'.IsCell c v:=fun x c e v ⟨o,ho,hd⟩=>by
  have nch:c∉ch:=fun z=>(hch c z).2.2.1 x c e rfl
  by_cases hc:c∈X.fs
  ·obtain⟨sl,q⟩:=slot c o (I.cne x c e) hc nch ho (I.freeC x c e)
   exact⟨_,q,hd⟩
  ·exact⟨o,keep c o (I.cne x c e) hc nch ho (I.freeC x c e),hd⟩
 refine⟨I.ok,I.os,hg,⟨fun b o e n hb hx=>?_,fun b o e n hb hx=>?_,fun b o e n hx=>?_,fun b o e hx=>?_,fun b xs e=>tups b xs (I.base.tups b xs e),fun b o xs e=>frzs b o xs (I.base.frzs b o xs e),fun b ps e=>?_⟩,?_,fun x c e=>?_,?_,fun x c e=>?_,fun p hp=>?_,hok,I.len⟩
 ·exact keep b o (neL b o e) hb (neC b o e hx) (I.base.keep b o e n hb hx) (I.base.free b o e n hx)
 ·obtain⟨sl,e1⟩:=I.base.slot b o e n hb hx
  obtain⟨sl',e2⟩:=slot b _ (neL b o e) hb (neC b o e hx) e1 (I.base.free b o e n hx)
  exact⟨sl',e2⟩
 ·obtain⟨o',e1⟩:=I.base.there b o e hx
  exact free b o' (neC b o e hx) e1 (I.base.free b o e n hx)
 ·obtain⟨o',e1⟩:=I.base.there b o e hx
  exact there b o' (neC b o e hx) e1
 ·obtain⟨m1,e1⟩:=I.base.tbls b ps e
  obtain⟨m2,e2⟩:=tbls b _ e1
  exact⟨m1++m2,by rw[e2,Array.append_assoc]⟩
 ·obtain⟨m,hn,hl⟩:=I.loc
  refine⟨m,ns m hn,fun i x v e1 e2 e3=>?_⟩
  obtain⟨u,r,l⟩:=hl i x v e1 e2 e3
  refine⟨u,r,?_⟩
  rcases l with l | ⟨k,c,e,z⟩
  ·exact .inl l
  ·exact .inr ⟨k,c,e,cellK x c e _ z⟩
 ·obtain⟨v,z⟩:=I.cell x c e
  exact⟨v,cellK x c e v z⟩
 ·obtain⟨m,⟨o,_,_,ho,_⟩,_⟩:=I.loc
  exact free _ o (fun z=>(hch _ z).2.1 rfl) ho I.free
 ·obtain⟨v,o,ho,hd⟩:=I.cell x c e
  exact free c o (fun z=>(hch c z).2.2.1 x c e rfl) ho (I.freeC x c e)
 ·obtain⟨e,n,ne,nf,d⟩:=I.pin p hp
  have nch:p.1∉ch:=fun z=>(hch p.1 z).2.2.2 p hp rfl
  exact⟨keep p.1 p.2 ne nf nch e n,free p.1 p.2 nch e n,ne,nf,d⟩
theorem Inv.un {t':Nat}(I:Inv X pins σ H s)(u:Un X.fs [] H H' s.heap h')(hok:HOk X.prog X.w H' h'):Inv X pins σ H' { s with heap:=h',toks:=t' }:=by
 obtain⟨m,⟨o,es,ep,ho,r⟩,_⟩:=id I.loc
 obtain⟨sl,hL⟩:=u.any ho I.free (by simp)
 exact I.step (g':=s.gens) (d':=s.drawn) (ch:=[]) (fun _ z=>nomatch z) (fun b o _ hb _ e n=>u.keep b o e n hb (by simp)) (fun b o _ hb _ e n=>u.slot b o e n hb (by simp)) (fun b o _ e n=>u.free b o e n (by simp)) (fun b o _ e=>u.there b o e (by simp)) u.tups u.frzs u.tbls (fun m' hm=>by
  obtain⟨o',es',ep',ho',r'⟩:=hm
  rw[ho] at ho';cases ho'
  exact⟨_,es',ep',hL,r'⟩) hok I.bare
theorem Inv.call {g':Array GenState}{t':Nat}{d':Drawn}{ch:List Addr}(I:Inv X pins σ H s)(u:Un (frs X.stack) ch H H' s.heap h')(hok:HOk X.prog X.w H' h')(hg:AllBare g')(hch:∀b∈ch,(b∈X.ex∨X.s₀.heap.objs.size≤b)∧b≠X.env.locals∧(∀x c,X.env.cells.lookup x=some c→c≠b)∧∀p∈X.pn++pins,p.1≠b) :
  Inv X pins σ H' { s with heap:=h',gens:=g',drawn:=d',toks:=t' }:=by
 obtain⟨m,⟨o,es,ep,ho,r⟩,_⟩:=id I.loc
 obtain⟨sl,hL⟩:=u.any ho I.free fun z=>(hch _ z).2.1 rfl
 exact I.step (ch:=ch) hch (fun b o hL hb hc e n=>u.keep b o e n (fun z=>(List.mem_cons.mp (I.stkSub b z)).elim hL hb) hc) (fun b o _ _ hc e n=>u.any e n hc) (fun b o hc e n=>u.free b o e n hc) (fun b o hc e=>u.there b o e hc) u.tups u.frzs u.tbls (fun m' hm=>by
  obtain⟨o',es',ep',ho',r'⟩:=hm
  rw[ho] at ho';cases ho'
  exact⟨_,es',ep',hL,r'⟩) hok hg
theorem Inv.turned {t':Nat}{it:Addr}(I:Inv X pins σ H s)(k:∀b o,b≠it→s.heap.get? b=some o→h'.get? b=some o)(hn:H it=none)(hL:it≠X.env.locals)(h1:it∈X.ex∨X.s₀.heap.objs.size≤it)(h2:∀x c,X.env.cells.lookup x=some c→c≠it)(h3:∀p∈X.pn++pins,p.1≠it):Inv X pins σ H { s with heap:=h',toks:=t' }:=by
 have nit:∀b u,H b=some u→b≠it:=fun b u e z=>by rw[z,hn] at e;cases e
 refine I.step (g':=s.gens) (d':=s.drawn) (ch:=[it]) (fun b hb=>?_) (fun b o _ _ hc e _=>k b o (fun z=>hc (by simp[z])) e) (fun b o _ _ hc e _=>⟨o.slots,k b o (fun z=>hc (by simp[z])) e⟩) (fun _ _ _ _ n=>n)
  (fun b o hc e=>⟨o,k b o (fun z=>hc (by simp[z])) e⟩) (fun _ _ e=>e) (fun _ _ _ e=>e) (fun b ps e=>⟨#[],by rw[e];simp⟩) (fun m hm=>?_) (fun b u e=>?_) I.bare
 ·have e:b=it:=by simpa using hb
  subst e
  exact⟨h1,hL,h2,h3⟩
 ·obtain⟨o,es,ep,ho,r⟩:=hm
  exact⟨o,es,ep,k _ o (Ne.symm hL) ho,r⟩
 ·refine(I.hok b u e).stay (fun c v hc q=>k c v ?_ q) (fun _ q=>q) fun _ _ q=>q
  rcases hc with z | z
  ·rw[z];exact nit b u e
  ·exact nit c _ z
theorem Inv.tok (I:Inv X pins σ H s)(t:Nat):Inv X pins σ H { s with toks:=t }:=I.un (h':=s.heap) (t':=t) Un.refl I.hok
theorem Inv.kept {t':Nat}(I:Inv X pins σ H s)(k:∀b u,s.heap.get? b=some u→h'.get? b=some u):Inv X pins σ H { s with heap:=h',toks:=t' }:=I.un (Un.kept k) (I.hok.kept k)
theorem Inv.laid {a:Addr}{o:HO}{t':Nat}(I:Inv X pins σ H s)(k:∀b u,s.heap.get? b=some u→h'.get? b=some u)(hp:s.heap.objs.size≤a)(new:ObjOk X.prog X.w (upd H a o) h' a o) :
  Inv X pins σ (upd H a o) { s with heap:=h',toks:=t' }:=I.un (Un.laid k hp (I.hok.fresh hp)) (I.hok.laid k hp new)
theorem Inv.write {x e:Addr}{o:HO}{t':Nat}(I:Inv X pins σ H s)(mu:Mut (H x))(he:e=x∨H e=some (.own x))(k:∀b u,b≠e→s.heap.get? b=some u→h'.get? b=some u)(heo:∃u,h'.get? e=some u)(new:ObjOk X.prog X.w (upd H x o) h' x o):Inv X pins σ (upd H x o) { s with heap:=h',toks:=t' }:=I.un (Un.write mu he k heo) (I.hok.write mu he k heo new)
theorem Inv.weak {σ':List (Option V)}(I:Inv X pins σ H s)(hl:σ'.length=σ.length)(w:∀(i:Nat) v,σ'[i]?=some (some v)→σ[i]?=some (some v)):Inv X pins σ' H s:=
 ⟨I.ok,I.os,I.bare,I.base,let ⟨m,hn,hl'⟩:=I.loc;⟨m,hn,fun i x v e1 e2 e3=>hl' i x v e1 (w i v e2) e3⟩,I.cell,I.free,I.freeC,I.pin,I.hok,hl.trans I.len⟩
theorem Inv.pins_of {pins':List (Addr × Obj)}(I:Inv X pins σ H s)(h:∀p∈pins',s.heap.get? p.1=some p.2∧H p.1=none∧p.1≠X.env.locals∧p.1∉X.fs∧∀v,p.2.data≠.cell v):Inv X pins' σ H s:=
 ⟨I.ok,I.os,I.bare,I.base,I.loc,I.cell,I.free,I.freeC,fun p hp=>(List.mem_append.mp hp).elim (fun z=>I.pin p (List.mem_append_left _ z)) (h p),I.hok,I.len⟩
theorem nodup_ix {N:List Str}(hN:N.Nodup){i j:Nat}{x:Str}(a:N[i]?=some x)(b:N[j]?=some x):i=j:=by
 obtain⟨h1,e1⟩:=List.getElem?_eq_some_iff.mp a
 obtain⟨h2,e2⟩:=List.getElem?_eq_some_iff.mp b
 exact(List.getElem_inj hN).mp (e1.trans e2.symm)
theorem store_ok2 {M:Model}{A:Around}{E:Value→Shared→Prop}{i:Nat}{x:Str}{v:V}{u:Value}{Q:Unit→Shared→Prop}(I:Inv X pins σ H s)(hN:X.N.Nodup)(hi:X.N[i]?=some x)(hx:Loc X.env.scope x)(r:RelV v u)(h:∀s',Inv X pins (σ.set i (some v)) H s'→(∃a,Heap.SameBut a s.heap s'.heap∧(a=X.env.locals∨X.env.cells.lookup x=some a))→Q () s')(hf:X.fn x=true∨X.env.scope.names.lookup x=some .local:=by first | exact .inl rfl | exact .inr rfl | assumption):wpAny M A (storeName X.env x u) Q E s:=by
 obtain⟨m,hn,hl⟩:=id I.loc
 have hcls:(X.env.scope.kind == .class || (X.env.scope.kind == .module && X.env.locals != X.env.globals))=false:=by rw[I.ok.kind];rfl
 have hiσ:i < σ.length:=by rw[I.len];exact(List.getElem?_eq_some_iff.mp hi).1
 have cne:=I.cne
 have tracked:∀{a:Addr} {h':Heap},(∃o,s.heap.get? a=some o∧H a=none)→Heap.SameBut a s.heap h'→HOk X.prog X.w H h':=fun {a h'} ha hs b ob e=>by
  obtain⟨_,_,hfree⟩:=ha
  refine(I.hok b ob e).stay (fun c w' hc q=>(hs.2 c ?_).trans q) (fun _ q=>q) fun _ _ q=>q
  rintro rfl
  rcases hc with rfl | hc
  ·rw[hfree] at e;cases e
  ·rw[hfree] at hc;cases hc
 rcases hx with hk | hk
 ·refine wpAny_storeName_local hk hn (fun h' hn' hs=>?_) hcls
  obtain⟨oL,_,_,hoL,_⟩:=id hn
  refine h _ ⟨I.ok,I.os,I.bare,⟨fun b o e n hb hx=>?_,fun b o e n hb hx=>?_,I.base.free,fun b o e hx=>?_,I.base.tups,I.base.frzs,I.base.tbls⟩,⟨_,hn',fun j y v' e1 e2 e3=>?_⟩,fun y c e=>?_,I.free,I.freeC,fun p hp=>?_,tracked ⟨oL,hoL,I.free⟩ hs,by simpa using I.len⟩ ⟨_,hs,.inl rfl⟩
  ·exact(hs.2 b (Nat.ne_of_lt (Nat.lt_of_lt_of_le (Heap.lt_size e) I.ok.above))).trans (I.base.keep b o e n hb hx)
  ·obtain⟨sl,e1⟩:=I.base.slot b o e n hb hx
   exact⟨sl,(hs.2 b (Nat.ne_of_lt (Nat.lt_of_lt_of_le (Heap.lt_size e) I.ok.above))).trans e1⟩
  ·obtain⟨o',e1⟩:=I.base.there b o e hx
   exact⟨o',(hs.2 b (Nat.ne_of_lt (Nat.lt_of_lt_of_le (Heap.lt_size e) I.ok.above))).trans e1⟩
  ·by_cases hj:j=i
   ·subst hj
    rw[hi] at e1;cases e1
    rw[List.getElem?_set_self hiσ] at e2
    cases e2
    exact⟨u,r,.inl ⟨hk,by simp⟩⟩
   ·rw[List.getElem?_set_ne (Ne.symm hj)] at e2
    obtain⟨u',r',q⟩:=hl j y v' e1 e2 e3
    refine⟨u',r',?_⟩
    rcases q with ⟨k,e⟩ | ⟨k,c,e,z⟩
    ·refine .inl ⟨k,?_⟩
     have:y≠x:=fun e=>hj (nodup_ix hN e1 (e ▸ hi))
     simp[this,e]
    ·exact .inr ⟨k,c,e,z.sameBut hs (cne y c e)⟩
  ·obtain⟨w',z⟩:=I.cell y c e
   exact⟨w',z.sameBut hs (cne y c e)⟩
  ·obtain⟨e,n,ne,nf,d⟩:=I.pin p hp
   exact⟨(hs.2 p.1 ne).trans e,n,ne,nf,d⟩
 ·have hfn:X.fn x=true:=by
   rcases hf with z | z
   ·exact z
   ·rw[z] at hk;cases hk
  obtain⟨c,hc⟩:=I.ok.has x (.inl hk)
  obtain⟨w',z⟩:=I.cell x c hc
  refine wpAny_storeName_cell I.ok.kind hk hc z (fun h' hc' hs=>?_)
  obtain⟨oc,hoc,hocd⟩:=id z
  refine h { s with heap:=h' } ⟨I.ok,I.os,I.bare,⟨fun b o e n hb hx=>?_,fun b o e n hb hx=>?_,I.base.free,fun b o e hx=>?_,I.base.tups,I.base.frzs,I.base.tbls⟩,⟨m,hn.sameBut hs (Ne.symm (cne x c hc)),fun j y v' e1 e2 e3=>?_⟩,fun y c' e=>?_,I.free,I.freeC,fun p hp=>?_,tracked ⟨oc,hoc,I.freeC x c hc⟩ hs,by simpa using I.len⟩ ⟨c,hs,.inr hc⟩
  ·exact(hs.2 b (Nat.ne_of_lt (Nat.lt_of_lt_of_le (Heap.lt_size e) (I.ok.cab x c hfn hc)))).trans (I.base.keep b o e n hb hx)
  ·obtain⟨sl,e1⟩:=I.base.slot b o e n hb hx
   exact⟨sl,(hs.2 b (Nat.ne_of_lt (Nat.lt_of_lt_of_le (Heap.lt_size e) (I.ok.cab x c hfn hc)))).trans e1⟩
  ·obtain⟨o',e1⟩:=I.base.there b o e hx
   exact⟨o',(hs.2 b (Nat.ne_of_lt (Nat.lt_of_lt_of_le (Heap.lt_size e) (I.ok.cab x c hfn hc)))).trans e1⟩
  ·by_cases hj:j=i
   ·subst hj
    rw[hi] at e1;cases e1
    rw[List.getElem?_set_self hiσ] at e2
    cases e2
    exact⟨u,r,.inr ⟨.inl hk,c,hc,hc'⟩⟩
   ·rw[List.getElem?_set_ne (Ne.symm hj)] at e2
    obtain⟨u',r',q⟩:=hl j y v' e1 e2 e3
    refine⟨u',r',?_⟩
    rcases q with q | ⟨k,c',e,z'⟩
    ·exact .inl q
    ·refine .inr ⟨k,c',e,z'.sameBut hs ?_⟩
     rintro rfl
     exact hj (nodup_ix hN e1 (I.ok.inj _ _ _ e hc ▸ hi))
  ·by_cases hcc:c'=c
   ·subst hcc;exact⟨_,hc'⟩
   ·obtain⟨w2,z2⟩:=I.cell y c' e
    exact⟨w2,z2.sameBut hs hcc⟩
  ·obtain⟨e,n,ne,nf,d⟩:=I.pin p hp
   refine⟨(hs.2 p.1 ?_).trans e,n,ne,nf,d⟩
   intro q
   rw[q,hoc] at e
   have q':oc=p.2:=Option.some.inj e
   exact d w' (by rw[← q'];exact hocd)
theorem store_ok {M:Model}{A:Around}{E:Value→Shared→Prop}{i:Nat}{x:Str}{v:V}{u:Value}{Q:Unit→Shared→Prop}(I:Inv X pins σ H s)(hN:X.N.Nodup)(hi:X.N[i]?=some x)(hx:Loc X.env.scope x)(r:RelV v u)(h:∀s',Inv X pins (σ.set i (some v)) H s'→Q () s')(hf:X.fn x=true∨X.env.scope.names.lookup x=some .local:=by first | exact .inl rfl | exact .inr rfl | assumption):wpAny M A (storeName X.env x u) Q E s:=
 store_ok2 I hN hi hx r (fun s' I' _=>h s' I') hf
theorem Inv.call' {s':Shared}{ch:List Addr}(I:Inv X pins σ H s)(ho:s'.os=s.os)(u:Un (frs X.stack) ch H H' s.heap s'.heap)(hok:HOk X.prog X.w H' s'.heap)(hg:AllBare s'.gens)(hch:∀b∈ch,(b∈X.ex∨X.s₀.heap.objs.size≤b)∧b≠X.env.locals∧(∀x c,X.env.cells.lookup x=some c→c≠b)∧∀p∈X.pn++pins,p.1≠b):Inv X pins σ H' s':=by
 obtain⟨h',g',d',t',o'⟩:=s'
 have e:o'=s.os:=ho
 subst e
 exact I.call (g':=g') (t':=t') (d':=d') u hok hg hch
end
abbrev XK:=Value→Option Addr→Hp→Prop
abbrev St:=List (Option V)
abbrev VK:=V→Hp→Prop
abbrev TE:=St→Hp→VK→Prop
abbrev TT:=St→Hp→(Bool→Hp→Prop)→Prop
abbrev TA:=St→Hp→(List V→Hp→Prop)→Prop
structure Ends where
 nx:St→Hp→Prop
 rt:VK
 bk:St→Hp→Prop:=fun _ _=>False
 ct:St→Hp→Prop:=fun _ _=>False
abbrev TS:=Ends→St→Hp→Prop
def EP (X:Cx)(pins:List (Addr × Obj))(σ:St)(Q:VK)(u:Value)(s':Shared):Prop:=∃v H',Inv X pins σ H' s'∧RelV v u∧Q v H'
def TP (X:Cx)(pins:List (Addr × Obj))(σ:St)(Q:Bool→Hp→Prop)(b:Bool)(s':Shared):Prop:=∃H',Inv X pins σ H' s'∧Q b H'
def AP (X:Cx)(pins:List (Addr × Obj))(σ:St)(Q:List V→Hp→Prop)(us:List Value)(s':Shared):Prop:=∃vs H',Inv X pins σ H' s'∧Vals vs us∧Q vs H'
def SP (X:Cx)(pins:List (Addr × Obj))(D:Ends)(f:Flow)(s':Shared):Prop:=
 match f with
 | .next=>∃σ' H',Inv X pins σ' H' s'∧D.nx σ' H'
 | .brk=>∃σ' H',Inv X pins σ' H' s'∧D.bk σ' H'
 | .cont=>∃σ' H',Inv X pins σ' H' s'∧D.ct σ' H'
 | .ret u=>∃v σ' H',Inv X pins σ' H' s'∧RelV v u∧D.rt v H'
def PE (X:Cx)(e:Expr)(t:TE):Prop:=
 ∀(pins:List (Addr × Obj)) (s:Shared) (σ:St) (H:Hp) (Q:VK),Inv X pins σ H s→t σ H Q→wpAny (model X.prog X.w) X.A (eval e X.env) (EP X pins σ Q) X.xe s
def PT (X:Cx)(e:Expr)(t:TT):Prop:=
 ∀(pins:List (Addr × Obj)) (s:Shared) (σ:St) (H:Hp) (Q:Bool→Hp→Prop),Inv X pins σ H s→t σ H Q→wpAny (model X.prog X.w) X.A (isTrue e X.env (eval e X.env)) (TP X pins σ Q) X.xe s
def PW (X:Cx)(e:Expr)(t:TT):Prop:=
 ∀(whole:Sem Value) (pins:List (Addr × Obj)) (s:Shared) (σ:St) (H:Hp) (Q:Bool→Hp→Prop),Inv X pins σ H s→t σ H Q→wpAny (model X.prog X.w) X.A (isTrue e X.env whole) (TP X pins σ Q) X.xe s
theorem PW.pt {X:Cx}{e:Expr}{t:TT}(h:PW X e t):PT X e t:=h _
def PA (X:Cx)(es:List Expr)(t:TA):Prop:=
 ∀(pos:Pos) (pins:List (Addr × Obj)) (s:Shared) (σ:St) (H:Hp) (Q:List V→Hp→Prop),Inv X pins σ H s→t σ H Q→wpAny (model X.prog X.w) X.A (spliced (backTo pos (starEach es X.env))) (AP X pins σ Q) X.xe s
def PS (X:Cx)(st:Stmt)(t:TS):Prop:=
 ∀(pins:List (Addr × Obj)) (s:Shared) (σ:St) (H:Hp) (D:Ends),Inv X pins σ H s→t D σ H→wpAny (model X.prog X.w) X.A (exec st X.env) (SP X pins D) X.xe s
def PSs (X:Cx)(st:List Stmt)(t:TS):Prop:=
 ∀(pins:List (Addr × Obj)) (s:Shared) (σ:St) (H:Hp) (D:Ends),Inv X pins σ H s→t D σ H→wpAny (model X.prog X.w) X.A (execs st X.env) (SP X pins D) X.xe s
theorem thn {α:Type}{t:Sem α}{Q Q':α→Shared→Prop}{M:Model}{A:Around}{E:Value→Shared→Prop}{s:Shared}(h:wpAny M A t Q E s)(hQ:∀a s,Q a s→Q' a s):wpAny M A t Q' E s:=wpAny_mono h hQ fun _ _ x=>x
section
variable {X:Cx}
def tVar (i:Nat):TE:=fun σ H Q=>∃v,σ[i]?=some (some v)∧Q v H
def tC (v:V):TE:=fun _ H Q=>Q v H
theorem pe_var {i:Nat}{x:Str}{pos:Pos}(hN:X.N[i]?=some x)(hv:Vis X.env.scope x)(hd:(x == ("__debug__":Str))=false:=by decide)(hcd:(x == ("__classdict__":Str))=false:=by decide):PE X (.Name x pos) (tVar i):=by
 intro pins s σ H Q I h
 obtain⟨v,e,h⟩:=h
 obtain⟨m,hn,hl⟩:=I.loc
 obtain⟨u,r,l⟩:=hl i x v hN e hv
 have fin:EP X pins σ Q u s:=⟨v,H,I,r,h⟩
 rcases l with ⟨hk,hm⟩ | ⟨hk,c,hc,hcell⟩
 ·exact wpAny_Name (wpAny_loadName_local I.ok.kind hk hn hm fin) hd
 ·rcases hk with hk | hk
  ·exact wpAny_Name (wpAny_loadName_cell I.ok.kind hk hc hcell fin) hd
  ·exact wpAny_Name (wpAny_loadName_free I.ok.kind hk hc hcell fin hcd) hd
theorem pe_int {i j pos}:PE X (.Constant (.int i) j pos) (tC (.int i)):=fun _ _ _ H _ I h=>wpAny_Constant_int ⟨.int i,H,I.tok _,⟨_,rfl⟩,h⟩
theorem pe_bl {b j pos}:PE X (.Constant (.bool b) j pos) (tC (.bl b)):=fun _ _ _ H _ I h=>Constant_bool ⟨.bl b,H,I,rfl,h⟩
theorem pe_non {j pos}:PE X (.Constant .none j pos) (tC .non):=fun _ _ _ H _ I h=>Constant_none ⟨.non,H,I,rfl,h⟩
theorem pe_str {x j pos}:PE X (.Constant (.str x) j pos) (tC (.str x)):=fun _ _ _ H _ I h=>Calls.Constant_str ⟨.str x,H,I.tok _,⟨_,rfl⟩,h⟩
def Gl (X:Cx)(x:Str):Prop:=X.env.kindOf x=some .globalImplicit
theorem ld_glob {E:Value→Shared→Prop}{pins:List (Addr × Obj)}{s:Shared}{σ:St}{H:Hp}{x:Str}{u:Value}{pos:Pos}{Q:Value→Shared→Prop}(I:Inv X pins σ H s)(hg:Gl X x)(hm:X.mg x=some u)(h:Q u s)(hd:(x == ("__debug__":Str))=false:=by decide):wpAny (model X.prog X.w) X.A (eval (.Name x pos) X.env) Q E s:=
 Calls.Name_function_global I.ok.kind hg (Calls.loadGlobal_global (by rw[I.ok.glob];exact I.mod.glob.keeps I.bk) hm h) hd
theorem ld_blt {E:Value→Shared→Prop}{pins:List (Addr × Obj)}{s:Shared}{σ:St}{H:Hp}{x:Str}{u:Value}{pos:Pos}{Q:Value→Shared→Prop}(I:Inv X pins σ H s)(hg:Gl X x)(hm:X.mg x=none)(hv:bootBuiltins x=some u)(h:Q u s)(hn:x≠"__name__":=by decide)(hd:(x == ("__debug__":Str))=false:=by decide):wpAny (model X.prog X.w) X.A (eval (.Name x pos) X.env) Q E s:=by
 obtain⟨mb,h1,h2⟩:=I.mod.blt
 exact Calls.Name_function_global I.ok.kind hg (Calls.loadGlobal_builtin (by rw[I.ok.glob];exact I.mod.glob.keeps I.bk) hm (by rw[I.ok.blt];exact h1.keeps I.bk) ((h2 x hn).trans hv) h) hd
theorem pe_glob {x:Str}{v:V}{u:Value}{pos:Pos}(hg:Gl X x)(hm:X.mg x=some u)(r:RelV v u)(hd:(x == ("__debug__":Str))=false:=by decide):PE X (.Name x pos) (tC v):=
 fun _ _ _ H _ I h=>ld_glob I hg hm ⟨v,H,I,r,h⟩ hd
theorem pe_bltn {x:Str}{v:V}{u:Value}{pos:Pos}(hg:Gl X x)(hm:X.mg x=none)(hv:bootBuiltins x=some u)(r:RelV v u)(hn:x≠"__name__":=by decide)(hd:(x == ("__debug__":Str))=false:=by decide):PE X (.Name x pos) (tC v):=
 fun _ _ _ H _ I h=>ld_blt I hg hm hv ⟨v,H,I,r,h⟩ hn hd
variable {a b:Expr} {ta tb:TE} {pos:Pos}
def PC (X:Cx)(op:CmpOp)(a b:Expr)(t:TE):Prop:=
 ∀(pins:List (Addr × Obj)) (s:Shared) (σ:St) (H:Hp) (Q:VK),Inv X pins σ H s→t σ H Q→
  wpAny (model X.prog X.w) X.A (eval a X.env) (fun v s₁=>wpAny (model X.prog X.w) X.A (eval b X.env) (fun u s₂=>wpAny (model X.prog X.w) X.A (compareOp op v u) (EP X pins σ Q) X.xe s₂) X.xe s₁) X.xe s
theorem nobehind (b:Expr){op:CmpOp}(h:op≠.In)(h2:op≠.NotIn):behindInMarks op b=false:=by
 have e1:(op == CmpOp.In)=false:=by cases op<;>first | rfl | exact absurd rfl h
 have e2:(op == CmpOp.NotIn)=false:=by cases op<;>first | rfl | exact absurd rfl h2
 cases b<;>simp[behindInMarks,e1,e2]
def tIsN (ta:TE):TE:=fun σ H Q=>ta σ H fun x H1=>Q (.bl (decide (x=.non))) H1
def tNotN (ta:TE):TE:=fun σ H Q=>ta σ H fun x H1=>Q (.bl (!decide (x=.non))) H1
theorem RelV.none_iff {x:V}{v:Value}(r:RelV x v):(v == Value.none)=decide (x=.non):=by
 cases x with
 |non=>cases r;rfl
 |bl _=>cases r;rfl
 |int _=>obtain⟨t,rfl⟩:=r;rfl
 |str _=>obtain⟨t,rfl⟩:=r;rfl
 |byt _=>obtain⟨t,rfl⟩:=r;rfl
 |flt _=>obtain⟨t,rfl⟩:=r;rfl
 |ref _=>cases r;rfl
 |ty _=>cases r;rfl
theorem pc_isN {j pos'}(ha:PE X a ta):PC X .Is a (.Constant .none j pos') (tIsN ta):=by
 intro pins s σ H Q I h
 refine thn (ha pins s σ H _ I h) fun v s1 ⟨x,H1,I1,r1,q1⟩=>?_
 exact Constant_none (is_none_gen ⟨.bl _,H1,I1,by rw[r1.none_iff];rfl,q1⟩)
theorem pc_notN {j pos'}(ha:PE X a ta):PC X .IsNot a (.Constant .none j pos') (tNotN ta):=by
 intro pins s σ H Q I h
 refine thn (ha pins s σ H _ I h) fun v s1 ⟨x,H1,I1,r1,q1⟩=>?_
 exact Constant_none (isnot_none_gen ⟨.bl _,H1,I1,by rw[r1.none_iff];rfl,q1⟩)
def tB (t:TE):TT:=fun σ H Q=>t σ H fun x H1=>∃c,x=.bl c∧Q c H1
theorem pt_cmp {op:CmpOp}{t:TE}(h:PC X op a b t)(h1:behindInMarks op b=false:=by first | exact nobehind _ (by decide) (by decide) | rfl):PT X (.Compare a [op] [b] pos) (tB t):=by
 intro pins s σ H Q I hw
 refine wpAny_isTrue_Compare1 (thn (h pins s σ H _ I hw) fun v s1 h1=>thn h1 fun u s2 h2=>thn h2 fun c s3 ⟨x,H1,I1,r1,q1⟩=>?_) h1
 obtain⟨d,rfl,q⟩:=q1
 cases r1
 exact wpAny_truthy_bool ⟨H1,I1,q⟩
theorem pt_val {e:Expr}{t:TE}(h:PE X e t)(he:∀whole,isTrue e X.env whole=(do let v ← whole;standAt e.pos;holding [v] (truthy v)):=by intro _;rfl):PT X e (tB t):=by
 intro pins s σ H Q I hw
 refine isTrue_plain (thn (h pins s σ H _ I hw) fun v s1 ⟨x,H1,I1,r1,q1⟩=>?_) (he _)
 obtain⟨d,rfl,q⟩:=q1
 cases r1
 exact wpAny_truthy_bool ⟨H1,I1,q⟩
variable {tA tB':TT} {rest:List Expr}
def tAnd (t u:TT):TT:=fun σ H Q=>t σ H fun c H1=>if c=true then u σ H1 Q else Q false H1
def tOr (t u:TT):TT:=fun σ H Q=>t σ H fun c H1=>if c=true then Q true H1 else u σ H1 Q
def tNot (t:TT):TT:=fun σ H Q=>t σ H fun c H1=>Q (!c) H1
theorem pw_and1 (ha:PT X a tA):PW X (.BoolOp .And [a] pos) tA:=by
 intro wh pins s σ H Q I h
 refine isTrue_and (thn (ha pins s σ H Q I h) fun c s1 e=>?_)
 cases c with
 |true=>exact isTrue_and_nil e
 |false=>exact e
theorem pw_or1 (ha:PT X a tA):PW X (.BoolOp .Or [a] pos) tA:=by
 intro wh pins s σ H Q I h
 refine isTrue_or (thn (ha pins s σ H Q I h) fun c s1 e=>?_)
 cases c with
 |false=>exact isTrue_or_nil e
 |true=>exact e
theorem pw_and (ha:PT X a tA)(hb:PW X (.BoolOp .And (b :: rest) pos) tB'):PW X (.BoolOp .And (a :: b :: rest) pos) (tAnd tA tB'):=by
 intro wh pins s σ H Q I h
 refine isTrue_and (thn (ha pins s σ H _ I h) fun c s1 ⟨H1,I1,q1⟩=>?_)
 cases c with
 |true=>exact hb wh pins s1 σ H1 Q I1 q1
 |false=>exact⟨H1,I1,q1⟩
theorem pw_or (ha:PT X a tA)(hb:PW X (.BoolOp .Or (b :: rest) pos) tB'):PW X (.BoolOp .Or (a :: b :: rest) pos) (tOr tA tB'):=by
 intro wh pins s σ H Q I h
 refine isTrue_or (thn (ha pins s σ H _ I h) fun c s1 ⟨H1,I1,q1⟩=>?_)
 cases c with
 |true=>exact⟨H1,I1,q1⟩
 |false=>exact hb wh pins s1 σ H1 Q I1 q1
theorem pt_not (ha:PT X a tA):PT X (.UnaryOp .Not a pos) (tNot tA):=by
 intro pins s σ H Q I h
 exact isTrue_not (ha pins s σ H (fun c H1=>Q (!c) H1) I h)
def tAndV (ta tb:TE):TE:=fun σ H Q=>ta σ H fun x H1=>∃c,x=.bl c∧if c=true then tb σ H1 Q else Q (.bl false) H1
def tOrV (ta tb:TE):TE:=fun σ H Q=>ta σ H fun x H1=>∃c,x=.bl c∧if c=true then Q (.bl true) H1 else tb σ H1 Q
def tNotV (ta:TE):TE:=fun σ H Q=>ta σ H fun x H1=>∃c,x=.bl c∧Q (.bl (!c)) H1
theorem pe_one {op}{t:TE}(h:PE X a t):PE X (.BoolOp op [a] pos) t:=fun pins s σ H Q I hw=>BoolOp_one (h pins s σ H Q I hw)
theorem pe_and (ha:PE X a ta)(hb:PE X (.BoolOp .And (b :: rest) pos) tb):PE X (.BoolOp .And (a :: b :: rest) pos) (tAndV ta tb):=by
 intro pins s σ H Q I h
 refine BoolOp_and (thn (ha pins s σ H _ I h) fun v s1 ⟨x,H1,I1,r1,q1⟩=>?_)
 obtain⟨c,rfl,q1⟩:=q1
 cases r1
 refine wpAny_truthy_bool ?_
 cases c with
 |true=>exact hb pins s1 σ H1 Q I1 q1
 |false=>exact⟨.bl false,H1,I1,rfl,q1⟩
theorem pe_or (ha:PE X a ta)(hb:PE X (.BoolOp .Or (b :: rest) pos) tb):PE X (.BoolOp .Or (a :: b :: rest) pos) (tOrV ta tb):=by
 intro pins s σ H Q I h
 refine BoolOp_or (thn (ha pins s σ H _ I h) fun v s1 ⟨x,H1,I1,r1,q1⟩=>?_)
 obtain⟨c,rfl,q1⟩:=q1
 cases r1
 refine wpAny_truthy_bool ?_
 cases c with
 |false=>exact hb pins s1 σ H1 Q I1 q1
 |true=>exact⟨.bl true,H1,I1,rfl,q1⟩
theorem pe_not (ha:PE X a ta):PE X (.UnaryOp .Not a pos) (tNotV ta):=by
 intro pins s σ H Q I h
 refine UnaryOp_ (thn (ha pins s σ H _ I h) fun v s1 ⟨x,H1,I1,r1,q1⟩=>?_)
 obtain⟨c,rfl,q1⟩:=q1
 cases r1
 exact not_of (wpAny_truthy_bool ⟨.bl (!c),H1,I1,rfl,q1⟩)
def tIf (t:TT)(ta tb:TE):TE:=fun σ H Q=>t σ H fun c H1=>if c=true then ta σ H1 Q else tb σ H1 Q
theorem pe_ifExp {c:Expr}(hc:PT X c tA)(ha:PE X a ta)(hb:PE X b tb):PE X (.IfExp c a b pos) (tIf tA ta tb):=by
 intro pins s σ H Q I h
 refine wpAny_IfExp (thn (hc pins s σ H _ I h) fun d s1 ⟨H1,I1,q1⟩=>?_)
 cases d with
 |true=>exact ha pins s1 σ H1 Q I1 q1
 |false=>exact hb pins s1 σ H1 Q I1 q1
end
def SqL (K:PySem.W.Frag)(H:Hp)(a:Addr)(xs:List V):Prop:=
 Rd H a (.lst xs)∨
  ∃(o:Obj) (its:Array Value) (n:Nat),K.lookup a=some o∧o.cls=.type "list"∧o.dict=none∧o.data=.seq its n∧its.size≤sizeLine∧Vals xs its.toList
def SqT (K:PySem.W.Frag)(H:Hp)(a:Addr)(xs:List V):Prop:=
 Rd H a (.tup xs)∨
  ∃(o:Obj) (its:Array Value) (n:Nat),K.lookup a=some o∧o.cls=.type "tuple"∧o.data=.seq its n∧its.size≤sizeLine∧Vals xs its.toList
def absV:Value→Option V
 | .none=>some .non
 | .bool b=>some (.bl b)
 | .int i _=>some (.int i)
 | .str x _=>some (.str x)
 | .bytes b _=>some (.byt b)
 | .float b _=>some (.flt b)
 | .ref a=>some (.ref a)
 | .type n=>some (.ty n)
 |_=>none
theorem RelV.abs {x:V}{u:Value}(r:RelV x u):absV u=some x:=by
 cases x with
 |non=>cases r;rfl
 |bl _=>cases r;rfl
 |int _=>obtain⟨t,rfl⟩:=r;rfl
 |str _=>obtain⟨t,rfl⟩:=r;rfl
 |byt _=>obtain⟨t,rfl⟩:=r;rfl
 |flt _=>obtain⟨t,rfl⟩:=r;rfl
 |ref _=>cases r;rfl
 |ty _=>cases r;rfl
theorem RelV.inj {x y:V}{u:Value}(r:RelV x u)(q:RelV y u):x=y:=Option.some.inj (r.abs.symm.trans q.abs)
theorem Vals.inj:∀{xs ys:List V} {us:List Value},Vals xs us→Vals ys us→xs=ys
 |_,_,_,.nil,.nil=>rfl
 |_,_,_,.cons r t,.cons r' t'=>by rw[r.inj r',Vals.inj t t']
section
variable {X:Cx} {pins:List (Addr × Obj)} {σ:St} {H:Hp} {s:Shared} {a:Addr} {xs ys:List V}
theorem SqL.of {K:PySem.W.Frag}(h:H a=some (.lst xs)):SqL K H a xs:=.inl (.inl h)
theorem SqT.of {K:PySem.W.Frag}(h:H a=some (.tup xs)):SqT K H a xs:=.inl (.inl h)
theorem Inv.list (I:Inv X pins σ H s)(h:SqL X.K H a xs):∃its:List Value,Vals xs its∧PlainL s.heap a its.toArray∧xs.length≤sizeLine:=by
 rcases h with h | ⟨o,its,n,hk,hc,hd,hs,hz,r⟩
 ·obtain⟨z,its,n,r,e⟩:=h.ok I.hok
  exact⟨its,r,⟨_,n,e,rfl,rfl,rfl⟩,z⟩
 ·refine⟨its.toList,r,⟨o,n,I.kIn a o hk,hc,hd,by simpa using hs⟩,?_⟩
  have e:=r.length
  simp only[Array.length_toList] at e
  omega
theorem Inv.tuple (I:Inv X pins σ H s)(h:SqT X.K H a xs):∃its:List Value,Vals xs its∧IsTup s.heap a its.toArray∧xs.length≤sizeLine:=by
 rcases h with h | ⟨o,its,n,hk,hc,hs,hz,r⟩
 ·obtain⟨z,its,r,p⟩:=h.ok I.hok
  exact⟨its,r,p,z⟩
 ·refine⟨its.toList,r,⟨o,I.kIn a o hk,hc,n,by simpa using hs⟩,?_⟩
  have e:=r.length
  simp only[Array.length_toList] at e
  omega
theorem Inv.list_inj (I:Inv X pins σ H s)(h:SqL X.K H a xs)(h':SqL X.K H a ys):xs=ys:=by
 obtain⟨its,r,⟨o,n,e,_,_,d⟩,_⟩:=I.list h
 obtain⟨its',r',⟨o',n',e',_,_,d'⟩,_⟩:=I.list h'
 rw[e] at e';cases e'
 rw[d] at d'
 injection d' with d1 _
 have:its=its':=by simpa using congrArg Array.toList d1
 subst this
 exact r.inj r'
end
abbrev Cx.wish (X:Cx)(E:Value→Shared→Prop):Cx:={ X with xe:=E }
abbrev Cx.nox (X:Cx):Cx:=X.wish fun _ _=>False
theorem Cx.Ok.wish {X:Cx}(ok:X.Ok)(E:Value→Shared→Prop):(X.wish E).Ok:=
 ⟨ok.mod,ok.kind,ok.glob,ok.blt,ok.above,ok.inj,ok.has,ok.cab,ok.hd,ok.frames,ok.stk,ok.exf,ok.bs,ok.bsz,ok.noex,ok.exfs,ok.funs,ok.frf⟩
theorem Cx.Ok.unwish {X:Cx}{E:Value→Shared→Prop}(ok:(X.wish E).Ok):X.Ok:=
 ⟨ok.mod,ok.kind,ok.glob,ok.blt,ok.above,ok.inj,ok.has,ok.cab,ok.hd,ok.frames,ok.stk,ok.exf,ok.bs,ok.bsz,ok.noex,ok.exfs,ok.funs,ok.frf⟩
section
variable {X:Cx} {pins:List (Addr × Obj)} {σ:St} {H:Hp} {s:Shared} {E:Value→Shared→Prop}
theorem Inv.wish (I:Inv X pins σ H s)(E:Value→Shared→Prop):Inv (X.wish E) pins σ H s:=⟨I.ok.wish E,I.os,I.bare,I.base,I.loc,I.cell,I.free,I.freeC,I.pin,I.hok,I.len⟩
theorem Inv.unwish (I:Inv (X.wish E) pins σ H s):Inv X pins σ H s:=⟨I.ok.unwish,I.os,I.bare,I.base,I.loc,I.cell,I.free,I.freeC,I.pin,I.hok,I.len⟩
theorem SP.unwish {D:Ends}{f:Flow}{s':Shared}(h:SP (X.wish E) pins D f s'):SP X pins D f s':=by
 cases f with
 |next=>obtain⟨σ',H',I,q⟩:=h;exact⟨σ',H',I.unwish,q⟩
 |brk=>obtain⟨σ',H',I,q⟩:=h;exact⟨σ',H',I.unwish,q⟩
 |cont=>obtain⟨σ',H',I,q⟩:=h;exact⟨σ',H',I.unwish,q⟩
 |ret u=>obtain⟨v,σ',H',I,r,q⟩:=h;exact⟨v,σ',H',I.unwish,r,q⟩
theorem PSs.nox {st:List Stmt}{t:TS}(h:PSs X.nox st t):PSs X st t:=fun pins s σ H D I hw=>
 wpAny_mono (h pins s σ H D (I.wish _) hw) (fun _ _ q=>q.unwish) fun _ _ z=>False.elim z
end
section
variable {X:Cx} {st:Stmt} {rest:List Stmt} {t u:TS} {e:Expr} {te:TE} {pos:Pos}
def tNext:TS:=fun D σ H=>D.nx σ H
def tSeq (t u:TS):TS:=fun D σ H=>t { D with nx:=u D } σ H
theorem pss_nil:PSs X [] tNext:=fun _ _ σ H _ I h=>wpAny_execs_nil ⟨σ,H,I,h⟩
theorem pss_cons (h1:PS X st t)(h2:PSs X rest u):PSs X (st :: rest) (tSeq t u):=by
 intro pins s σ H D I h
 refine wpAny_execs_cons (thn (h1 pins s σ H { D with nx:=u D } I h) fun f s1 q=>?_)
 cases f with
 |next=>
  obtain⟨σ',H',I',q⟩:=q
  exact h2 pins s1 σ' H' D I' q
 |ret v=>exact q
 |brk=>exact q
 |cont=>exact q
theorem pss_one (h1:PS X st t):PSs X [st] t:=by
 intro pins s σ H D I h
 refine wpAny_execs_cons (thn (h1 pins s σ H D I h) fun f s1 q=>?_)
 cases f with
 |next=>exact wpAny_execs_nil q
 |ret v=>exact q
 |brk=>exact q
 |cont=>exact q
theorem Inv.quiet {pins:List (Addr × Obj)}{σ:St}{H:Hp}{s:Shared}(I:Inv X pins σ H s):interactive X.env=false:=by simp[interactive,I.ok.kind]
def tDrop (te:TE):TS:=fun D σ H=>te σ H fun _ H1=>D.nx σ H1
theorem ps_expr (he:PE X e te)(hs:swapsWith e none pos.line X.env=pure false:=by rfl):PS X (.Expr e pos) (tDrop te):=by
 intro pins s σ H D I h
 exact wpAny_Expr_any (thn (he pins s σ H _ I h) fun v s1 ⟨x,H1,I1,r1,q1⟩=>⟨σ,H1,I1,q1⟩) I.quiet hs
def tRet (te:TE):TS:=fun D σ H=>te σ H D.rt
theorem ps_ret (he:PE X e te):PS X (.Return (some e) pos) (tRet te):=by
 intro pins s σ H D I h
 exact wpAny_Return_some (thn (he pins s σ H _ I h) fun v s1 ⟨x,H1,I1,r1,q1⟩=>⟨x,σ,H1,I1,r1,q1⟩)
def tIfS (c:TT)(t u:TS):TS:=fun D σ H=>c σ H fun b H1=>if b=true then t D σ H1 else u D σ H1
theorem ps_if {c:Expr}{a b:List Stmt}{tc:TT}(hc:PT X c tc)(ha:PSs X a t)(hb:PSs X b u):PS X (.If c a b pos) (tIfS tc t u):=by
 intro pins s σ H D I h
 refine wpAny_If (thn (hc pins s σ H _ I h) fun d s1 ⟨H1,I1,q1⟩=>?_)
 cases d with
 |true=>exact ha pins s1 σ H1 D I1 q1
 |false=>exact hb pins s1 σ H1 D I1 q1
def tNever:TS:=fun _ _ _=>False
theorem ps_never:PS X st tNever:=fun _ _ _ _ _ _ h=>h.elim
end
abbrev TG:=V→St→Hp→(St→Hp→Prop)→Prop
abbrev TGs:=List V→St→Hp→(St→Hp→Prop)→Prop
def PG (X:Cx)(target:Expr)(t:TG):Prop:=
 ∀(pins:List (Addr × Obj)) (s:Shared) (σ:St) (H:Hp) (v:V) (u:Value) (Q:St→Hp→Prop),Inv X pins σ H s→RelV v u→t v σ H Q→
  wpAny (model X.prog X.w) X.A (assign target X.env u) (fun _ s'=>∃σ' H',Inv X pins σ' H' s'∧Q σ' H') X.xe s
def PGs (X:Cx)(ts:List Expr)(t:TGs):Prop:=
 ∀(pins:List (Addr × Obj)) (s:Shared) (σ:St) (H:Hp) (vs:List V) (us:List Value) (Q:St→Hp→Prop),Inv X pins σ H s→Vals vs us→t vs σ H Q→
  wpAny (model X.prog X.w) X.A (assignInOrder ((assignEach ts X.env).map (·.2)) us) (fun _ s'=>∃σ' H',Inv X pins σ' H' s'∧Q σ' H') X.xe s
abbrev TSet:=V→V→V→Hp→(Hp→Prop)→Prop
abbrev TIp:=V→V→Hp→VK→Prop
section
variable {X:Cx} {pos:Pos}
def gName (i:Nat):TG:=fun v σ H Q=>Q (σ.set i (some v)) H
theorem pg_name {i:Nat}{x:Str}(hN:X.N.Nodup)(hi:X.N[i]?=some x)(hx:Loc X.env.scope x)(hf:X.fn x=true∨X.env.scope.names.lookup x=some .local:=by first | exact .inl rfl | exact .inr rfl | assumption):PG X (.Name x pos) (gName i):=by
 intro pins s σ H v u Q I r h
 exact wpAny_assign_Name (store_ok I hN hi hx r (fun s' I'=>⟨_,H,I',h⟩) hf)
def gNil:TGs:=fun vs σ H Q=>vs=[]∧Q σ H
def gCons (t:TG)(u:TGs):TGs:=fun vs σ H Q=>∃v r,vs=v :: r∧t v σ H fun σ' H'=>u r σ' H' Q
theorem pgs_nil:PGs X [] gNil:=by
 intro pins s σ H vs us Q I r h
 obtain⟨e,h⟩:=h
 subst e
 cases r
 exact assignInOrder_nil ⟨σ,H,I,h⟩
theorem pgs_cons {e:Expr}{es:List Expr}{t:TG}{u:TGs}(h1:PG X e t)(h2:PGs X es u)(hs:(assignEach (e :: es) X.env).map (·.2)=assign e X.env :: (assignEach es X.env).map (·.2):=by rfl):PGs X (e :: es) (gCons t u):=by
 intro pins s σ H vs us Q I r h
 obtain⟨v,vr,e1,h⟩:=h
 subst e1
 cases r with
 |cons r rr=>
  rw[hs]
  refine assignInOrder_cons (thn (h1 pins s σ H _ _ _ I r h) fun _ s1 ⟨σ1,H1,I1,q1⟩=>?_)
  exact h2 pins s1 σ1 H1 _ _ Q I1 rr q1
def gTup (K:PySem.W.Frag)(n:Nat)(t:TGs):TG:=fun v σ H Q=>∃a xs,v=.ref a∧SqT K H a xs∧xs.length=n∧t xs σ H Q
theorem pg_tup {es:List Expr}{k:Nat}{t:TGs}{n:Nat}(hc:X.calm=true)(h:PGs X es t)(hn:(assignEach es X.env).length=n:=by rfl)(hst:(assignEach es X.env).findIdx? (·.1)=none:=by rfl):PG X (.Tuple es k pos) (gTup X.K n t):=by
 intro pins s σ H v u Q I r hw
 obtain⟨a,xs,e1,hq,hl,hw⟩:=hw
 subst e1
 cases r
 obtain⟨its,rv,ht,hz⟩:=I.tuple hq
 refine assign_Tuple_tuple (I.ok.hd hc) ht (by simp[hn,← hl,rv.length]) hst fun h' hx=>?_
 have I1:Inv X pins σ H { s with heap:=h' }:=I.kept (t':=s.toks) fun b o e=>hx b o (Nat.ne_of_lt (Heap.lt_size e)) e
 exact h pins _ σ H xs _ Q I1 (by simpa using rv) hw
def tAsg (te:TE)(g:TG):TS:=fun D σ H=>te σ H fun x H1=>g x σ H1 D.nx
theorem ps_asg {tg e:Expr}{te:TE}{g:TG}(he:PE X e te)(hg:PG X tg g)(hs:swapsWithSole [tg] e pos.line X.env=pure false:=by rfl)(hw:swappedStores [tg] e X.env=pure none:=by rfl)(h1:(assignEach [tg] X.env).map (·.2)=[assign tg X.env]:=by rfl):PS X (.Assign [tg] e pos) (tAsg te g):=by
 intro pins s σ H D I h
 refine wpAny_Assign_stores (thn (he pins s σ H _ I h) fun v s1 ⟨x,H1,I1,r1,q1⟩=>?_) hs hw
 rw[h1]
 exact thn (hg pins s1 σ H1 x v _ I1 r1 q1) fun _ s2 q=>q
theorem ps_set {i:Nat}{x:Str}{e:Expr}{te:TE}{pos':Pos}(hN:X.N.Nodup)(hi:X.N[i]?=some x)(hx:Loc X.env.scope x)(he:PE X e te)(hs:swapsWith e (some (.Name x pos')) pos.line X.env=pure false:=by rfl)(hf:X.fn x=true∨X.env.scope.names.lookup x=some .local:=by first | exact .inl rfl | exact .inr rfl | assumption) :
  PS X (.Assign [.Name x pos'] e pos) (tAsg te (gName i)):=by
 intro pins s σ H D I h
 refine wpAny_Assign_Name (thn (he pins s σ H _ I h) fun v s1 ⟨y,H1,I1,r1,q1⟩=>?_) hs
 exact store_ok I1 hN hi hx r1 (fun s2 I2=>⟨_,H1,I2,q1⟩) hf
def tWhile (c:TT)(tb:TS):TS:=fun D σ H=>∃W:Nat→St→Hp→Prop,(∃m,W m σ H)∧∀m σ H,W m σ H→
 c σ H fun b H1=>if b=true then ∃N:St→Hp→Prop,(∀σ' H',N σ' H'→∃m',m' < m∧W m' σ' H')∧tb { D with nx:=N,ct:=N,bk:=D.nx } σ H1 else D.nx σ H1
theorem ps_while {c:Expr}{body:List Stmt}{tc:TT}{tb:TS}(hp:PassesOwn (model X.prog X.w) X.A X.env X.xe)(hc:PT X c tc)(hb:PSs X body tb):PS X (.While c body [] pos) (tWhile tc tb):=by
 intro pins s σ H D I h
 obtain⟨W,⟨m0,w0⟩,turn⟩:=h
 refine wpAny_While (codeAny_whileLoop (fun n s'=>∃σ' H',Inv X pins σ' H' s'∧W n σ' H') ?_ m0 ⟨σ,H,I,w0⟩)
 rintro n s1 ⟨σ1,H1,I1,w1⟩
 refine wpAny_passesOwn hp (thn (hc pins s1 σ1 H1 _ I1 (turn n σ1 H1 w1)) fun b s2 ⟨H2,I2,q2⟩=>?_)
 cases b with
 |true=>
  obtain⟨N,hN,q2⟩:=q2
  rw[if_pos rfl]
  refine wpAny_passesOwn hp (thn (hb pins s2 σ1 H2 _ I2 q2) fun f s3 q3=>?_)
  cases f with
  |next=>
   obtain⟨σ3,H3,I3,n3⟩:=q3
   obtain⟨m',hm,w3⟩:=hN σ3 H3 n3
   exact⟨m',hm,σ3,H3,I3,w3⟩
  |cont=>
   obtain⟨σ3,H3,I3,n3⟩:=q3
   obtain⟨m',hm,w3⟩:=hN σ3 H3 n3
   exact⟨m',hm,σ3,H3,I3,w3⟩
  |brk=>exact q3
  |ret v=>exact q3
 |false=>
  rw[if_neg Bool.false_ne_true]
  exact wpAny_execs_nil ⟨σ1,H2,I2,q2⟩
end
structure It where
 go:Nat→Hp→Prop
 yld:Nat→Hp→V→Hp→Prop
 stop:Nat→Hp→Prop
def FpOk (X:Cx)(pins:List (Addr × Obj))(H:Hp)(b:Addr):Prop:=
 H b=none∧b≠X.env.locals∧b∉X.fs∧(b∈X.ex∨X.s₀.heap.objs.size≤b)∧(∀x c,X.env.cells.lookup x=some c→c≠b)∧∀p∈X.pn++pins,p.1≠b
theorem Inv.fpOk {X:Cx}{pins:List (Addr × Obj)}{σ:St}{H H':Hp}{s:Shared}{b:Addr}(I:Inv X pins σ H s)(hb:s.heap.objs.size≤b)(hn:H' b=none):FpOk X pins H' b:=by
 refine⟨hn,Nat.ne_of_gt (Nat.lt_of_lt_of_le I.lt hb),I.nofs hb,.inr (Nat.le_trans I.sz hb),fun x c e z=>?_,fun p hp z=>?_⟩
 ·obtain⟨v,q⟩:=I.cell x c e
  exact absurd (Nat.lt_of_lt_of_le q.lt (by rw[z];exact hb)) (Nat.lt_irrefl _)
 ·exact absurd (Nat.lt_of_lt_of_le (Heap.lt_size (I.pin p hp).1) (by rw[z];exact hb)) (Nat.lt_irrefl _)
structure Turn (P:Program) (w:World) (K:PySem.W.Frag) (tg:Expr) (J:It) (fp:List Addr) (it:Addr) (tn:Nat→Heap→Prop):Prop where
 mem:it∈fp
 obj:∀i h,tn i h→∀b∈fp,∃o,h.get? b=some o∧∀v,o.data≠.cell v
 keep:∀i h h',tn i h→(∀b∈fp,∀o,h.get? b=some o→h'.get? b=some o)→tn i h'
 item:∀(X:Cx),X.prog=P→X.w=w→X.K=K→X.calm=true→∀(i:Nat) (pins:List (Addr × Obj)) (s:Shared) (σ:St) (H:Hp) (E:Value→Shared→Prop),Inv X pins σ H s→(∀b∈fp,FpOk X pins H b)→tn i s.heap→J.go i H→
  wpAny (model P w) X.A (pyNext (.ref it)) (fun r s1=>∃u,r=some u∧
   wpAny (model P w) X.A (letOwnedTupleGo tg (.ref it) u) (fun _ s2=>∃x H',Inv X pins σ H' s2∧RelV x u∧J.yld i H x H'∧tn (i+1) s2.heap∧∀b∈fp,H' b=none) E s1) E s
 done:∀(X:Cx),X.prog=P→X.w=w→X.K=K→X.calm=true→∀(i:Nat) (pins:List (Addr × Obj)) (s:Shared) (σ:St) (H:Hp) (E:Value→Shared→Prop),Inv X pins σ H s→(∀b∈fp,FpOk X pins H b)→tn i s.heap→J.stop i H→
  wpAny (model P w) X.A (pyNext (.ref it)) (fun r s1=>r=none∧Inv X pins σ H s1) E s
 self:∀(A:Around) (i:Nat) (s:Shared) (Q:Value→Shared→Prop) (E:Value→Shared→Prop),tn i s.heap→Q (.ref it) s→wpAny (model P w) A (pyIter (.ref it)) Q E s
abbrev TI:=St→Hp→(It→Hp→Prop)→Prop
def PIE (X:Cx)(pins:List (Addr × Obj))(σ:St)(tg:Expr)(R:It→Hp→Prop)(itv:Value)(s2:Shared):Prop:=
 ∃(it:Addr) (fp:List Addr) (tn:Nat→Heap→Prop) (J:It) (H':Hp),itv=.ref it∧Inv X pins σ H' s2∧Turn X.prog X.w X.K tg J fp it tn∧tn 0 s2.heap∧(∀b∈fp,FpOk X pins H' b)∧R J H'
def PI (X:Cx)(tg iter:Expr)(wi:TI):Prop:=
 ∀(pins:List (Addr × Obj)) (s:Shared) (σ:St) (H:Hp) (R:It→Hp→Prop),Inv X pins σ H s→wi σ H R→
  wpAny (model X.prog X.w) X.A (eval iter X.env) (fun v s1=>wpAny (model X.prog X.w) X.A (pyIter v) (PIE X pins σ tg R) X.xe s1) X.xe s
theorem go_of {M : Model}{A : Around}{E : Value → Shared → Prop}{s : Shared}{tg : Expr}{it : Addr}{u : Value}{o : Obj}{n : String}{vs : Array Value}{Q : Unit → Shared → Prop}(ho : s.heap.get? it = some o)(hc : o.cls = .type n)(hd : o.data = .fields vs)(hn : ["enumerate", "zip", "dict_itemiterator", "dict_reverseitemiterator", "odict_iterator", "itertools.zip_longest", "itertools.pairwise"].contains n = false)(hQ : Q () s) : wpAny M A (letOwnedTupleGo tg (.ref it) u) Q E s := by
  unfold letOwnedTupleGo
  cases tg <;> first
    | exact wpAny_pure hQ
    | (cases u <;> first
        | exact wpAny_pure hQ
        | (refine wpAny_bind (wpAny_load ho ?_)
           rw [hc, hd]
           show wpAny M A (if (["enumerate", "zip", "dict_itemiterator", "dict_reverseitemiterator", "odict_iterator", "itertools.zip_longest", "itertools.pairwise"].contains n && vs[0]? == some (rawInt _)) = true then _ else _) Q E s
           rw [if_neg (by intro h; rw [hn, Bool.false_and] at h; cases h)]
           exact wpAny_pure hQ))
def Itl (K:PySem.W.Frag)(a:Addr):It:=
 ⟨fun i H=>∃xs x,SqL K H a xs∧xs[i]?=some x,fun i H x H'=>H'=H∧∀xs,SqL K H a xs→xs[i]?=some x,fun i H=>∃xs,SqL K H a xs∧xs.length≤i⟩
def Itr (lo:Int)(n:Nat):It:=⟨fun i _=>i < n,fun i H x H'=>H'=H∧x=.int (lo+i),fun i _=>n≤i⟩
theorem turn_list {P:Program}{w:World}{K:PySem.W.Frag}{tg:Expr}(a it:Addr):Turn P w K tg (Itl K a) [it] it (fun i h=>h.IsListIter it a i) where
 mem:=by simp
 obj:=fun i h st b hb=>by
  have e:b=it:=by simpa using hb
  subst e
  obtain⟨o,e,c,d⟩:=st
  exact⟨o,e,fun v z=>by rw[d] at z;cases z⟩
 keep:=fun i h h' st k=>st.at fun o e=>k it (by simp) o e
 item:=by
  intro X hP hw hK hc i pins s σ H E I hf st hg
  subst hP hw hK
  obtain⟨xs,x,hq,hx⟩:=hg
  obtain⟨its,rv,p,hz⟩:=I.list hq
  obtain⟨u,hu,ru⟩:=rv.get hx
  obtain⟨f0,f1,f2,f3,f4,f5⟩:=hf it (by simp)
  refine wpAny_pyNext_list_item st p.isList (x:=u) (by simpa using hu) fun h' st' sb=>?_
  have I1:Inv X pins σ H { s with heap:=h' }:=I.turned (t':=s.toks) (fun b o hb e=>(sb.2 b hb).trans e) f0 f1 f3 f4 f5
  obtain⟨o,e,c,d⟩:=id st'
  exact⟨u,rfl,go_of (s:={ s with heap:=h' }) e c d (by decide) ⟨x,H,I1,ru,⟨rfl,fun ys hy=>by rw[I.list_inj hy hq];exact hx⟩,st',fun b hb=>(hf b hb).1⟩⟩
 done:=by
  intro X hP hw hK hc i pins s σ H E I hf st hg
  subst hP hw hK
  obtain⟨xs,hq,hx⟩:=hg
  obtain⟨its,rv,p,hz⟩:=I.list hq
  obtain⟨f0,f1,f2,f3,f4,f5⟩:=hf it (by simp)
  have hl:=rv.length
  exact wpAny_pyNext_list_end (I.ok.hd hc) st p.isList (by simp;omega) fun h' eb=>⟨rfl,I.turned (t':=s.toks) (fun b o hb e=>eb b o hb e) f0 f1 f3 f4 f5⟩
 self:=fun _ _ _ _ _ st h=>wpAny_pyIter_listiter st h
theorem turn_range {P:Program}{w:World}{K:PySem.W.Frag}{tg:Expr}(it:Addr)(lo:Int)(n:Nat):Turn P w K tg (Itr lo n) [it] it (fun i h=>IsRangeIter h it (lo+(i:Nat)*1) ((n:Int) - (i:Nat)) 1) where
 mem:=by simp
 obj:=fun i h st b hb=>by
  have e:b=it:=by simpa using hb
  subst e
  exact⟨_,st,fun v z=>by
   have z':Data.fields _=Data.cell v:=z
   cases z'⟩
 keep:=fun i h h' st k=>k it (by simp) _ st
 item:=by
  intro X hP hw hK hc i pins s σ H E I hf st hg
  subst hP hw hK
  obtain⟨f0,f1,f2,f3,f4,f5⟩:=hf it (by simp)
  have W:=Walks.range (prog:=X.prog) (w:=X.w) (I.ok.hd hc) it lo 1 n
  refine W.item i s _ _ hg st fun v h' tk hv st' kk=>?_
  obtain⟨t,rfl⟩:=hv
  have I1:Inv X pins σ H { s with heap:=h',toks:=tk }:=I.turned (fun b o hb e=>kk b o (by simpa using hb) e) f0 f1 f3 f4 f5
  refine⟨_,rfl,go_of (s:={ s with heap:=h',toks:=tk }) (n:="range_iterator") st' rfl rfl (by decide) ⟨.int (lo+i),H,I1,⟨t,?_⟩,⟨rfl,rfl⟩,st',fun b hb=>(hf b hb).1⟩⟩
  rw[Int.mul_one]
 done:=by
  intro X hP hw hK hc i pins s σ H E I hf st hg
  subst hP hw hK
  obtain⟨f0,f1,f2,f3,f4,f5⟩:=hf it (by simp)
  exact wpAny_pyNext_range_end (I.ok.hd hc) st (by have:n≤i:=hg;omega) fun h' eb=>⟨rfl,I.turned (t':=s.toks) (fun b o hb e=>eb b o hb e) f0 f1 f3 f4 f5⟩
 self:=fun _ _ _ _ _ st h=>wpAny_pyIter_rangeiter st h
section
variable {X:Cx} {tg:Expr}
def iList (K:PySem.W.Frag)(tl:TE):TI:=fun σ H R=>tl σ H fun x H1=>∃a,x=.ref a∧(∃xs,SqL K H1 a xs)∧R (Itl K a) H1
theorem pi_list {l:Expr}{tl:TE}(hl:PE X l tl):PI X tg l (iList X.K tl):=by
 intro pins s σ H R I h
 refine thn (hl pins s σ H _ I h) fun v s1 ⟨x,H1,I1,r1,q1⟩=>?_
 obtain⟨a,e,⟨xs,hq⟩,q⟩:=q1
 subst e
 cases r1
 obtain⟨its,rv,p,hz⟩:=I1.list hq
 refine wpAny_pyIter_list p.isList ?_
 refine⟨s1.heap.objs.size,[s1.heap.objs.size],_,_,H1,rfl,I1.kept (t':=s1.toks) fun b o e=>Heap.get?_push_of_some _ e,turn_list a _,⟨_,Heap.get?_push_size _ rfl,rfl,rfl⟩,fun b hb=>?_,q⟩
 have e:b=s1.heap.objs.size:=by simpa using hb
 subst e
 exact I1.fpOk (Nat.le_refl _) (I1.hok.fresh (Nat.le_refl _))
theorem range_it {pins:List (Addr × Obj)}{σ:St}{H:Hp}{s:Shared}{R:It→Hp→Prop}{E:Value→Shared→Prop}{lo hi:Int}{t u v:Tok}{tk:Nat}(I:Inv X pins σ H s)(h1:-(2 ^ 62)≤lo)(h2:lo < 2 ^ 62)(h3:-(2 ^ 62)≤hi)(h4:hi < 2 ^ 62)(q:R (Itr lo (hi - lo).toNat) H):wpAny (model X.prog X.w) X.A (pyIter (.ref s.heap.objs.size)) (PIE X pins σ tg R) E { s with heap:=s.heap.push { cls:=.type "range",data:=.fields #[.int lo t,.int hi u,.int 1 v] },toks:=tk }:=by
 refine wpAny_pyIter_range (IsRange.new ..) (small_one h1 h2 h3 h4) ?_
 have I1:Inv X pins σ H { s with heap:=s.heap.push { cls:=.type "range",data:=.fields #[.int lo t,.int hi u,.int 1 v] },toks:=tk }:=I.kept fun b o e=>Heap.get?_push_of_some _ e
 refine⟨(s.heap.push { cls:=.type "range",data:=.fields #[.int lo t,.int hi u,.int 1 v] }).objs.size,[(s.heap.push { cls:=.type "range",data:=.fields #[.int lo t,.int hi u,.int 1 v] }).objs.size],_,_,H,rfl,
  I1.kept (t':=tk) fun b o e=>Heap.get?_push_of_some _ e,turn_range _ lo (hi - lo).toNat,?_,fun b hb=>?_,q⟩
 ·have e1:lo+((0:Nat):Int)*1=lo:=by simp
  have e2:(((hi - lo).toNat:Nat):Int) - ((0:Nat):Int)=Builtin.Range.rangeSize lo hi 1:=by rw[rangeSize_one];split<;>omega
  show IsRangeIter _ _ (lo+((0:Nat):Int)*1) ((((hi - lo).toNat:Nat):Int) - ((0:Nat):Int)) 1
  rw[e1,e2]
  exact Heap.get?_push_size _ rfl
 ·have e:b=(s.heap.push { cls:=.type "range",data:=.fields #[.int lo t,.int hi u,.int 1 v] }).objs.size:=by simpa using hb
  subst e
  exact I1.fpOk (Nat.le_refl _) (I1.hok.fresh (Nat.le_refl _))
def iRng1 (ta:TA):TI:=fun σ H R=>ta σ H fun vs H1=>∃j:Int,vs=[.int j]∧-(2 ^ 62)≤j∧j < 2 ^ 62∧R (Itr 0 j.toNat) H1
theorem pi_range1 {a:Expr}{ta:TA}{p pos:Pos}(hg:Gl X "range")(hm:X.mg "range"=none)(ha:PA X [a] ta)(hs:starEach [a] X.env=[(false,eval a X.env)]:=by rfl):PI X tg (.Call (.Name "range" p) [a] [] pos) (iRng1 ta):=by
 intro pins s σ H R I h
 refine Call_ (ld_blt I hg hm boot_range (PyProof.Rows.callWith_type1 (thn (ha pos pins s σ H _ I h) fun us s1 ⟨vs,H1,I1,r1,q1⟩=>?_) hs rfl))
 obtain⟨j,e,q1,q2,q⟩:=q1
 subst e
 cases r1 with
 |cons r rr=>
  cases rr
  obtain⟨t,rfl⟩:=r
  exact call_range_1 (range_it I1 (by omega) (by omega) q1 q2 (by simpa using q))
def tFor (wi:TI)(g:TG)(tb:TS):TS:=fun D σ H=>wi σ H fun J H1=>∃W:Nat→Nat→St→Hp→Prop,(∃m,W 0 m σ H1)∧∀i m σ H,W i m σ H→
 (J.stop i H∧D.nx σ H)∨(J.go i H∧∃N:St→Hp→Prop,(∀σ' H',N σ' H'→∃m',m' < m∧W (i+1) m' σ' H')∧∀x H',J.yld i H x H'→g x σ H' fun σ2 H2=>tb { D with nx:=N,ct:=N,bk:=D.nx } σ2 H2)
def pinsAt (fp:List Addr)(h:Heap):List (Addr × Obj):=fp.filterMap fun b=>(h.get? b).map fun o=>(b,o)
theorem mem_pinsAt {fp:List Addr}{h:Heap}{b:Addr}{o:Obj}(hb:b∈fp)(e:h.get? b=some o):(b,o)∈pinsAt fp h:=List.mem_filterMap.mpr ⟨b,hb,by rw[e];rfl⟩
theorem of_pinsAt {fp:List Addr}{h:Heap}{p:Addr × Obj}(hp:p∈pinsAt fp h):p.1∈fp∧h.get? p.1=some p.2:=by
 obtain⟨b,hb,e⟩:=List.mem_filterMap.mp hp
 cases q:h.get? b with
 |none=>rw[q] at e;cases e
 |some o=>
  rw[q] at e
  have e':(b,o)=p:=Option.some.inj e
  subst e'
  exact⟨hb,q⟩
theorem Inv.pinned {pins:List (Addr × Obj)}{σ:St}{H:Hp}{s:Shared}{fp:List Addr}(I:Inv X pins σ H s)(hf:∀b∈fp,FpOk X pins H b)(ho:∀b∈fp,∃o,s.heap.get? b=some o∧∀v,o.data≠.cell v):Inv X (pins++pinsAt fp s.heap) σ H s:=
 I.pins_of fun p hp=>(List.mem_append.mp hp).elim (fun z=>I.pin p (List.mem_append_right _ z)) fun z=>by
  obtain⟨hb,e⟩:=of_pinsAt z
  obtain⟨f0,f1,f2,_⟩:=hf p.1 hb
  obtain⟨o,e',d⟩:=ho p.1 hb
  rw[e] at e';cases e'
  exact⟨e,f0,f1,f2,d⟩
theorem Inv.unpinned {pins pl:List (Addr × Obj)}{σ:St}{H:Hp}{s:Shared}(I:Inv X (pins++pl) σ H s):Inv X pins σ H s:=I.pins_of fun p hp=>I.pin p (List.mem_append_right _ (List.mem_append_left _ hp))
theorem ps_for {iter:Expr}{body:List Stmt}{wi:TI}{g:TG}{tb:TS}{pos:Pos}(hp:PassesOwn (model X.prog X.w) X.A X.env X.xe)(hc:X.calm=true)(hi:PI X tg iter wi)(hg:PG X tg g)(hb:PSs X body tb)(hs:∀x,foldedSetIterable iter X.env x=pure x:=by intro _;rfl):PS X (.For tg iter body [] pos) (tFor wi g tb):=by
 intro pins s σ H D I h
 refine wpAny_For (thn (hi pins s σ H _ I h) fun v s1 h1=>thn h1 fun itv s2 h2=>?_) hs
 obtain⟨it,fp,tn,J,H2,e,I2,T,st2,f2,W,⟨m0,w0⟩,turn⟩:=h2
 subst e
 have stat:∀{H':Hp},(∀b∈fp,H' b=none)→∀b∈fp,FpOk X pins H' b:=fun hn b hb=>⟨hn b hb,(f2 b hb).2⟩
 refine codeAny_forLoop_any (fun n s'=>∃i σ' H',Inv X pins σ' H' s'∧tn i s'.heap∧(∀b∈fp,H' b=none)∧W i n σ' H') ?_ m0 ⟨0,σ,H2,I2,st2,fun b hb=>(f2 b hb).1,w0⟩
 rintro n s3 ⟨i,σ3,H3,I3,st3,fr3,w3⟩
 rcases turn i n σ3 H3 w3 with ⟨stop,qn⟩ | ⟨go,N,hN,step⟩
 ·refine wpAny_passesOwn hp (thn (T.done X rfl rfl rfl hc i pins s3 σ3 H3 X.xe I3 (stat fr3) st3 stop) fun r s4 ⟨hr,I4⟩=>?_)
  subst hr
  exact wpAny_execs_nil ⟨σ3,H3,I4,qn⟩
 ·refine wpAny_passesOwn hp (thn (T.item X rfl rfl rfl hc i pins s3 σ3 H3 X.xe I3 (stat fr3) st3 go) fun r s4 ⟨u,hr,h4⟩=>?_)
  subst hr
  refine wpAny_passesOwn hp (thn h4 fun _ s5 ⟨x,H5,I5,r5,y5,st5,fr5⟩=>?_)
  have I5':=I5.pinned (stat fr5) (T.obj _ _ st5)
  refine wpAny_passesOwn hp (thn (hg _ s5 σ3 H5 x u _ I5' r5 (step x H5 y5)) fun _ s6 ⟨σ6,H6,I6,q6⟩=>?_)
  refine wpAny_passesOwn hp (thn (hb _ s6 σ6 H6 _ I6 q6) fun f s7 q7=>?_)
  have again:∀{σ7:St} {H7:Hp},Inv X (pins++pinsAt fp s5.heap) σ7 H7 s7→N σ7 H7→∃m,m < n∧∃i σ' H',Inv X pins σ' H' s7∧tn i s7.heap∧(∀b∈fp,H' b=none)∧W i m σ' H':=fun {σ7 H7} I7 n7=>by
   obtain⟨m',hm,w7⟩:=hN σ7 H7 n7
   refine⟨m',hm,i+1,σ7,H7,I7.unpinned,T.keep _ _ _ st5 fun b hb o e=>(I7.pin (b,o) (List.mem_append_right _ (List.mem_append_right _ (mem_pinsAt hb e)))).1,fun b hb=>?_,w7⟩
   obtain⟨o,e,d⟩:=T.obj _ _ st5 b hb
   exact(I7.pin (b,o) (List.mem_append_right _ (List.mem_append_right _ (mem_pinsAt hb e)))).2.1
  cases f with
  |next=>obtain⟨σ7,H7,I7,n7⟩:=q7;exact again I7 n7
  |cont=>obtain⟨σ7,H7,I7,n7⟩:=q7;exact again I7 n7
  |brk=>obtain⟨σ7,H7,I7,q7⟩:=q7;exact⟨σ7,H7,I7.unpinned,q7⟩
  |ret v=>obtain⟨x7,σ7,H7,I7,r7,q7⟩:=q7;exact⟨x7,σ7,H7,I7.unpinned,r7,q7⟩
end
theorem for_list {K:PySem.W.Frag}{a:Addr}{xs:List V}{g:TG}{tb:TS}{D:Ends}{σ:St}{H:Hp}(Pv:Nat→St→Hp→Prop)(h0:Pv 0 σ H)(hl:∀i σ H,i≤xs.length→Pv i σ H→SqL K H a xs)(hs:∀i x σ H,xs[i]?=some x→Pv i σ H→g x σ H fun σ2 H2=>tb { D with nx:=Pv (i+1),ct:=Pv (i+1),bk:=D.nx } σ2 H2)(hd:∀σ H,Pv xs.length σ H→D.nx σ H) :
  ∃W:Nat→Nat→St→Hp→Prop,(∃m,W 0 m σ H)∧∀i m σ H,W i m σ H→
   ((Itl K a).stop i H∧D.nx σ H)∨((Itl K a).go i H∧∃N:St→Hp→Prop,(∀σ' H',N σ' H'→∃m',m' < m∧W (i+1) m' σ' H')∧∀x H',(Itl K a).yld i H x H'→g x σ H' fun σ2 H2=>tb { D with nx:=N,ct:=N,bk:=D.nx } σ2 H2):=by
 refine⟨fun i m σ H=>m=xs.length - i∧i≤xs.length∧Pv i σ H,⟨xs.length,by simp,Nat.zero_le _,h0⟩,?_⟩
 rintro i m σ H ⟨rfl,hi,p⟩
 have q:=hl i σ H hi p
 by_cases hlt:i < xs.length
 ·refine .inr ⟨⟨xs,xs[i],q,by simp[hlt]⟩,Pv (i+1),fun σ' H' p'=>⟨xs.length - (i+1),by omega,rfl,hlt,p'⟩,fun x H' y=>?_⟩
  obtain⟨e,y⟩:=y
  subst e
  exact hs i x σ _ (y xs q) p
 ·have e:i=xs.length:=by omega
  subst e
  exact .inl ⟨⟨xs,q,Nat.le_refl _⟩,hd σ H p⟩
theorem for_range {lo:Int}{n:Nat}{g:TG}{tb:TS}{D:Ends}{σ:St}{H:Hp}(Pv:Nat→St→Hp→Prop)(h0:Pv 0 σ H)(hs:∀i σ H,i < n→Pv i σ H→g (.int (lo+i)) σ H fun σ2 H2=>tb { D with nx:=Pv (i+1),ct:=Pv (i+1),bk:=D.nx } σ2 H2)(hd:∀σ H,Pv n σ H→D.nx σ H) :
  ∃W:Nat→Nat→St→Hp→Prop,(∃m,W 0 m σ H)∧∀i m σ H,W i m σ H→
   ((Itr lo n).stop i H∧D.nx σ H)∨((Itr lo n).go i H∧∃N:St→Hp→Prop,(∀σ' H',N σ' H'→∃m',m' < m∧W (i+1) m' σ' H')∧∀x H',(Itr lo n).yld i H x H'→g x σ H' fun σ2 H2=>tb { D with nx:=N,ct:=N,bk:=D.nx } σ2 H2):=by
 refine⟨fun i m σ H=>m=n - i∧i≤n∧Pv i σ H,⟨n,by simp,Nat.zero_le _,h0⟩,?_⟩
 rintro i m σ H ⟨rfl,hi,p⟩
 by_cases hlt:i < n
 ·refine .inr ⟨hlt,Pv (i+1),fun σ' H' p'=>⟨n - (i+1),by omega,rfl,hlt,p'⟩,fun x H' y=>?_⟩
  obtain⟨e,y⟩:=y
  subst e y
  exact hs i σ _ hlt p
 ·have e:i=n:=by omega
  subst e
  exact .inl ⟨Nat.le_refl _,hd σ H p⟩
theorem while_by {c:TT}{tb:TS}{D:Ends}{σ:St}{H:Hp}(Pv:St→Hp→Prop)(μ:St→Hp→Nat)(h0:Pv σ H)(hs:∀σ H,Pv σ H→c σ H fun b H1=>if b=true then tb { D with nx:=fun σ' H'=>Pv σ' H'∧μ σ' H' < μ σ H,ct:=fun σ' H'=>Pv σ' H'∧μ σ' H' < μ σ H,bk:=D.nx } σ H1 else D.nx σ H1)(mono:∀σ H Q Q',(∀b H1,Q b H1→Q' b H1)→c σ H Q→c σ H Q'):tWhile c tb D σ H:=by
 refine⟨fun m σ H=>m=μ σ H∧Pv σ H,⟨_,rfl,h0⟩,?_⟩
 rintro m σ H ⟨rfl,p⟩
 refine mono σ H _ _ (fun b H1 q=>?_) (hs σ H p)
 cases b with
 |true=>exact⟨_,fun σ' H' ⟨p',l⟩=>⟨_,l,rfl,p'⟩,q⟩
 |false=>exact q
abbrev R2:=V→V→Hp→VK→Prop
def OpR (X:Cx)(f:Value→Value→Sem Value)(r:R2):Prop:=
 ∀(pins:List (Addr × Obj)) (s:Shared) (σ:St) (H:Hp) (x y:V) (v u:Value) (Q:VK),Inv X pins σ H s→RelV x v→RelV y u→r x y H Q→
  wpAny (model X.prog X.w) X.A (f v u) (EP X pins σ Q) X.xe s
def UnR (X:Cx)(f:Value→Sem Value)(r:V→Hp→VK→Prop):Prop:=
 ∀(pins:List (Addr × Obj)) (s:Shared) (σ:St) (H:Hp) (x:V) (v:Value) (Q:VK),Inv X pins σ H s→RelV x v→r x H Q→
  wpAny (model X.prog X.w) X.A (f v) (EP X pins σ Q) X.xe s
def CallR (X:Cx)(f:Value)(r:List V→Hp→VK→Prop):Prop:=
 ∀(pins:List (Addr × Obj)) (s:Shared) (σ:St) (H:Hp) (xs:List V) (us:List Value) (Q:VK),Inv X pins σ H s→Vals xs us→r xs H Q→
  wpAny (model X.prog X.w) X.A (call f us) (EP X pins σ Q) X.xe s
def tOp (r:R2)(ta tb:TE):TE:=fun σ H Q=>ta σ H fun x H1=>tb σ H1 fun y H2=>r x y H2 Q
def tUn (r:V→Hp→VK→Prop)(ta:TE):TE:=fun σ H Q=>ta σ H fun x H1=>r x H1 Q
def rI (C:Int→Int→Prop)(g:Int→Int→V):R2:=fun x y H Q=>∃i j,x=.int i∧y=.int j∧C i j∧Q (g i j) H
def rI0 (g:Int→Int→V):R2:=fun x y H Q=>∃i j,x=.int i∧y=.int j∧Q (g i j) H
def rU (g:Int→V):V→Hp→VK→Prop:=fun x H Q=>∃i,x=.int i∧Q (g i) H
section
variable {X:Cx} {a b c:Expr} {ta tb tc:TE} {pos:Pos}
theorem binT (ha:PE X a ta)(hb:PE X b tb){pins:List (Addr × Obj)}{s:Shared}{σ:St}{H:Hp}{R:V→V→Hp→Prop}(I:Inv X pins σ H s)(h:ta σ H fun x H1=>tb σ H1 fun y H2=>R x y H2){Q:Value→Shared→Prop}{f:Value→Value→Sem Value}(hf:∀v u s2 x y H2,Inv X pins σ H2 s2→RelV x v→RelV y u→R x y H2→wpAny (model X.prog X.w) X.A (f v u) Q X.xe s2) :
  wpAny (model X.prog X.w) X.A (eval a X.env) (fun v s₁=>wpAny (model X.prog X.w) X.A (eval b X.env) (fun u s₂=>wpAny (model X.prog X.w) X.A (f v u) Q X.xe s₂) X.xe s₁) X.xe s:=by
 refine thn (ha pins s σ H _ I h) fun v s1 ⟨x,H1,I1,r1,q1⟩=>?_
 refine thn (hb pins s1 σ H1 _ I1 q1) fun u s2 ⟨y,H2,I2,r2,q2⟩=>?_
 exact hf v u s2 x y H2 I2 r1 r2 q2
theorem pe_op {op:Operator}{r:R2}(ho:OpR X (binaryOp op) r)(ha:PE X a ta)(hb:PE X b tb):PE X (.BinOp a op b pos) (tOp r ta tb):=by
 intro pins s σ H Q I h
 exact wpAny_BinOp (binT ha hb I h fun v u s2 x y H2 I2 rx ry q=>ho pins s2 σ H2 x y v u Q I2 rx ry q)
theorem pe_un {op:UnaryOp}{r:V→Hp→VK→Prop}(ho:UnR X (unaryOp op) r)(ha:PE X a ta):PE X (.UnaryOp op a pos) (tUn r ta):=by
 intro pins s σ H Q I h
 exact UnaryOp_ (thn (ha pins s σ H _ I h) fun v s1 ⟨x,H1,I1,r1,q1⟩=>ho pins s1 σ H1 x v Q I1 r1 q1)
theorem opI {f:Value→Value→Sem Value}{C:Int→Int→Prop}{g:Int→Int→Int}(rule:∀(i j:Int) (t u:Tok) (s:Shared) (Q:Value→Shared→Prop) (E:Value→Shared→Prop),C i j→Q (.int (g i j) s.toks) { s with toks:=s.toks+1 }→wpAny (model X.prog X.w) X.A (f (.int i t) (.int j u)) Q E s) :
  OpR X f (rI C fun i j=>.int (g i j)):=by
 intro pins s σ H x y v u Q I rx ry h
 obtain⟨i,j,rfl,rfl,hc,q⟩:=h
 obtain⟨t,rfl⟩:=rx
 obtain⟨t',rfl⟩:=ry
 exact rule i j t t' s _ _ hc ⟨.int (g i j),H,I.tok _,⟨_,rfl⟩,q⟩
theorem opI0 {f:Value→Value→Sem Value}{g:Int→Int→Int}(rule:∀(i j:Int) (t u:Tok) (s:Shared) (Q:Value→Shared→Prop) (E:Value→Shared→Prop),Q (.int (g i j) s.toks) { s with toks:=s.toks+1 }→wpAny (model X.prog X.w) X.A (f (.int i t) (.int j u)) Q E s) :
  OpR X f (rI0 fun i j=>.int (g i j)):=by
 intro pins s σ H x y v u Q I rx ry h
 obtain⟨i,j,rfl,rfl,q⟩:=h
 obtain⟨t,rfl⟩:=rx
 obtain⟨t',rfl⟩:=ry
 exact rule i j t t' s _ _ ⟨.int (g i j),H,I.tok _,⟨_,rfl⟩,q⟩
theorem opB0 {f:Value→Value→Sem Value}{g:Int→Int→Bool}(rule:∀(i j:Int) (t u:Tok) (s:Shared) (Q:Value→Shared→Prop) (E:Value→Shared→Prop),Q (.bool (g i j)) s→wpAny (model X.prog X.w) X.A (f (.int i t) (.int j u)) Q E s) :
  OpR X f (rI0 fun i j=>.bl (g i j)):=by
 intro pins s σ H x y v u Q I rx ry h
 obtain⟨i,j,rfl,rfl,q⟩:=h
 obtain⟨t,rfl⟩:=rx
 obtain⟨t',rfl⟩:=ry
 exact rule i j t t' s _ _ ⟨.bl (g i j),H,I,rfl,q⟩
def CDiv (i j:Int):Prop:=0 < j∧j < 1073741824
def CPow (i j:Int):Prop:=0≤j∧j≤1000000∧i.natAbs < 2 ^ 64
def CMul (i j:Int):Prop:=(-(2 ^ 64) < i∧i < 2 ^ 64)∨(-(2 ^ 64) < j∧j < 2 ^ 64)
theorem CMul.ok {i j:Int}(h:CMul i j):IntMulOk i j:=by
 rcases h with ⟨h1,h2⟩ | ⟨h1,h2⟩
 ·exact .of_left (intBits_le_64 h1 h2)
 ·exact .of_right (intBits_le_64 h1 h2)
theorem two_pow_nn (k:Nat):(0:Int)≤2 ^ k:=by
 rw[two_pow_cast]
 exact Int.natCast_nonneg _
theorem op_add:OpR X (binaryOp .Add) (rI0 fun i j=>.int (i+j)):=opI0 fun _ _ _ _ _ _ _ q=>add_int q
theorem op_sub:OpR X (binaryOp .Sub) (rI0 fun i j=>.int (i - j)):=opI0 fun _ _ _ _ _ _ _ q=>sub_int q
theorem op_mul:OpR X (binaryOp .Mult) (rI CMul fun i j=>.int (i*j)):=opI fun _ _ _ _ _ _ _ hc q=>mul_int q hc.ok
theorem op_fdiv:OpR X (binaryOp .FloorDiv) (rI CDiv fun i j=>.int (i / j)):=opI fun i j _ _ _ _ _ hc q=>by
 have h1:(0:Int) < j:=hc.1
 have h2:j < 1073741824:=hc.2
 exact floordiv_int (by omega) (by rw[Int.fdiv_eq_ediv_of_nonneg i (by omega)];exact q) (.inl (PyProof.noPylong_small (by omega)))
theorem op_mod:OpR X (binaryOp .Mod) (rI (fun _ j=>0 < j) fun i j=>.int (i % j)):=opI fun i j _ _ _ _ _ hc q=>by
 have h1:(0:Int) < j:=hc
 exact mod_int' (by omega) (by rw[Int.fmod_eq_emod_of_nonneg i (by omega)];exact q)
theorem op_modN:OpR X (binaryOp .Mod) (rI (fun _ j=>j≠0) fun i j=>.int (i.fmod j)):=opI fun _ _ _ _ _ _ _ hc q=>mod_int' hc q
theorem op_pow:OpR X (binaryOp .Pow) (rI CPow fun i j=>.int (i ^ j.toNat)):=opI fun _ _ _ _ _ _ _ hc q=>pow_int_small hc.1 hc.2.1 hc.2.2 q
theorem op_shr:OpR X (binaryOp .RShift) (rI (fun _ j=>0≤j) fun i j=>.int (i / 2 ^ j.toNat)):=opI fun i j _ _ _ _ _ hc q=>
 rshift_int hc (by rw[Int.fdiv_eq_ediv_of_nonneg i (two_pow_nn _)];exact q)
theorem unI {f:Value→Sem Value}{g:Int→Int}(rule:∀(i:Int) (t:Tok) (s:Shared) (Q:Value→Shared→Prop) (E:Value→Shared→Prop),Q (.int (g i) s.toks) { s with toks:=s.toks+1 }→wpAny (model X.prog X.w) X.A (f (.int i t)) Q E s) :
  UnR X f (rU fun i=>.int (g i)):=by
 intro pins s σ H x v Q I rx h
 obtain⟨i,rfl,q⟩:=h
 obtain⟨t,rfl⟩:=rx
 exact rule i t s _ _ ⟨.int (g i),H,I.tok _,⟨_,rfl⟩,q⟩
theorem un_neg:UnR X (unaryOp .USub) (rU fun i=>.int (-i)):=unI fun _ _ _ _ _ q=>neg_int q
end
def scal:V→V→Bool
 | .non,.non=>true | .non,.int _=>true | .int _,.non=>true | .non,.bl _=>true | .bl _,.non=>true | .non,.str _=>true | .str _,.non=>true
 | .int _,.int _=>true | .bl _,.bl _=>true | .str _,.str _=>true | .byt _,.byt _=>true
 | .int _,.str _=>true | .str _,.int _=>true | .bl _,.str _=>true | .str _,.bl _=>true
 |_,_=>false
def rEq:R2:=fun x y H Q=>scal x y=true∧Q (.bl (decide (x=y))) H
def rNe:R2:=fun x y H Q=>scal x y=true∧Q (.bl (!decide (x=y))) H
theorem dec_int {i j:Int}:decide (V.int i=V.int j)=(i == j):=by
 rw[Bool.eq_iff_iff]
 simp
theorem dec_bl {i j:Bool}:decide (V.bl i=V.bl j)=(i == j):=by
 rw[Bool.eq_iff_iff]
 simp
theorem dec_str {i j:Str}:decide (V.str i=V.str j)=(i == j):=by
 rw[Bool.eq_iff_iff]
 simp
theorem dec_byt {i j:Array UInt8}:decide (V.byt i=V.byt j)=(i.toList == j.toList):=by
 rw[Bool.eq_iff_iff]
 cases i
 cases j
 simp
section
variable {X:Cx} {a b c:Expr} {ta tb tc:TE} {pos:Pos}
theorem fin_bl {pins:List (Addr × Obj)}{σ:St}{H:Hp}{s:Shared}{Q:VK}{k k':Bool}(I:Inv X pins σ H s)(q:Q (.bl k) H)(e:k=k'):EP X pins σ Q (.bool k') s:=by
 subst e
 exact⟨.bl k,H,I,rfl,q⟩
theorem op_eq:OpR X (compareOp .Eq) rEq:=by
 intro pins s σ H x y v u Q I rx ry h
 obtain⟨hs,q⟩:=h
 cases x with
 |non=>
  cases rx
  cases y with
  |non=>cases ry;exact PySem.EqNone.eq_none_none (fin_bl I q (by simp))
  |bl j=>cases ry;exact PySem.EqNone.eq_none_bool (fin_bl I q (by simp))
  |int j=>obtain⟨t',rfl⟩:=ry;exact PySem.EqNone.eq_none_int (fin_bl I q (by simp))
  |str j=>obtain⟨t',rfl⟩:=ry;exact PySem.EqNone.eq_none_str (fin_bl I q (by simp))
  |_=>exact absurd (show false=true from hs) Bool.false_ne_true
 |bl i=>
  cases rx
  cases y with
  |non=>cases ry;exact PySem.EqNone.eq_bool_none (fin_bl I q (by simp))
  |bl j=>cases ry;exact eq_bool (fin_bl I q dec_bl)
  |str j=>obtain⟨t',rfl⟩:=ry;exact PySem.EqMixed.eq_bool_str (fin_bl I q (by simp))
  |_=>exact absurd (show false=true from hs) Bool.false_ne_true
 |int i=>
  obtain⟨t,rfl⟩:=rx
  cases y with
  |non=>cases ry;exact PySem.EqNone.eq_int_none (fin_bl I q (by simp))
  |int j=>obtain⟨t',rfl⟩:=ry;exact eq_int (fin_bl I q dec_int)
  |str j=>obtain⟨t',rfl⟩:=ry;exact PySem.EqMixed.eq_int_str (fin_bl I q (by simp))
  |_=>exact absurd (show false=true from hs) Bool.false_ne_true
 |str i=>
  obtain⟨t,rfl⟩:=rx
  cases y with
  |non=>cases ry;exact PySem.EqNone.eq_str_none (fin_bl I q (by simp))
  |bl j=>cases ry;exact PySem.EqMixed.eq_str_bool (fin_bl I q (by simp))
  |int j=>obtain⟨t',rfl⟩:=ry;exact PySem.EqMixed.eq_str_int (fin_bl I q (by simp))
  |str j=>obtain⟨t',rfl⟩:=ry;exact eq_str (fin_bl I q dec_str)
  |_=>exact absurd (show false=true from hs) Bool.false_ne_true
 |byt i=>
  obtain⟨t,rfl⟩:=rx
  cases y with
  |byt j=>obtain⟨t',rfl⟩:=ry;exact PySem.W.eq_bytes (fin_bl I q dec_byt)
  |_=>exact absurd (show false=true from hs) Bool.false_ne_true
 |_=>cases y<;>exact absurd (show false=true from hs) Bool.false_ne_true
theorem op_ne:OpR X (compareOp .NotEq) rNe:=by
 intro pins s σ H x y v u Q I rx ry h
 obtain⟨hs,q⟩:=h
 cases x with
 |non=>
  cases rx
  cases y with
  |non=>cases ry;exact PySem.EqNone.ne_none_none (fin_bl I q (by simp))
  |bl j=>cases ry;exact PySem.EqNone.ne_none_bool (fin_bl I q (by simp))
  |int j=>obtain⟨t',rfl⟩:=ry;exact PySem.EqNone.ne_none_int (fin_bl I q (by simp))
  |str j=>obtain⟨t',rfl⟩:=ry;exact PySem.EqNone.ne_none_str (fin_bl I q (by simp))
  |_=>exact absurd (show false=true from hs) Bool.false_ne_true
 |bl i=>
  cases rx
  cases y with
  |non=>cases ry;exact PySem.EqNone.ne_bool_none (fin_bl I q (by simp))
  |bl j=>cases ry;exact ne_bool (fin_bl I q (congrArg not dec_bl))
  |str j=>obtain⟨t',rfl⟩:=ry;exact PySem.EqMixed.ne_bool_str (fin_bl I q (by simp))
  |_=>exact absurd (show false=true from hs) Bool.false_ne_true
 |int i=>
  obtain⟨t,rfl⟩:=rx
  cases y with
  |non=>cases ry;exact PySem.EqNone.ne_int_none (fin_bl I q (by simp))
  |int j=>obtain⟨t',rfl⟩:=ry;exact ne_int (fin_bl I q (congrArg not dec_int))
  |str j=>obtain⟨t',rfl⟩:=ry;exact PySem.EqMixed.ne_int_str (fin_bl I q (by simp))
  |_=>exact absurd (show false=true from hs) Bool.false_ne_true
 |str i=>
  obtain⟨t,rfl⟩:=rx
  cases y with
  |non=>cases ry;exact PySem.EqNone.ne_str_none (fin_bl I q (by simp))
  |bl j=>cases ry;exact PySem.EqMixed.ne_str_bool (fin_bl I q (by simp))
  |int j=>obtain⟨t',rfl⟩:=ry;exact PySem.EqMixed.ne_str_int (fin_bl I q (by simp))
  |str j=>obtain⟨t',rfl⟩:=ry;exact ne_str (fin_bl I q (congrArg not dec_str))
  |_=>exact absurd (show false=true from hs) Bool.false_ne_true
 |byt i=>
  obtain⟨t,rfl⟩:=rx
  cases y with
  |byt j=>obtain⟨t',rfl⟩:=ry;exact PySem.W.ne_bytes (fin_bl I q (congrArg not dec_byt))
  |_=>exact absurd (show false=true from hs) Bool.false_ne_true
 |_=>cases y<;>exact absurd (show false=true from hs) Bool.false_ne_true
theorem op_lt:OpR X (compareOp .Lt) (rI0 fun i j=>.bl (decide (i < j))):=opB0 fun _ _ _ _ _ _ _ q=>lt_int q
theorem op_gt:OpR X (compareOp .Gt) (rI0 fun i j=>.bl (decide (j < i))):=opB0 fun _ _ _ _ _ _ _ q=>gt_int q
theorem op_ge:OpR X (compareOp .GtE) (rI0 fun i j=>.bl (decide (j≤i))):=opB0 fun _ _ _ _ _ _ _ q=>ge_int q
theorem op_in_str:OpR X (compareOp .In) (fun x y H Q=>∃i j,x=.str i∧y=.str j∧Q (.bl (!(Builtin.Str.occurrences j i 0 j.length 1).isEmpty)) H):=by
 intro pins s σ H x y v u Q I rx ry h
 obtain⟨i,j,rfl,rfl,q⟩:=h
 obtain⟨t,rfl⟩:=rx
 obtain⟨t',rfl⟩:=ry
 exact in_str (fin_bl I q rfl)
theorem nomark (b:Expr){op:CmpOp}(h:op≠.In:=by decide)(h2:op≠.NotIn:=by decide):behindInMarks op b=false:=by
 have e1:(op == CmpOp.In)=false:=by cases op<;>first | rfl | exact absurd rfl h
 have e2:(op == CmpOp.NotIn)=false:=by cases op<;>first | rfl | exact absurd rfl h2
 cases b<;>simp[behindInMarks,e1,e2]
theorem pe_cmpR {op:CmpOp}{r:R2}(ho:OpR X (compareOp op) r)(ha:PE X a ta)(hb:PE X b tb)(hm:behindInMarks op b=false):PE X (.Compare a [op] [b] pos) (tOp r ta tb):=by
 intro pins s σ H Q I h
 exact wpAny_Compare1 (binT ha hb I h fun v u s2 x y H2 I2 rx ry q=>ho pins s2 σ H2 x y v u Q I2 rx ry q) hm
def tTest (t:TE):TT:=fun σ H Q=>t σ H fun x H'=>∃k,x=.bl k∧Q k H'
theorem pt_cmpR {op:CmpOp}{r:R2}(ho:OpR X (compareOp op) r)(ha:PE X a ta)(hb:PE X b tb)(hm:behindInMarks op b=false):PT X (.Compare a [op] [b] pos) (tTest (tOp r ta tb)):=by
 intro pins s σ H Q I h
 refine wpAny_isTrue_Compare1 (thn (ha pins s σ H _ I h) fun v s1 ⟨x,H1,I1,r1,q1⟩=>thn (hb pins s1 σ H1 _ I1 q1) fun u s2 ⟨y,H2,I2,r2,q2⟩=>
  thn (ho pins s2 σ H2 x y v u _ I2 r1 r2 q2) fun c s3 ⟨z,H3,I3,r3,k,e,q3⟩=>?_) hm
 subst e
 cases r3
 exact wpAny_truthy_bool ⟨H3,I3,q3⟩
theorem line63:(sizeLine:Nat) < 2 ^ 63:=by rw[sizeLine_eq];decide
theorem op_add_str:OpR X (binaryOp .Add) (fun x y H Q=>∃i j,x=.str i∧y=.str j∧i.length+j.length≤sizeLine∧Q (.str (i++j)) H):=by
 intro pins s σ H x y v u Q I rx ry h
 obtain⟨i,j,rfl,rfl,hz,q⟩:=h
 obtain⟨t,rfl⟩:=rx
 obtain⟨t',rfl⟩:=ry
 exact add_str (fun t' tk=>⟨.str (i++j),H,I.tok _,⟨_,rfl⟩,q⟩) hz
def PlainIxT (b:Expr):Prop:=∀o i,subscripted b false o i=operate [o,i] (getItem o i)
theorem pe_item_str (ha:PE X a ta)(hb:PE X b tb)(hs:PlainIxT b) :
  PE X (.Subscript a b pos) (tOp (fun x y H Q=>∃z i c,x=.str z∧y=.int i∧0≤i∧i < 2 ^ 63∧i < z.length∧z.cps[i.toNat]?=some c∧Q (.str ⟨#[c]⟩) H) ta tb):=by
 intro pins s σ H Q I h
 refine Subscript_ (binT ha hb I h fun v u s2 x y H2 I2 rx ry q=>?_)
 obtain⟨z,i,c,rfl,rfl,h0,h63,h1,hc,q⟩:=q
 obtain⟨t,rfl⟩:=rx
 obtain⟨t',rfl⟩:=ry
 have e:seqIndex? i z.length=some i.toNat:=PySem.StrLaws.seqIndex_nonneg h0 h1
 exact tail_any (typeIs_str s2 z t) slot_str_getitem.lookup (getItem_str (c:=c) (by
  have e1:decide (i < -(2 ^ 63:Int))=false:=decide_eq_false (by omega)
  have e2:decide (i≥2 ^ 63)=false:=decide_eq_false (by omega)
  rw[e1,e2]<;>rfl) (by rw[e];exact hc) ⟨.str ⟨#[c]⟩,H2,I2.tok _,⟨_,rfl⟩,q⟩) (hs _ _)
theorem vals1 {x:V}{us:List Value}(r:Vals [x] us):∃u,us=[u]∧RelV x u:=by
 cases r with
 |cons r1 r2=>cases r2;exact⟨_,rfl,r1⟩
theorem vals2 {x y:V}{us:List Value}(r:Vals [x,y] us):∃u w',us=[u,w']∧RelV x u∧RelV y w':=by
 cases r with
 |cons r1 r2=>
  cases r2 with
  |cons r3 r4=>cases r4;exact⟨_,_,rfl,r1,r3⟩
theorem call_abs:CallR X (.builtin "abs") (fun xs H Q=>∃i,xs=[.int i]∧Q (.int (if i < 0 then -i else i)) H):=by
 intro pins s σ H xs us Q I r h
 obtain⟨i,rfl,q⟩:=h
 obtain⟨u,rfl,t,rfl⟩:=vals1 r
 exact call_abs_int fun u tk=>⟨.int (if i < 0 then -i else i),H,I.tok _,⟨_,rfl⟩,q⟩
end
structure ObjM (h:Heap) (x dx C:Addr) (mA:Str→Option Value):Prop where
 obj:h.get? x=some (PySem.W.instObj C dx)
 ns:h.Ns1 dx mA
 ne:dx≠x
theorem lookIn_ns {h:Heap}{dx:Addr}{mA:Str→Option Value}(n:h.Ns1 dx mA):∃od,h.get? dx=some od∧∀name,PySem.W.lookIn name od=some (mA name):=by
 obtain⟨o,es,ep,ho,hd,hk,_,hm⟩:=n
 refine⟨o,ho,fun name=>?_⟩
 have e:=hm name
 unfold nsFind findBy at e
 rw[← Array.find?_toList] at e
 unfold PySem.W.lookIn
 rw[hd]
 dsimp only
 split
 ·rename_i y q
  rw[q] at e
  exact congrArg some e
 ·rename_i q
  rw[q] at e
  have a:es.toList.any (·.refKey)=false:=by
   rw[List.any_eq_false]
   intro y hy
   obtain⟨z,t,hkey⟩:=hk y (Array.mem_toList_iff.mp hy)
   simp[DictEntry.refKey,hkey]
  have a':¬es.toList.any (·.refKey)=true:=by rw[a];exact Bool.false_ne_true
  rw[if_neg a']
  exact congrArg some e
theorem ObjM.look {h:Heap}{x dx C:Addr}{mA:Str→Option Value}(I:ObjM h x dx C mA):∃od,PySem.W.InstAt h x (PySem.W.instObj C dx) C (some od)∧∀name,PySem.W.lookIn name od=some (mA name):=
 let ⟨od,ho,hl⟩:=lookIn_ns I.ns
 ⟨od,⟨I.obj,rfl,rfl,ho⟩,hl⟩
section
variable {prog:Program} {w:World} {A:Around} {E:Value→Shared→Prop} {s:Shared} {K:PySem.W.Frag} {x dx C f:Addr} {mA:Str→Option Value} {name:Str} {v:Value}
theorem get_map {expr:Bool}{Q:Value→Shared→Prop}(X:K.In s.heap)(I:ObjM s.heap x dx C mA)(hg:PySem.W.plainGet K C name=true)(hh:PySem.W.hasDictIn K C=true)(ha:PySem.W.findIn K (.ref C) name=some none)(hv:mA name=some v)(hv':PySem.W.handedIn v=true)(h:Q v { s with toks:=s.toks+1 }) :
  wpAny (model prog w) A (getAttr (.ref x) name expr) Q E s:=by
 obtain⟨od,J,hl⟩:=I.look
 exact PySem.W.get_value X J (PySem.W.plainGet_of hg).1 (PySem.W.findObj_own hh ha rfl (by rw[hl,hv])) hv' h
theorem get_meth {pl:Sem Bool}{Q:Value × List Value→Shared→Prop}(X:K.In s.heap)(I:ObjM s.heap x dx C mA)(hg:PySem.W.plainGet K C name=true)(hf:PySem.W.findIn K (.ref C) name=some (some (.ref f)))(ht:PySem.W.isFn K (.ref f)=true)(hv:mA name=none)(h:Q (.ref f,[.ref x]) s) :
  wpAny (model prog w) A (getMethod (.ref x) name pl) Q E s:=by
 obtain⟨od,J,hl⟩:=I.look
 exact PySem.W.method_fn X J (PySem.W.plainGet_of hg).1 (PySem.W.plainGet_of hg).2 hf (beq_iff_eq.mp ht) (by show (PySem.W.lookIn name od).map (·.isSome)=some false;rw[hl,hv];rfl) h
theorem set_map {ns:List Str}{Q:Unit→Shared→Prop}(X:K.In s.heap)(I:ObjM s.heap x dx C mA)(hs:PySem.W.findIn K (.ref C) "__setattr__"=some (some (.builtin "object.__setattr__")))(hp:PySem.W.plainOver K C=true)(ht:PySem.W.takerIn K C name=some none)(hh:PySem.W.hasDictIn K C=true)(hw:PySem.Within mA ns)(hsz:ns.length≤sizeLine)(h:∀h',ObjM h' x dx C (fun y=>if y=name then some v else mA y)→Heap.SameBut dx s.heap h'→Q () { s with heap:=h',toks:=s.toks+2 }) :
  wpAny (model prog w) A (setAttr (.ref x) name v) Q E s:=by
 obtain⟨od,J,hl⟩:=I.look
 refine PySem.W.set_plain X J hs (PySem.W.osa_open (s:={ s with toks:=s.toks+1 }) (r:=none) X J hp ht fun b=>?_)
 obtain⟨cd,hc,hd'⟩:=PySem.W.any_some hh
 have hx:s.heap.get? x=some ⟨.ref C,some dx,.plain,#[]⟩:=I.obj
 refine wpAny_bind (wpAny_pure (wpAny_bind (wpAny_bind (wpAny_loadPart hx (wpAny_bind (PySem.W.Looks.here (s:={ s with toks:=s.toks+1 }) (PySem.W.looks_clsIn X hc) ?_))))))
 rw[hd']
 refine wpAny_pure (a:=some dx) (wpAny_bind (wpAny_pure (wpAny_bind ?_)))
 refine wpAny_nsSet1 (s:={ s with toks:=s.toks+1 }) I.ns fun h' hn2 hs2=>?_
 obtain⟨oD,esD,epD,hoD,hdD,hcD⟩:=hn2.count (PySem.Within.cons name v hw)
 refine wpAny_bind (wpAny_lookBehind hoD (by rw[hdD];exact pastItsLine_dict (Nat.le_trans hcD (by rw[List.length_cons];omega))) ?_)
 exact wpAny_pure (h _ ⟨(hs2.2 _ (Ne.symm I.ne)).trans I.obj,hn2,I.ne⟩ hs2)
theorem make_map {R:Result→Shared→Prop}{vs:List Value}{kw:List (Str × Value)}(X:K.In s.heap)(hm:PySem.W.makesIn K C=true)(hi:PySem.W.findIn K (.ref C) "__init__"=some (some (.ref f)))(hf:PySem.W.typeIn K (.ref f)=some (.type "function"))(h:codeAny (model prog w) (A.under (.builtin "type.__call__" ⟨.ref C :: vs,kw⟩)) (.call (.ref f) ⟨.ref (s.heap.objs.size+1) :: vs,kw⟩) (PySem.W.InitBack (s.heap.objs.size+1) R)
   { s with heap:=(s.heap.push PySem.W.emptyDict).push (PySem.W.instObj C s.heap.objs.size) }) :
  codeAny (model prog w) A (.call (.ref C) ⟨vs,kw⟩) R s:=by
 obtain⟨hh,g,d,t,os⟩:=s
 exact PySem.W.make_core (PySem.W.makes_of X hm) (PySem.W.looks_findIn X hi) (fun self=>PySem.W.bind_fn X self hf) (.inl rfl) h
end
def putF (f:Str)(v:V):List (Str × V)→List (Str × V)
 | []=>[(f,v)]
 | (g,x) :: r=>if g=f then (g,v) :: r else (g,x) :: putF f v r
theorem lookup_putF (f g:Str)(v:V):∀fs:List (Str × V),(putF f v fs).lookup g=if g=f then some v else fs.lookup g
 | []=>by
  show List.lookup g [(f,v)]=_
  by_cases h:g=f
  ·have hb:(g == f)=true:=beq_iff_eq.mpr h
   simp only[List.lookup,hb,if_pos h]
  ·have hb:(g == f)=false:=beq_eq_false_iff_ne.mpr h
   simp only[List.lookup,hb,if_neg h]
 | (k,x) :: r=>by
  have ih:=lookup_putF f g v r
  rw[show putF f v ((k,x) :: r)=(if k=f then (k,v) :: r else (k,x) :: putF f v r) from rfl]
  by_cases hk:k=f
  ·rw[if_pos hk]
   by_cases h:g=k
   ·have hb:(g == k)=true:=beq_iff_eq.mpr h
    simp only[List.lookup,hb,if_pos (h.trans hk)]
   ·have hb:(g == k)=false:=beq_eq_false_iff_ne.mpr h
    simp only[List.lookup,hb,if_neg (fun e:g=f=>h (e.trans hk.symm))]
  ·rw[if_neg hk]
   by_cases h:g=k
   ·have hb:(g == k)=true:=beq_iff_eq.mpr h
    simp only[List.lookup,hb,if_neg (fun e:g=f=>hk (h.symm.trans e))]
   ·have hb:(g == k)=false:=beq_eq_false_iff_ne.mpr h
    simp only[List.lookup,hb]
    exact ih
theorem keys_putF (f:Str)(v:V):∀fs:List (Str × V),f∈(putF f v fs).map (·.1)∧∀g,g∈fs.map (·.1)→g∈(putF f v fs).map (·.1)
 | []=>⟨by simp[putF],fun g h=>by simp at h⟩
 | (k,x) :: r=>by
  obtain⟨i1,i2⟩:=keys_putF f v r
  rw[show putF f v ((k,x) :: r)=(if k=f then (k,v) :: r else (k,x) :: putF f v r) from rfl]
  by_cases hk:k=f
  ·rw[if_pos hk]
   subst hk
   exact⟨by simp,fun g h=>by simpa using h⟩
  ·rw[if_neg hk]
   refine⟨?_,fun g h=>?_⟩
   ·rw[List.map_cons]
    exact List.mem_cons_of_mem _ i1
   ·rw[List.map_cons] at h ⊢
    rcases List.mem_cons.mp h with e | e
    ·exact List.mem_cons.mpr (.inl e)
    ·exact List.mem_cons_of_mem _ (i2 g e)
theorem length_putF (f:Str)(v:V):∀fs:List (Str × V),(putF f v fs).length≤fs.length+1
 | []=>by simp[putF]
 | (k,x) :: r=>by
  have ih:=length_putF f v r
  rw[show putF f v ((k,x) :: r)=(if k=f then (k,v) :: r else (k,x) :: putF f v r) from rfl]
  by_cases hk:k=f
  ·rw[if_pos hk,List.length_cons,List.length_cons];omega
  ·rw[if_neg hk,List.length_cons,List.length_cons];omega
theorem RelO.some_of {v:V}{o:Option Value}(r:RelO (some v) o):∃u,o=some u∧RelV v u:=by
 cases o with
 |none=>exact(show False from r).elim
 |some u=>exact⟨u,rfl,r⟩
theorem RelO.none_of {o:Option Value}(r:RelO none o):o=none:=by
 cases o with
 |none=>rfl
 |some u=>exact(show False from r).elim
theorem handed_of {v:V}{u:Value}(r:RelV v u):PySem.W.handedIn u=true:=by
 cases v with
 |non=>cases (show u=Value.none from r);rfl
 |bl b=>cases (show u=Value.bool b from r);rfl
 |int i=>obtain⟨t,e⟩:=(show ∃t,u=Value.int i t from r);cases e;rfl
 |str x=>obtain⟨t,e⟩:=(show ∃t,u=Value.str x t from r);cases e;rfl
 |byt b=>obtain⟨t,e⟩:=(show ∃t,u=Value.bytes b t from r);cases e;rfl
 |flt b=>obtain⟨t,e⟩:=(show ∃t,u=Value.float b t from r);cases e;rfl
 |ref a=>cases (show u=Value.ref a from r);rfl
 |ty n=>cases (show u=Value.type n from r);rfl
section
variable {P:Program} {w:World} {H H':Hp} {h h':Heap} {a C dx:Addr} {fs fs':List (Str × V)}
theorem ins_get (hok:HOk P w H h)(e:H a=some (.ins C dx fs)):∃mA,ObjM h a dx C mA∧(∀f,RelO (fs.lookup f) (mA f))∧PySem.Within mA (fs.map (·.1))∧fs.length≤1000∧H dx=some (.own a):=by
 obtain⟨d,z,ne,ob,mA,n,r,q⟩:=(show ObjOk P w H h a (.ins C dx fs) from hok a _ e)
 exact⟨mA,⟨ob,n,ne⟩,r,q,z,d⟩
end
structure Cls (K:PySem.W.Frag) (C:Addr):Prop where
 pg:PySem.W.plainGet K C Str.empty=true
 hd:PySem.W.hasDictIn K C=true
 po:PySem.W.plainOver K C=true
 sa:PySem.W.findIn K (.ref C) "__setattr__"=some (some (.builtin "object.__setattr__"))
theorem Cls.get {K:PySem.W.Frag}{C:Addr}(c:Cls K C)(f:Str):PySem.W.plainGet K C f=true:=c.pg
def NoAttr (K:PySem.W.Frag)(C:Addr)(f:Str):Prop:=PySem.W.findIn K (.ref C) f=some none
theorem NoAttr.taker {K:PySem.W.Frag}{C:Addr}{f:Str}(n:NoAttr K C f):PySem.W.takerIn K C f=some none:=by
 unfold PySem.W.takerIn
 rw[show PySem.W.findIn K (.ref C) f=some none from n]
 rfl
structure Meth (K:PySem.W.Frag) (C:Addr) (m:Str) (f:Addr):Prop where
 at_:PySem.W.findIn K (.ref C) m=some (some (.ref f))
 fn:PySem.W.isFn K (.ref f)=true
 kp:PySem.W.keepIn K (.ref f)=true
section
variable {X:Cx} {pins:List (Addr × Obj)} {σ:St} {H:Hp} {s:Shared} {a C dx:Addr} {fs:List (Str × V)} {f:Str} {v:V} {A:Around} {E:Value→Shared→Prop}
theorem getattr_ok {b:Bool}{Q:Value→Shared→Prop}(I:Inv X pins σ H s)(e:H a=some (.ins C dx fs))(c:Cls X.K C)(n:NoAttr X.K C f)(l:fs.lookup f=some v)(h:∀u s',Inv X pins σ H s'→RelV v u→Q u s'):wpAny (model X.prog X.w) A (getAttr (.ref a) f b) Q E s:=by
 obtain⟨mA,O,r,_,_,_⟩:=ins_get I.hok e
 obtain⟨u,hu,ru⟩:=RelO.some_of (v:=v) (o:=mA f) (by rw[← l];exact r f)
 exact get_map I.kIn O (c.get f) c.hd n hu (handed_of ru) (h u _ (I.tok _) ru)
theorem getmeth_ok {m:Str}{g:Addr}{pl:Sem Bool}{Q:Value × List Value→Shared→Prop}(I:Inv X pins σ H s)(e:H a=some (.ins C dx fs))(c:Cls X.K C)(k:Meth X.K C m g)(l:fs.lookup m=none)(h:Q (.ref g,[.ref a]) s):wpAny (model X.prog X.w) A (getMethod (.ref a) m pl) Q E s:=by
 obtain⟨mA,O,r,_,_,_⟩:=ins_get I.hok e
 have hn:mA m=none:=RelO.none_of (by rw[← l];exact r m)
 exact get_meth I.kIn O (c.get m) k.at_ k.fn hn h
theorem setattr_ok {y:V}{u:Value}{Q:Unit→Shared→Prop}(I:Inv X pins σ H s)(e:H a=some (.ins C dx fs))(c:Cls X.K C)(n:NoAttr X.K C f)(hl:fs.length < 1000)(ry:RelV y u)(h:∀s',Inv X pins σ (upd H a (.ins C dx (putF f y fs))) s'→Q () s'):wpAny (model X.prog X.w) A (setAttr (.ref a) f u) Q E s:=by
 obtain⟨mA,O,r,wi,_,ho⟩:=ins_get I.hok e
 have hz:(fs.map (·.1)).length≤sizeLine:=by rw[List.length_map,sizeLine_eq];omega
 refine set_map I.kIn O c.sa c.po n.taker c.hd wi hz fun h' O' sb=>h _ ?_
 have hd:∃o,h'.get? dx=some o:=let ⟨o,_,_,e',_⟩:=O'.ns;⟨o,e'⟩
 refine I.write (x:=a) (e:=dx) (by rw[e];exact True.intro) (.inr ho) (fun b q hb z=>(sb.2 b hb).trans z) hd ?_
 refine⟨by rw[upd_ne O.ne];exact ho,?_,O.ne,O'.obj,_,O'.ns,fun g=>?_,fun g hg=>?_⟩
 ·have:=length_putF f y fs;omega
 ·show RelO ((putF f y fs).lookup g) (if g=f then some u else mA g)
  rw[lookup_putF]
  by_cases q:g=f
  ·rw[if_pos q,if_pos q];exact ry
  ·rw[if_neg q,if_neg q];exact r g
 ·by_cases q:g=f
  ·rw[q];exact(keys_putF f y fs).1
  ·refine(keys_putF f y fs).2 g (wi g fun z=>hg ?_)
   show (if g=f then some u else mA g)=none
   rw[if_neg q];exact z
theorem Inv.made (I:Inv X pins σ H s):Inv X pins σ (upd (upd H s.heap.objs.size (.own (s.heap.objs.size+1))) (s.heap.objs.size+1) (.ins C s.heap.objs.size []))
  { s with heap:=(s.heap.push PySem.W.emptyDict).push (PySem.W.instObj C s.heap.objs.size) }:=by
 have e1:(s.heap.push PySem.W.emptyDict).get? s.heap.objs.size=some PySem.W.emptyDict:=Heap.get?_push_size s.heap rfl
 have e2:((s.heap.push PySem.W.emptyDict).push (PySem.W.instObj C s.heap.objs.size)).get? (s.heap.objs.size+1)=some (PySem.W.instObj C s.heap.objs.size):=by
  have:=Heap.get?_push_size (s.heap.push PySem.W.emptyDict) (o:=PySem.W.instObj C s.heap.objs.size) rfl
  rwa [Heap.size_push] at this
 have e3:(s.heap.push PySem.W.emptyDict).Ns s.heap.objs.size (fun _=>none):=⟨PySem.W.emptyDict,#[],_,e1,rfl,(fun e he=>absurd he (by simp)),fun _=>rfl⟩
 have I1:=I.laid (a:=s.heap.objs.size) (o:=.own (s.heap.objs.size+1)) (h':=s.heap.push PySem.W.emptyDict) (t':=s.toks) (fun b u q=>Heap.get?_push_of_some _ q) (Nat.le_refl _) ⟨_,e1⟩
 refine I1.laid (a:=s.heap.objs.size+1) (o:=.ins C s.heap.objs.size []) (t':=s.toks) (fun b u q=>Heap.get?_push_of_some _ q) (Nat.le_of_eq (Heap.size_push _ _)) ?_
 have ne:s.heap.objs.size≠s.heap.objs.size+1:=Nat.ne_of_lt (Nat.lt_succ_self _)
 refine⟨by rw[upd_ne ne,upd_same],Nat.zero_le _,ne,e2,fun _=>none,(Heap.Ns1.of_empty e3).at fun o q=>Heap.get?_push_of_some _ q,fun _=>True.intro,fun y hy=>absurd rfl hy⟩
theorem attr_of {prog:Program}{w:World}{env:Env}{e:Expr}{f:Str}{pos:Pos}{s:Shared}{Q:Value→Shared→Prop}(hb:attributeBase e f env (eval e env)=eval e env)(h:wpAny (model prog w) A (eval e env) (fun o s₁=>wpAny (model prog w) A (getAttr o f true) Q E s₁) E s):wpAny (model prog w) A (eval (.Attribute e f pos) env) Q E s:=
 Attribute_any_ h (by rw[arm_eval_Attribute,hb])
end
def tFld (K:PySem.W.Frag)(ta:TE)(f:Str):TE:=fun σ H Q=>ta σ H fun x H1=>∃a C dx fs v,x=.ref a∧H1 a=some (.ins C dx fs)∧Cls K C∧NoAttr K C f∧fs.lookup f=some v∧Q v H1
def sFld (K:PySem.W.Frag)(ta tv:TE)(f:Str):TS:=fun D σ H=>tv σ H fun y H1=>ta σ H1 fun x H2=>∃a C dx fs,x=.ref a∧H2 a=some (.ins C dx fs)∧Cls K C∧NoAttr K C f∧fs.length < 1000∧
 D.nx σ (upd H2 a (.ins C dx (putF f y fs)))
section
variable {X:Cx} {o e value:Expr} {f:Str} {pos pos' tpos:Pos} {ta tv:TE}
theorem pe_fld (he:PE X e ta)(hb:attributeBase e f X.env (eval e X.env)=eval e X.env):PE X (.Attribute e f pos) (tFld X.K ta f):=by
 intro pins s σ H Q I h
 refine attr_of hb (thn (he pins s σ H _ I h) fun u s1 ⟨x,H1,I1,rx,a,C,dx,fs,v,ex,ea,c,n,l,q⟩=>?_)
 subst ex
 obtain rfl:u=Value.ref a:=rx
 exact getattr_ok I1 ea c n l fun u' s2 I2 ru=>⟨v,H1,I2,ru,q⟩
theorem ps_fld (ha:PE X o ta)(hv:PE X value tv)(hs:swapsWith value (some (.Attribute o f pos')) pos.line X.env=pure false):PS X (.Assign [.Attribute o f pos'] value pos) (sFld X.K ta tv f):=by
 intro pins s σ H D I h
 refine plainObj_wpAny_Assign_Attribute (thn (hv pins s σ H _ I h) fun u s1 ⟨y,H1,I1,ry,q⟩=>thn (ha pins s1 σ H1 _ I1 q) fun ov s2 ⟨x,H2,I2,rx,a,C,dx,fs,ex,ea,c,n,l,q2⟩=>?_) hs
 subst ex
 obtain rfl:ov=Value.ref a:=rx
 exact setattr_ok I2 ea c n l ry fun s3 I3=>⟨σ,_,I3,q2⟩
end
section
variable {X:Cx} {pins:List (Addr × Obj)} {σ:St} {H:Hp} {s:Shared} {A:Around} {E:Value→Shared→Prop} {Q:Value→Shared→Prop} {c:Value} {b:Bool}
inductive TyOf (K:PySem.W.Frag) (H:Hp):V→Value→Prop where
 |non:TyOf K H .non (.type "NoneType")
 |bl (x:Bool):TyOf K H (.bl x) (.type "bool")
 |int (i:Int):TyOf K H (.int i) (.type "int")
 |str (x:Str):TyOf K H (.str x) (.type "str")
 |flt (x:UInt64):TyOf K H (.flt x) (.type "float")
 |lst {a:Addr} {xs:List V} (e:H a=some (.lst xs)):TyOf K H (.ref a) (.type "list")
 |frz {a:Addr} {o:Obj} {xs:List V} (e:H a=some (.frz o (.lst xs))):TyOf K H (.ref a) (.type "list")
 |tup {a:Addr} {xs:List V} (e:H a=some (.tup xs)):TyOf K H (.ref a) (.type "tuple")
 |dK {a:Addr} {kvs:List (Key × V)} (e:H a=some (.dK kvs)):TyOf K H (.ref a) (.type "dict")
 |dT {a:Addr} {kvs:List (List Key × V)} (e:H a=some (.dT kvs)):TyOf K H (.ref a) (.type "dict")
 |ins {a C dx:Addr} {fs:List (Str × V)} (e:H a=some (.ins C dx fs)) (cl:Cls K C) (ha:PySem.W.findIn K (.ref C) "__class__"=some (some (.builtin "object.__class__")))
   (hn:PySem.W.specialIn K (.builtin "object.__class__") "__get__"=some (some (.builtin "getset_descriptor.__get__"))) (htk:PySem.W.takesIn K (.builtin "object.__class__")=some true)
   (hm:PySem.W.mroIn K C (.type "object")=some true):TyOf K H (.ref a) (.ref C)
theorem isinst_ok {x:V}{u t:Value}(I:Inv X pins σ H s)(rx:RelV x u)(ty:TyOf X.K H x t)(e:PySem.W.kitOne X.K t c=some b)(h:∀tk,Q (.bool b) { s with toks:=tk }) :
  wpAny (model X.prog X.w) A (call (.builtin "isinstance") [u,c]) Q E s:=by
 cases ty with
 |non=>cases (show u=Value.none from rx);exact PySem.W.kia_one PySem.W.kitx_none I.kIn True.intro e (fun z=>nomatch z) h
 |bl y=>cases (show u=Value.bool y from rx);exact PySem.W.kia_one PySem.W.kitx_bool I.kIn True.intro e (fun z=>nomatch z) h
 |int i=>obtain⟨t,q⟩:=(show ∃t,u=Value.int i t from rx);cases q;exact PySem.W.kia_one PySem.W.kitx_int I.kIn True.intro e (fun z=>nomatch z) h
 |str y=>obtain⟨t,q⟩:=(show ∃t,u=Value.str y t from rx);cases q;exact PySem.W.kia_one PySem.W.kitx_str I.kIn True.intro e (fun z=>nomatch z) h
 |flt y=>obtain⟨t,q⟩:=(show ∃t,u=Value.float y t from rx);cases q;exact PySem.W.kia_one PySem.W.kitx_float I.kIn True.intro e (fun z=>nomatch z) h
 | @lst a xs ea=>
  cases (show u=Value.ref a from rx)
  obtain⟨_,_,n,_,h1⟩:=(show ObjOk X.prog X.w H s.heap a (.lst xs) from I.hok a _ ea)
  exact PySem.W.kia_one PySem.W.kitx_list I.kIn ⟨_,h1,rfl⟩ e (fun z=>nomatch z) h
 | @frz a ob xs ea=>
  cases (show u=Value.ref a from rx)
  obtain⟨_,_,_,n,_,h1⟩:=(show ObjOk X.prog X.w H s.heap a (.frz ob (.lst xs)) from I.hok a _ ea)
  exact PySem.W.kia_one PySem.W.kitx_list I.kIn ⟨_,h1,rfl⟩ e (fun z=>nomatch z) h
 | @tup a xs ea=>
  cases (show u=Value.ref a from rx)
  obtain⟨_,_,_,p⟩:=(show ObjOk X.prog X.w H s.heap a (.tup xs) from I.hok a _ ea)
  obtain⟨o,h1,h2,_⟩:=p
  exact PySem.W.kia_one PySem.W.kitx_tuple I.kIn ⟨o,h1,h2⟩ e (fun z=>nomatch z) h
 | @dK a kvs ea=>
  cases (show u=Value.ref a from rx)
  obtain⟨_,_,vs,_,p⟩:=(show ObjOk X.prog X.w H s.heap a (.dK kvs) from I.hok a _ ea)
  obtain⟨o,es,ep,h1,h2,_⟩:=p
  exact PySem.W.kia_one PySem.W.kitx_dict I.kIn ⟨o,h1,h2.1⟩ e (fun z=>nomatch z) h
 | @dT a kvs ea=>
  cases (show u=Value.ref a from rx)
  obtain⟨_,_,xs,_,o,es,ep,h1,h2,_⟩:=(show ObjOk X.prog X.w H s.heap a (.dT kvs) from I.hok a _ ea)
  exact PySem.W.kia_one PySem.W.kitx_dict I.kIn ⟨o,h1,h2.1⟩ e (fun z=>nomatch z) h
 | @ins a C dx fs ea cl ha hn htk hm=>
  cases (show u=Value.ref a from rx)
  obtain⟨mA,O,_⟩:=ins_get I.hok ea
  obtain⟨od,J,_⟩:=O.look
  exact PySem.W.kia_one (PySem.W.kitx_own (cl.get _) cl.hd ha hn htk hm) I.kIn J e (fun z=>nomatch z) h
end
structure Room (k:Nat) (A:Around):Prop where
 hd:A.handled=none
 dp:A.depth+3*k+5 < recursionLimit
 un:A.units+16*k+200 < cLine
theorem Room.mono {j k:Nat}{A:Around}(r:Room k A)(h:j≤k):Room j A:=⟨r.hd,by have:=r.dp;omega,by have:=r.un;omega⟩
theorem Room.deeper {k:Nat}{A:Around}(r:Room (k+1) A)(env:Env):Room k (A.deeper env):=
 ⟨r.hd,by have:=r.dp;show A.depth+1+3*k+5 < _;omega,by have:=r.un;show A.units+3+16*k+200 < _;omega⟩
theorem make_depth {A:Around}{C:Addr}{us:List Value}{kw:List (Str × Value)}:(A.under (.builtin "type.__call__" ⟨.ref C :: us,kw⟩)).depth=A.depth+1:=by
 first | rfl | simp[Around.under,Code.weight,Code.isCreation,Code.isGuard,Code.isCaller,Code.frames,Code.isFrame,guardIds]
theorem make_units {A:Around}{C:Addr}{us:List Value}{kw:List (Str × Value)}:(A.under (.builtin "type.__call__" ⟨.ref C :: us,kw⟩)).units=A.units+1:=by
 first | rfl | simp[Around.under,Code.cUnits,Code.frames,Code.isFrame]
theorem Room.make {k:Nat}{A:Around}(r:Room (k+1) A)(C:Addr)(us:List Value)(kw:List (Str × Value)):Room k (A.under (.builtin "type.__call__" ⟨.ref C :: us,kw⟩)):=
 ⟨r.hd,by have:=r.dp;rw[make_depth];omega,by have:=r.un;rw[make_units];omega⟩
theorem Room.depth {k:Nat}{A:Around}(r:Room k A):A.depth < recursionLimit:=by have:=r.dp;omega
theorem Room.units {k:Nat}{A:Around}(r:Room k A):A.units+64 < cLine:=by have:=r.un;omega
def tNil:TA:=fun _ H Q=>Q [] H
def tCons (ta:TE)(tr:TA):TA:=fun σ H Q=>ta σ H fun x H1=>tr σ H1 fun xs H2=>Q (x :: xs) H2
section
variable {X:Cx} {e:Expr} {es:List Expr} {te:TE} {t:TA} {pos:Pos}
theorem pa_nil:PA X [] tNil:=fun _ _ _ _ H Q I h=>Calls.spliced_nil ⟨[],H,I,.nil,h⟩
theorem pa_cons (ha:PE X e te)(hr:PA X es t)(hs:starEach (e :: es) X.env=(false,eval e X.env) :: starEach es X.env:=by rfl):PA X (e :: es) (tCons te t):=by
 intro pos pins s σ H Q I h
 rw[hs]
 show wpAny _ _ (spliced ((false,eval e X.env) :: backTo pos (starEach es X.env))) _ _ s
 refine Calls.spliced_cons (thn (ha pins s σ H _ I h) fun u s1 ⟨x,H1,I1,r1,q1⟩=>?_)
 exact thn (hr pos pins s1 σ H1 _ I1 q1) fun us s2 ⟨xs,H2,I2,r2,q2⟩=>⟨x :: xs,H2,I2,.cons r1 r2,q2⟩
def tTup (t:TA):TE:=fun σ H Q=>t σ H fun xs H1=>xs.length≤sizeLine∧∀p,H1 p=none→Q (.ref p) (upd H1 p (.tup xs))
def tLst (t:TA):TE:=fun σ H Q=>t σ H fun xs H1=>xs.length≤sizeLine∧∀p,H1 p=none→Q (.ref p) (upd H1 p (.lst xs))
theorem pe_tup {x1}(h:PA X es t):PE X (.Tuple es x1 pos) (tTup t):=by
 intro pins s σ H Q I hq
 refine wpAny_Tuple_spliced (thn (h pos pins s σ H _ I hq) fun us s1 ⟨xs,H1,I1,r,z,q⟩=>⟨by rw[← r.length];exact z,?_⟩)
 have hf:H1 s1.heap.objs.size=none:=I1.hok.fresh (Nat.le_refl _)
 refine⟨.ref s1.heap.objs.size,upd H1 s1.heap.objs.size (.tup xs),I1.laid (t':=s1.toks) (fun b u e=>Heap.get?_push_of_some _ e) (Nat.le_refl _) ?_,rfl,q _ hf⟩
 exact⟨z,us,r,⟨_,Heap.get?_push_size _ rfl,rfl,_,rfl⟩⟩
theorem pe_lst (h:PA X es t):PE X (.List es pos) (tLst t):=by
 intro pins s σ H Q I hq
 refine wpAny_List_spliced (thn (h pos pins s σ H _ I hq) fun us s1 ⟨xs,H1,I1,r,z,q⟩=>⟨by rw[← r.length];exact z,?_⟩)
 have hf:H1 s1.heap.objs.size=none:=I1.hok.fresh (Nat.le_refl _)
 refine⟨.ref s1.heap.objs.size,upd H1 s1.heap.objs.size (.lst xs),I1.laid (t':=s1.toks) (fun b u e=>Heap.get?_push_of_some _ e) (Nat.le_refl _) ?_,rfl,q _ hf⟩
 exact⟨z,us,0,r,Heap.get?_push_size _ rfl⟩
end
abbrev Sp:=List V→Hp→VK→XK→Prop
abbrev CXT:=List Env→Hp→Shared→XK→Value→Shared→Prop
structure Env0 (P:Program) (w:World) (K:PySem.W.Frag) (mg:Str→Option Value) (base:Heap) (A:Around) (outer:List Env) (s:Shared) (H:Hp):Prop where
 frames:A.frames=some outer
 mod:Mod K mg base
 bs:∀b o,base.get? b=some o→s.heap.get? b=some o∧H b=none
 bsz:base.objs.size≤s.heap.objs.size
 funs:s.heap.FunFrames base outer
 frf:∀b∈frs outer,H b=none
 hok:HOk P w H s.heap
 bare:AllBare s.gens
def CE (outer:List Env)(P:Program)(w:World)(H:Hp)(s:Shared)(Q:VK)(u:Value)(s':Shared):Prop:=
 ∃v H',s'.os=s.os∧AllBare s'.gens∧Un (frs outer) [] H H' s.heap s'.heap∧HOk P w H' s'.heap∧RelV v u∧Q v H'
def CR (CX:CXT)(outer:List Env)(P:Program)(w:World)(H:Hp)(s:Shared)(Q:VK)(E:XK)(r:Result)(s':Shared):Prop:=
 match r with
 | .ok (.ret u)=>CE outer P w H s Q u s'
 | .ok _=>False
 | .error e=>CX outer H s E e s'
structure FnOk (P:Program) (w:World) (K:PySem.W.Frag) (mg:Str→Option Value) (base:Heap) (CX:CXT) (k:Nat) (f:Addr) (fd:FuncData) (ps:List Str) (sp:Sp):Prop where
 len:∀vs H Q E,sp vs H Q E→vs.length=ps.length
 run:∀(A:Around) (outer:List Env) (s:Shared) (H:Hp) (args:Args) (us:List Value) (vs:List V) (Q:VK) (E:XK),Room k A→Env0 P w K mg base A outer s H→BindsTo s fd args (ps.zip us)→Vals vs us→sp vs H Q E→
  codeAny (model P w) A (.call (.ref f) args) (CR CX outer P w H s Q E) s
theorem Env0.make {P:Program}{w:World}{K:PySem.W.Frag}{mg:Str→Option Value}{base:Heap}{A:Around}{outer:List Env}{s:Shared}{H:Hp}(e:Env0 P w K mg base A outer s H)(C:Addr)(us:List Value)(kw:List (Str × Value)) :
  Env0 P w K mg base (A.under (.builtin "type.__call__" ⟨.ref C :: us,kw⟩)) outer s H:=⟨by first | exact e.frames | (simpa[Around.under,Code.envs,Code.isFrame,pushEnvs] using e.frames),e.mod,e.bs,e.bsz,e.funs,e.frf,e.hok,e.bare⟩
section
variable {X:Cx} {pins:List (Addr × Obj)} {σ:St} {H:Hp} {s s':Shared}
theorem Inv.env0 (I:Inv X pins σ H s):Env0 X.prog X.w X.K X.mg X.base X.A X.stack s H:=
 ⟨I.ok.frames,I.ok.mod,I.bs,Nat.le_trans I.ok.bsz I.sz,I.stack,I.stkFree,I.hok,I.bare⟩
theorem Inv.after {Q:VK}{u:Value}(I:Inv X pins σ H s)(h:CE X.stack X.prog X.w H s Q u s'):EP X pins σ Q u s':=by
 obtain⟨v,H',os,bare,un,hok,r,q⟩:=h
 obtain⟨hh,g,d,t,os'⟩:=s'
 obtain rfl:os'=s.os:=os
 exact⟨v,H',I.call (h':=hh) (g':=g) (d':=d) (t':=t) (ch:=[]) un hok bare (fun b z=>absurd z (by simp)),r,q⟩
end
def tCall (sp:Sp)(dvs:List V)(E:XK)(t:TA):TE:=fun σ H Q=>t σ H fun vs H1=>sp (vs++dvs) H1 Q E
def tMeth (C:Addr)(m:Str)(sp:Sp)(dvs:List V)(E:XK)(ta:TE)(t:TA):TE:=fun σ H Q=>ta σ H fun x H1=>∃a dx fs,x=.ref a∧H1 a=some (.ins C dx fs)∧fs.lookup m=none∧
 t σ H1 fun vs H2=>sp (x :: (vs++dvs)) H2 Q E
def tMake (C:Addr)(sp:Sp)(dvs:List V)(E:XK)(t:TA):TE:=fun σ H Q=>t σ H fun vs H1=>∀x dx,H1 x=none→H1 dx=none→dx≠x→
 sp (.ref x :: (vs++dvs)) (upd (upd H1 dx (.own x)) x (.ins C dx [])) (fun v H2=>v=.non∧Q (.ref x) H2) E
def Binds (K:PySem.W.Frag)(fd:FuncData)(ps:List Str)(ds:List Value):Prop:=
 ∀(s:Shared) (us:List Value),K.In s.heap→(us++ds).length=ps.length→BindsTo s fd ⟨us,[]⟩ (ps.zip (us++ds))
theorem Binds.all {K:PySem.W.Frag}{fd:FuncData}{ps:List Str}(h:∀us:List Value,us.length=ps.length→bindArgs fd ⟨us,[]⟩=pure (ps.zip us)):Binds K fd ps []:=fun s us _ hl=>by
 rw[List.append_nil] at hl ⊢
 exact .of_eq (h us hl)
def Passes (CX:CXT)(X:Cx)(E:XK):Prop:=∀(pins:List (Addr × Obj)) (σ:St) (H:Hp) (s:Shared) (e:Value) (s':Shared),Inv X pins σ H s→CX X.stack H s E e s'→X.xe e s'
section
variable {X:Cx} {CX:CXT} {k:Nat} {f C:Addr} {fd:FuncData} {ps:List Str} {sp:Sp} {dvs:List V} {ds:List Value} {E:XK} {x m:Str} {p pos apos:Pos} {e o:Expr} {es:List Expr} {ta:TE} {t:TA}
theorem run_fn {pins:List (Addr × Obj)}{σ:St}{H:Hp}{s:Shared}{Q:VK}{us:List Value}{vs:List V}(F:FnOk X.prog X.w X.K X.mg X.base CX k f fd ps sp)(hr:Room k X.A)(hb:Binds X.K fd ps ds)(hd:Vals dvs ds)(hx:Passes CX X E)(I:Inv X pins σ H s)(r:Vals vs us)(h:sp (vs++dvs) H Q E):wpAny (model X.prog X.w) X.A (call (.ref f) us) (EP X pins σ Q) X.xe s:=by
 have r2:Vals (vs++dvs) (us++ds):=r.append hd
 have hl:(us++ds).length=ps.length:=by rw[← r2.length];exact F.len _ _ _ _ h
 refine wpAny_call (codeAny_mono (F.run X.A X.stack s H ⟨us,[]⟩ (us++ds) (vs++dvs) Q E hr I.env0 (hb s us I.kIn hl) r2 h) fun r s' hq=>?_)
 cases r with
 |error e=>exact hx pins σ H s e s' I hq
 |ok fl=>
  cases fl with
  |ret u=>exact I.after hq
  |next=>exact False.elim hq
  |brk=>exact False.elim hq
  |cont=>exact False.elim hq
theorem pe_call (F:FnOk X.prog X.w X.K X.mg X.base CX k f fd ps sp)(hr:Room k X.A)(hg:Gl X x)(hm:X.mg x=some (.ref f))(hk:PySem.W.keepIn X.K (.ref f)=true)(hb:Binds X.K fd ps ds)(hd:Vals dvs ds)(hx:Passes CX X E)(ha:PA X (e :: es) t)(hdb:(x == ("__debug__":Str))=false:=by decide)(he:starEach (e :: es) X.env=(false,eval e X.env) :: starEach es X.env:=by rfl)(hpl:(backTo pos (starEach es X.env)).any (·.1)=false:=by rfl) :
  PE X (.Call (.Name x p) (e :: es) [] pos) (tCall sp dvs E t):=by
 intro pins s σ H Q I h
 refine wpAny_Call_Name_kw (ld_glob I hg hm ?_ hdb)
 refine PySem.W.callWith_K (h₀:=X.base) I.ok.mod.kin hk (thn (ha pos pins s σ H _ I h) fun us s1 ⟨vs,H1,I1,r,q⟩=>⟨I1.kIn,?_⟩) he hpl
 exact run_fn F hr hb hd hx I1 r q
theorem pe_meth {pl:Sem Bool}(he:PE X o ta)(c:Cls X.K C)(hm:Meth X.K C m f)(F:FnOk X.prog X.w X.K X.mg X.base CX k f fd ps sp)(hr:Room k X.A)(hb:Binds X.K fd ps ds)(hd:Vals dvs ds)(hx:Passes CX X E)(ha:PA X (e :: es) t)(hst:starEach (e :: es) X.env=(false,eval e X.env) :: starEach es X.env:=by rfl)(hpl:(backTo pos (starEach es X.env)).any (·.1)=false:=by rfl)(ht:eval (.Call (.Attribute o m apos) (e :: es) [] pos) X.env=(do
   let ov ← eval o X.env
   standAt apos.atName
   let (f,first) ← holding [ov] (getMethod ov m pl)
   callWith pos f first (backTo pos (starEach (e :: es) X.env)) (backToKw pos (keywordEach [] X.env))):=by rfl) :
  PE X (.Call (.Attribute o m apos) (e :: es) [] pos) (tMeth C m sp dvs E ta t):=by
 intro pins s σ H Q I h
 refine PySem.W.methodCall_KW (pl:=pl) (thn (he pins s σ H _ I h) fun u s1 ⟨x,H1,I1,rx,a,dx,fs,ex,ea,l,q⟩=>?_) ht
 subst ex
 obtain rfl:u=Value.ref a:=rx
 refine getmeth_ok I1 ea c hm l ?_
 refine PySem.W.callWith_K (first:=[.ref a]) (h₀:=X.base) I.ok.mod.kin hm.kp (thn (ha pos pins s1 σ H1 _ I1 q) fun us s2 ⟨vs,H2,I2,r,q2⟩=>⟨I2.kIn,?_⟩) hst hpl
 exact run_fn (us:=.ref a :: us) (vs:=.ref a :: vs) F hr hb hd hx I2 (.cons rfl r) q2
theorem pe_meth0 {pl:Sem Bool}(he:PE X o ta)(c:Cls X.K C)(hm:Meth X.K C m f)(F:FnOk X.prog X.w X.K X.mg X.base CX k f fd ps sp)(hr:Room k X.A)(hb:Binds X.K fd ps ds)(hd:Vals dvs ds)(hx:Passes CX X E)(ht:eval (.Call (.Attribute o m apos) [] [] pos) X.env=(do
   let ov ← eval o X.env
   standAt apos.atName
   let (f,first) ← holding [ov] (getMethod ov m pl)
   callWith pos f first (backTo pos (starEach [] X.env)) (backToKw pos (keywordEach [] X.env))):=by rfl) :
  PE X (.Call (.Attribute o m apos) [] [] pos) (tMeth C m sp dvs E ta tNil):=by
 intro pins s σ H Q I h
 refine PySem.W.methodCall_KW (pl:=pl) (thn (he pins s σ H _ I h) fun u s1 ⟨x,H1,I1,rx,a,dx,fs,ex,ea,l,q⟩=>?_) ht
 subst ex
 obtain rfl:u=Value.ref a:=rx
 refine getmeth_ok I1 ea c hm l ?_
 exact PySem.W.callWith_K0 (first:=[.ref a]) I1.kIn hm.kp (run_fn (us:=[.ref a]) (vs:=[.ref a]) F hr hb hd hx I1 (.cons rfl .nil) q)
structure Mk (K:PySem.W.Frag) (C f:Addr):Prop where
 makes:PySem.W.makesIn K C=true
 init:PySem.W.findIn K (.ref C) "__init__"=some (some (.ref f))
 fn:PySem.W.isFn K (.ref f)=true
 kp:PySem.W.keepIn K (.ref C)=true
theorem run_make {pins:List (Addr × Obj)}{σ:St}{H:Hp}{s:Shared}{Q:VK}{us:List Value}{vs:List V}(M:Mk X.K C f)(F:FnOk X.prog X.w X.K X.mg X.base CX k f fd ps sp)(hr:Room (k+1) X.A)(hb:Binds X.K fd ps ds)(hd:Vals dvs ds)(hx:Passes CX X E)(I:Inv X pins σ H s)(r:Vals vs us)(h:∀x dx,H x=none→H dx=none→dx≠x→sp (.ref x :: (vs++dvs)) (upd (upd H dx (.own x)) x (.ins C dx [])) (fun v H2=>v=.non∧Q (.ref x) H2) E) :
  wpAny (model X.prog X.w) X.A (call (.ref C) us) (EP X pins σ Q) X.xe s:=by
 have hq:=h (s.heap.objs.size+1) s.heap.objs.size (I.hok.fresh (Nat.le_succ _)) (I.hok.fresh (Nat.le_refl _)) (Nat.ne_of_lt (Nat.lt_succ_self _))
 have I2:=Inv.made (C:=C) I
 have r2:Vals (V.ref (s.heap.objs.size+1) :: (vs++dvs)) (Value.ref (s.heap.objs.size+1) :: (us++ds)):=.cons rfl (r.append hd)
 have hl:(Value.ref (s.heap.objs.size+1) :: us++ds).length=ps.length:=by
  have e:=r2.length
  rw[F.len _ _ _ _ hq] at e
  exact e.symm
 refine wpAny_call (make_map (f:=f) I.kIn M.makes M.init (beq_iff_eq.mp M.fn) (codeAny_mono (F.run _ X.stack _ _ ⟨Value.ref (s.heap.objs.size+1) :: us,[]⟩ (Value.ref (s.heap.objs.size+1) :: (us++ds)) _ _ E (hr.make C us [])
  (I2.env0.make C us []) (hb _ (Value.ref (s.heap.objs.size+1) :: us) I2.kIn hl) r2 hq) fun r s' hq'=>?_))
 cases r with
 |error e=>exact hx pins σ _ _ e s' I2 hq'
 |ok fl=>
  cases fl with
  |ret u=>
   obtain⟨v,H',I3,rv,ev,q3⟩:=I2.after hq'
   subst ev
   exact⟨rv,⟨V.ref (s.heap.objs.size+1),H',I3,rfl,q3⟩⟩
  |next=>exact False.elim hq'
  |brk=>exact False.elim hq'
  |cont=>exact False.elim hq'
theorem pe_make (M:Mk X.K C f)(F:FnOk X.prog X.w X.K X.mg X.base CX k f fd ps sp)(hr:Room (k+1) X.A)(hg:Gl X x)(hm:X.mg x=some (.ref C))(hb:Binds X.K fd ps ds)(hd:Vals dvs ds)(hx:Passes CX X E)(ha:PA X (e :: es) t)(hdb:(x == ("__debug__":Str))=false:=by decide)(he:starEach (e :: es) X.env=(false,eval e X.env) :: starEach es X.env:=by rfl)(hpl:(backTo pos (starEach es X.env)).any (·.1)=false:=by rfl) :
  PE X (.Call (.Name x p) (e :: es) [] pos) (tMake C sp dvs E t):=by
 intro pins s σ H Q I h
 refine wpAny_Call_Name_kw (ld_glob I hg hm ?_ hdb)
 refine PySem.W.callWith_K (h₀:=X.base) I.ok.mod.kin M.kp (thn (ha pos pins s σ H _ I h) fun us s1 ⟨vs,H1,I1,r,q⟩=>⟨I1.kIn,?_⟩) he hpl
 exact run_make M F hr hb hd hx I1 r q
theorem pe_make0 (M:Mk X.K C f)(F:FnOk X.prog X.w X.K X.mg X.base CX k f fd ps sp)(hr:Room (k+1) X.A)(hg:Gl X x)(hm:X.mg x=some (.ref C))(hb:Binds X.K fd ps ds)(hd:Vals dvs ds)(hx:Passes CX X E)(hdb:(x == ("__debug__":Str))=false:=by decide):PE X (.Call (.Name x p) [] [] pos) (tMake C sp dvs E tNil):=by
 intro pins s σ H Q I h
 refine wpAny_Call_Name_kw (ld_glob I hg hm ?_ hdb)
 exact PySem.W.callWith_K0 I.kIn M.kp (run_make (us:=[]) M F hr hb hd hx I .nil h)
end
structure FnScope (N P:List Str) (sc:Scope):Prop where
 kind:sc.kind=.function
 co:sc.isCoroutine=false
 gen:sc.isGenerator=false
 nd:N.Nodup
 pre:N.take P.length=P
 par:∀x∈P,sc.names.lookup x=some .local∨sc.names.lookup x=some .cell
 nofree:∀y∈sc.names,y.2≠.free
theorem bindL_out {kindOf:Str→Option NameKind}{x:Str}:∀{binds:List (Str × Value)} {m:Str→Option Value},(∀v,(x,v)∉binds)→bindL kindOf binds m x=m x
 | [],_,_=>rfl
 | (n,v) :: r,m,h=>by
  unfold bindL
  rw[bindL_out fun w hw=>h w (List.mem_cons_of_mem _ hw)]
  split
  ·have:x≠n:=by rintro rfl;exact h v List.mem_cons_self
   simp[this]
  ·rfl
theorem bindC_out {kindOf:Str→Option NameKind}{x:Str}:∀{binds:List (Str × Value)} {m:Str→Option Value},(∀v,(x,v)∉binds)→bindC kindOf binds m x=m x
 | [],_,_=>rfl
 | (n,v) :: r,m,h=>by
  unfold bindC
  rw[bindC_out fun w hw=>h w (List.mem_cons_of_mem _ hw)]
  split
  ·rfl
  ·have:x≠n:=by rintro rfl;exact h v List.mem_cons_self
   simp[this]
theorem bindL_get {kindOf:Str→Option NameKind}{x:Str}{v:Value}:∀{P:List Str} {vs:List Value} {i:Nat} {m:Str→Option Value},P.Nodup→P[i]?=some x→vs[i]?=some v→kindOf x=some .local→
  bindL kindOf (P.zip vs) m x=some v
 | [],_,_,_,_,h,_,_=>by simp at h
 |_ :: _,[],_,_,_,_,h,_=>by simp at h
 |p :: P,w :: vs,0,m,nd,h1,h2,hk=>by
  simp at h1 h2;subst h1;subst h2
  show bindL kindOf ((p,w) :: P.zip vs) m p=_
  unfold bindL
  rw[bindL_out fun v hv=>(List.nodup_cons.mp nd).1 (List.of_mem_zip hv).1,if_pos hk]
  simp
 |p :: P,w :: vs,i+1,m,nd,h1,h2,hk=>by
  show bindL kindOf ((p,w) :: P.zip vs) m x=_
  unfold bindL
  exact bindL_get (i:=i) (List.nodup_cons.mp nd).2 (by simpa using h1) (by simpa using h2) hk
theorem bindC_get {kindOf:Str→Option NameKind}{x:Str}{v:Value}:∀{P:List Str} {vs:List Value} {i:Nat} {m:Str→Option Value},P.Nodup→P[i]?=some x→vs[i]?=some v→kindOf x≠some .local→
  bindC kindOf (P.zip vs) m x=some v
 | [],_,_,_,_,h,_,_=>by simp at h
 |_ :: _,[],_,_,_,_,h,_=>by simp at h
 |p :: P,w :: vs,0,m,nd,h1,h2,hk=>by
  simp at h1 h2;subst h1;subst h2
  show bindC kindOf ((p,w) :: P.zip vs) m p=_
  unfold bindC
  rw[bindC_out fun v hv=>(List.nodup_cons.mp nd).1 (List.of_mem_zip hv).1,if_neg hk]
  simp
 |p :: P,w :: vs,i+1,m,nd,h1,h2,hk=>by
  show bindC kindOf ((p,w) :: P.zip vs) m x=_
  unfold bindC
  exact bindC_get (i:=i) (List.nodup_cons.mp nd).2 (by simpa using h1) (by simpa using h2) hk
def start (N:List Str)(vs:List V):St:=vs.map some++List.replicate (N.length - vs.length) none
def cxOf (CX:CXT)(P:Program)(w:World)(K:PySem.W.Frag)(mg:Str→Option Value)(base:Heap)(N:List Str)(qual:Str)(scope:Scope)(f:Addr)(cd:Value)(A:Around)(outer:List Env)(s:Shared)(H:Hp)(E:XK):Cx where
 prog:=P
 w:=w
 K:=K
 mg:=mg
 base:=base
 A:=A.deeper (envOfC qual scope s.heap.objs.size f cd)
 N:=N
 s₀:=s
 H₀:=H
 env:=envOfC qual scope s.heap.objs.size f cd
 outer:=outer
 stack:=envOfC qual scope s.heap.objs.size f cd :: outer
 ex:=[]
 calm:=true
 fn:=fun _=>true
 pn:=[]
 xe:=fun e s'=>wpAny (model P w) (A.deeper (envOfC qual scope s.heap.objs.size f cd)) (leaving (envOfC qual scope s.heap.objs.size f cd) e) (fun _ s''=>CX outer H s E e s'') (fun e' s''=>CX outer H s E e' s'') s'
theorem cell_has {sc:Scope}{n:Nat}{x:Str}(h:sc.names.lookup x=some .cell):∃c,(cellsFrom n sc.names []).lookup x=some c:=by
 have q:=PySem.W.cellsFrom_some sc.names n [] (.inl h)
 exact Option.isSome_iff_exists.mp q
theorem inv_start {CX:CXT}{P:Program}{w:World}{K:PySem.W.Frag}{mg:Str→Option Value}{base:Heap}{N ps:List Str}{qual:Str}{scope:Scope}{f:Addr}{cd:Value}{A:Around}{outer:List Env}{s s1:Shared}{H:Hp}{E:XK}{us:List Value}{vs:List V}(S:FnScope N ps scope)(hd:A.handled=none)(e0:Env0 P w K mg base A outer s H)(hl:vs.length=ps.length)(r:Vals vs us)(x:InCallC s s.heap.objs.size (bindL (envOfC qual scope s.heap.objs.size f cd).kindOf (ps.zip us) fun _=>none) (cellsFrom (s.heap.objs.size+1) scope.names []) (bindC (envOfC qual scope s.heap.objs.size f cd).kindOf (ps.zip us) fun _=>none) s1) :
  Inv (cxOf CX P w K mg base N qual scope f cd A outer s H E) [] (start N vs) H s1:=by
 have hpl:ps.length≤N.length:=by have:=congrArg List.length S.pre;rw[List.length_take] at this;omega
 obtain⟨h1,tk,rfl,hk⟩:=x.done
 have noA:∀b:Addr,b∉(cxOf CX P w K mg base N qual scope f cd A outer s H E).ex:=fun b z=>absurd (show b∈([]:List Addr) from z) (by simp)
 refine⟨⟨e0.mod,S.kind,rfl,rfl,Nat.le_refl _,fun y z c h1 h2=>?_,fun y hy=>?_,fun y c _ h=>?_,fun _=>hd,Around.frames_deeper e0.frames,.inr ⟨rfl,rfl⟩,fun b z=>absurd z (noA b),e0.bs,e0.bsz,fun b _ _=>noA b,fun b z=>absurd z (noA b),e0.funs,e0.frf⟩,
  rfl,e0.bare,Un.kept hk,⟨_,x.toInCall.ns,fun i y v h1 h2 h3=>?_⟩,fun y c h=>⟨_,x.cell y c h⟩,e0.hok.fresh (Nat.le_refl _),fun y c h=>?_,fun p hp=>absurd (show p∈([]:List (Addr × Obj)) from hp) (by simp),e0.hok.kept hk,?_⟩
 ·exact name_of_addr x.apart (PySem.mem_of_lookup h1) (PySem.mem_of_lookup h2)
 ·have hy:scope.names.lookup y=some .cell∨scope.names.lookup y=some .free:=hy
  rcases hy with hy | hy
  ·exact cell_has hy
  ·exact absurd rfl (S.nofree _ (PySem.mem_of_lookup hy))
 ·exact Nat.le_of_lt (x.above y c (PySem.mem_of_lookup h))
 ·have hi:i < vs.length:=by
   unfold start at h2
   by_cases hi:i < vs.length
   ·exact hi
   ·rw[List.getElem?_append_right (by simpa using hi)] at h2
    rw[List.getElem?_replicate] at h2
    split at h2<;>cases h2
  have ha:vs[i]?=some v:=by
   unfold start at h2
   rw[List.getElem?_append_left (by simpa using hi),List.getElem?_map] at h2
   cases e:vs[i]? with
   |none=>rw[e] at h2;cases h2
   |some a=>rw[e] at h2;cases h2;rfl
  obtain⟨u,hu,rv⟩:=r.get ha
  have hp:ps[i]?=some y:=by
   rw[← S.pre,List.getElem?_take_of_lt (by omega)];exact h1
  have ndP:ps.Nodup:=by rw[← S.pre];exact S.nd.sublist (List.take_sublist _ _)
  refine⟨u,rv,?_⟩
  rcases S.par y (List.mem_of_getElem? hp) with k | k
  ·exact .inl ⟨k,bindL_get ndP hp hu k⟩
  ·obtain⟨c,e⟩:=cell_has (n:=s.heap.objs.size+1) k
   refine .inr ⟨.inl k,c,e,?_⟩
   have q:=x.cell y c e
   rw[bindC_get ndP hp hu (by show scope.names.lookup y≠_;rw[k];decide)] at q
   exact q
 ·exact e0.hok.fresh (Nat.le_of_lt (x.above y c (PySem.mem_of_lookup h)))
 ·unfold start
  show _=N.length
  rw[List.length_append,List.length_map,List.length_replicate]
  omega
theorem fn_of {CX:CXT}{P:Program}{w:World}{K:PySem.W.Frag}{mg:Str→Option Value}{base:Heap}{k:Nat}{f:Addr}{name qual:Str}{params:Arguments}{body:List Stmt}{scope:Scope}{dV kV doc pm cdv ct oc:Value}{an od:Option Addr}{osl:Array (Option Value)}{N ps:List Str}{sp:Sp}(lk:K.lookup f=some ⟨oc,od,.func (PySem.W.fnOf name qual params body scope dV kV doc pm an cdv ct),osl⟩)(hcd:PySem.W.codeIn K cdv qual=true)(S:FnScope N ps scope)(len:∀vs H Q E,sp vs H Q E→vs.length=ps.length)(hbody:∀(A:Around) (outer:List Env) (s:Shared) (H:Hp) (vs:List V) (Q:VK) (E:XK),Room k (A.deeper (envOfC qual scope s.heap.objs.size f cdv))→sp vs H Q E→
   ∃t,PSs (cxOf CX P w K mg base N qual scope f cdv A outer s H E) body t∧t { nx:=fun _ H'=>Q .non H',rt:=Q } (start N vs) H) :
  FnOk P w K mg base CX (k+1) f (PySem.W.fnOf name qual params body scope dV kV doc pm an cdv ct) ps sp:=by
 refine⟨len,fun A outer s H args us vs Q E hr e0 hb r hsp=>?_⟩
 have hl:=len _ _ _ _ hsp
 have KX:K.In s.heap:=e0.mod.kin.keeps fun b o e=>(e0.bs b o e).1
 have lim:s.heap.NoLimit:=e0.mod.nolimit.keeps fun b o e=>(e0.bs b o e).1
 have hkind:∀y∈ps.zip us,scope.names.lookup y.1=some .local∨(scope.names.lookup y.1=some .cell∧((cellsFrom (s.heap.objs.size+1) scope.names []).lookup y.1).isSome=true):=fun ⟨n,v⟩ hy=>by
  rcases S.par n (List.of_mem_zip hy).1 with q | q
  ·exact .inl q
  ·exact .inr ⟨q,PySem.W.cellsFrom_some _ _ _ (.inl q)⟩
 refine codeAny_call_function hr.depth (KX _ _ lk) rfl S.co S.gen rfl (PySem.W.codeRec_of KX hcd) (hb _ _ _ _ ?_)
 refine wpAny_newFunctionEnv_cells S.kind hkind fun env he s1 x=>?_
 subst he
 refine⟨lim.keeps x.toInCall.keep,codeAny_func ?_⟩
 obtain⟨t,ht,hq⟩:=hbody A outer s H vs Q E (hr.deeper _) hsp
 have I:Inv (cxOf CX P w K mg base N qual scope f cdv A outer s H E) [] (start N vs) H s1:=inv_start S hr.hd e0 hl r x
 refine wpAny_mono (ht [] s1 (start N vs) H _ I hq) (fun fl s' hs=>?_) fun e s' hs=>hs
 have fin:∀{σ':St} {H':Hp} {v:V} {u:Value},Inv (cxOf CX P w K mg base N qual scope f cdv A outer s H E) [] σ' H' s'→RelV v u→Q v H'→CE outer P w H s Q u s':=
  fun {σ' H' v u} J rv q=>⟨v,H',J.os,J.bare,J.base,J.hok,rv,q⟩
 cases fl with
 |ret u=>
  obtain⟨v,σ',H',J,rv,q⟩:=hs
  exact fin J rv q
 |next=>
  obtain⟨σ',H',J,q⟩:=hs
  exact fin (v:=V.non) (u:=Value.none) J rfl q
 |brk=>
  obtain⟨_,_,_,q⟩:=hs
  exact False.elim q
 |cont=>
  obtain⟨_,_,_,q⟩:=hs
  exact False.elim q
section
variable {X:Cx} {x:Str} {p pos:Pos} {e:Expr} {es:List Expr} {t:TA} {id T:String} {r:List V→Hp→VK→Prop}
def tCB (r:List V→Hp→VK→Prop)(t:TA):TE:=fun σ H Q=>t σ H fun vs H1=>r vs H1 Q
theorem pe_callB (hc:CallR X (.builtin id) r)(hg:Gl X x)(hm:X.mg x=none)(hv:bootBuiltins x=some (.builtin id))(ha:PA X (e :: es) t)(hn:x≠"__name__":=by decide)(hdb:(x == ("__debug__":Str))=false:=by decide)(he:starEach (e :: es) X.env=(false,eval e X.env) :: starEach es X.env:=by rfl)(hpl:(backTo pos (starEach es X.env)).any (·.1)=false:=by rfl):PE X (.Call (.Name x p) (e :: es) [] pos) (tCB r t):=by
 intro pins s σ H Q I h
 refine wpAny_Call_Name_kw (ld_blt I hg hm hv ?_ hn hdb)
 exact PyProof.Rows.callWith_builtin1 (thn (ha pos pins s σ H _ I h) fun us s1 ⟨vs,H1,I1,r1,q1⟩=>hc pins s1 σ H1 vs us Q I1 r1 q1) he hpl
theorem pe_callTy (hc:CallR X (.type T) r)(hg:Gl X x)(hm:X.mg x=none)(hv:bootBuiltins x=some (.type T))(ha:PA X (e :: es) t)(hn:x≠"__name__":=by decide)(hdb:(x == ("__debug__":Str))=false:=by decide)(he:starEach (e :: es) X.env=(false,eval e X.env) :: starEach es X.env:=by rfl)(hpl:(backTo pos (starEach es X.env)).any (·.1)=false:=by rfl):PE X (.Call (.Name x p) (e :: es) [] pos) (tCB r t):=by
 intro pins s σ H Q I h
 refine wpAny_Call_Name_kw (ld_blt I hg hm hv ?_ hn hdb)
 exact PyProof.Rows.callWith_type1 (thn (ha pos pins s σ H _ I h) fun us s1 ⟨vs,H1,I1,r1,q1⟩=>hc pins s1 σ H1 vs us Q I1 r1 q1) he hpl
end
end L2
namespace HT
open PySem PyProof.Rows
section
variable {prog:Program} {w:World} {A:Around} {E:Value→Shared→Prop} {s:Shared}
def sIx (n d:Nat):Option Int→Nat
 |none=>d
 |some v=>if v < 0 then (v+(n:Int)).toNat else min v.toNat n
theorem sIx_nat (n d k:Nat):sIx n d (some (k:Int))=min k n:=by
 show (if (k:Int) < 0 then ((k:Int)+(n:Int)).toNat else min (k:Int).toNat n)=min k n
 rw[if_neg (by omega),Int.toNat_natCast]
end
end HT
namespace L2
open PySem PySem.Spec PyProof.Rows
abbrev TO:=St→Hp→(Option Int→Hp→Prop)→Prop
def PO (X:Cx)(e:Option Expr)(t:TO):Prop:=
 ∀(pins:List (Addr × Obj)) (s:Shared) (σ:St) (H:Hp) (Q:Option Int→Hp→Prop),Inv X pins σ H s→t σ H Q→
  wpAny (model X.prog X.w) X.A (evalPart e X.env) (fun u s'=>∃o H',Inv X pins σ H' s'∧IsPart u o∧Q o H') X.xe s
def tNoPart:TO:=fun _ H Q=>Q none H
def tPart (t:TE):TO:=fun σ H Q=>t σ H fun x H1=>∃i,x=.int i∧Q (some i) H1
section
variable {X:Cx} {e:Expr} {te:TE} {lo hi:Option Expr} {tl th:TO} {pos p2:Pos}
theorem po_none:PO X none tNoPart:=by
 intro pins s σ H Q I h
 rw[evalPart_none]
 exact wpAny_pure ⟨none,H,I,.none,h⟩
theorem po_some (h:PE X e te):PO X (some e) (tPart te):=by
 intro pins s σ H Q I hw
 rw[evalPart_some]
 refine thn (h pins s σ H _ I hw) fun u s1 ⟨x,H1,I1,r1,q1⟩=>?_
 obtain⟨i,rfl,q⟩:=q1
 obtain⟨t,rfl⟩:=r1
 exact⟨some i,H1,I1,.int i t,q⟩
def SlR (X:Cx)(r:V→Option Int→Option Int→Hp→VK→Prop):Prop:=
 ∀(pins:List (Addr × Obj)) (s:Shared) (σ:St) (H:Hp) (x:V) (v vl vu:Value) (lo hi:Option Int) (sl:Addr) (Q:VK),Inv X pins σ H s→RelV x v→s.heap.IsSliceOf sl vl vu .none→IsPart vl lo→IsPart vu hi→r x lo hi H Q→
  ∃T id,typeLookup (.type T) "__getitem__"=pure (some (.builtin id))∧s.TypeIs v T∧wpAny (model X.prog X.w) X.A (getItem v (.ref sl)) (EP X pins σ Q) X.xe s
def tSl (r:V→Option Int→Option Int→Hp→VK→Prop)(te:TE)(tl th:TO):TE:=fun σ H Q=>te σ H fun x H1=>tl σ H1 fun l H2=>th σ H2 fun u H3=>r x l u H3 Q
theorem pe_slice {r:V→Option Int→Option Int→Hp→VK→Prop}(hr:SlR X r)(he:PE X e te)(hl:PO X lo tl)(hu:PO X hi th):PE X (.Subscript e (.Slice lo hi none p2) pos) (tSl r te tl th):=by
 intro pins s σ H Q I h
 refine Subscript_ (thn (he pins s σ H _ I h) fun v s1 ⟨x,H1,I1,r1,q1⟩=>?_)
 refine wpAny_Slice (thn (hl pins s1 σ H1 _ I1 q1) fun vl s2 ⟨l,H2,I2,pl,q2⟩=>thn (hu pins s2 σ H2 _ I2 q2) fun vu s3 ⟨u,H3,I3,pu,q3⟩=>?_)
 rw[evalPart_none]
 refine wpAny_pure ?_
 have I4:Inv X pins σ H3 { s3 with heap:=s3.heap.push { cls:=.type "slice",data:=.fields #[vl,vu,.none] } }:=I3.kept (t':=s3.toks) fun b ob q=>Heap.get?_push_of_some _ q
 obtain⟨T,id,hT,ht,hg⟩:=hr pins { s3 with heap:=s3.heap.push { cls:=.type "slice",data:=.fields #[vl,vu,.none] } } σ H3 x v vl vu l u s3.heap.objs.size Q I4 r1 (Heap.IsSliceOf.new ..) pl pu q3
 show wpAny (model X.prog X.w) X.A (subscriptTail e (.Slice lo hi none p2) v (.ref s3.heap.objs.size)) (EP X pins σ Q) X.xe { s3 with heap:=s3.heap.push { cls:=.type "slice",data:=.fields #[vl,vu,.none] } }
 exact tail_any (ops:=[.ref s3.heap.objs.size,v]) ht hT hg (by with_unfolding_all rfl)
def cutV (xs:List V)(lo hi:Option Int):List V:=(xs.drop (HT.sIx xs.length 0 lo)).take (HT.sIx xs.length xs.length hi - HT.sIx xs.length 0 lo)
theorem cutV_length (xs:List V)(lo hi:Option Int):(cutV xs lo hi).length≤xs.length:=by
 unfold cutV
 exact Nat.le_trans (List.length_take_le' _ _) (by rw[List.length_drop];exact Nat.sub_le _ _)
end
def ixN (n:Nat)(i:Int):Option Nat:=if 0≤i then (if i < n then some i.toNat else none) else if -(n:Int)≤i then some (i+n).toNat else none
def atI {α:Type}(xs:List α)(i:Int):Option α:=(ixN xs.length i).bind fun j=>xs[j]?
theorem ixN_seq {n:Nat}{i:Int}{j:Nat}(h:ixN n i=some j):seqIndex? i n=some j∧j < n∧-(n:Int)≤i∧i < n:=by
 unfold ixN at h
 by_cases h0:0≤i
 ·rw[if_pos h0] at h
  by_cases h1:i < n
  ·rw[if_pos h1] at h
   have e:i.toNat=j:=Option.some.inj h
   exact⟨by rw[seqIndex_of h0 h1,e],by omega,by omega,h1⟩
  ·rw[if_neg h1] at h;cases h
 ·rw[if_neg h0] at h
  by_cases h1:-(n:Int)≤i
  ·rw[if_pos h1] at h
   have e:(i+n).toNat=j:=Option.some.inj h
   exact⟨by rw[seqIndex_neg (by omega) h1,e],by omega,h1,by omega⟩
  ·rw[if_neg h1] at h;cases h
theorem atI_get {α:Type}{xs:List α}{i:Int}{v:α}(h:atI xs i=some v):∃j,seqIndex? i xs.length=some j∧xs[j]?=some v∧j < xs.length∧-(xs.length:Int)≤i∧i < xs.length:=by
 unfold atI at h
 cases e:ixN xs.length i with
 |none=>rw[e] at h;cases h
 |some j=>
  rw[e] at h
  obtain⟨h1,h2,h3,h4⟩:=ixN_seq e
  exact⟨j,h1,h,h2,h3,h4⟩
theorem atI_nat {α:Type}{xs:List α}{j:Nat}{v:α}(h:xs[j]?=some v):atI xs (j:Int)=some v:=by
 have hj:j < xs.length:=(List.getElem?_eq_some_iff.mp h).1
 have e:ixN xs.length (j:Int)=some j:=by
  unfold ixN
  rw[if_pos (by omega),if_pos (by omega)];simp
 unfold atI;rw[e];exact h
theorem atI_last {α:Type}(xs:List α)(v:α):atI (xs++[v]) (-1)=some v:=by
 have hl:(xs++[v]).length=xs.length+1:=by simp
 have e:ixN (xs++[v]).length (-1)=some xs.length:=by
  unfold ixN
  rw[hl,if_neg (by decide),if_pos (by omega)]
  congr 1
  omega
 unfold atI
 rw[e]
 show (xs++[v])[xs.length]?=some v
 simp
def PlainIx (b:Expr):Prop:=∀o i,subscripted b false o i=operate [o,i] (getItem o i)
def IxR (X:Cx)(r:R2):Prop:=
 ∀(value slice:Expr) (pins:List (Addr × Obj)) (s:Shared) (σ:St) (H:Hp) (x y:V) (v u:Value) (Q:VK),Inv X pins σ H s→RelV x v→RelV y u→r x y H Q→
  subscripted slice false v u=operate [v,u] (getItem v u)→wpAny (model X.prog X.w) X.A (subscriptTail value slice v u) (EP X pins σ Q) X.xe s
def MtR (X:Cx)(id:String)(r:V→List V→Hp→VK→Prop):Prop:=
 ∀(pins:List (Addr × Obj)) (s:Shared) (σ:St) (H:Hp) (x:V) (xs:List V) (v:Value) (us:List Value) (Q:VK),Inv X pins σ H s→RelV x v→Vals xs us→r x xs H Q→
  wpAny (model X.prog X.w) X.A (call (.builtin id) (v :: us)) (EP X pins σ Q) X.xe s
section
variable {X:Cx} {a b:Expr} {ta tb:TE} {pos:Pos}
theorem pe_ix {r:R2}(hr:IxR X r)(ha:PE X a ta)(hb:PE X b tb)(hs:PlainIx b):PE X (.Subscript a b pos) (tOp r ta tb):=by
 intro pins s σ H Q I h
 exact Subscript_ (binT ha hb I h fun v u s2 x y H2 I2 rx ry q=>hr a b pins s2 σ H2 x y v u Q I2 rx ry q (hs _ _))
def rIxL (K:PySem.W.Frag):R2:=fun x y H Q=>∃p xs i v,x=.ref p∧y=.int i∧SqL K H p xs∧atI xs i=some v∧Q v H
def rIxT (K:PySem.W.Frag):R2:=fun x y H Q=>∃p xs i v,x=.ref p∧y=.int i∧SqT K H p xs∧atI xs i=some v∧Q v H
theorem ix_list:IxR X (rIxL X.K):=by
 intro value slice pins s σ H x y v u Q I rx ry h hs
 obtain⟨p,xs,i,z,rfl,rfl,hq,he,q⟩:=h
 cases rx
 obtain⟨t,rfl⟩:=ry
 obtain⟨its,r,pl,hz⟩:=I.list hq
 obtain⟨j,h1,h2,h3,h4,h5⟩:=atI_get he
 obtain⟨w,ew,rw'⟩:=r.get h2
 have hl:=r.length
 have hn:=line63
 have fin:EP X pins σ Q w s:=⟨z,H,I,rw',q⟩
 by_cases h0:0≤i
 ·have hj:i.toNat=j:=by
   rw[seqIndex_of h0 h5] at h1
   exact Option.some.inj h1
  exact item_listR pl.isList h0 (by omega) (by rw[hj];simpa using ew) fin hs
 ·have hj:(i+(its.toArray.size:Int)).toNat=j:=by
   rw[seqIndex_neg (by omega) h4] at h1
   rw[List.size_toArray,← hl]
   exact Option.some.inj h1
  exact subscriptTail_builtinR (x:=w) pl.isList.typeIs slot_list_getitem.lookup
   (wpAny_getItem_list_neg (Q:=fun r s'=>r=w∧EP X pins σ Q r s') pl.isList (by omega) (by rw[List.size_toArray]<;>omega) (by omega) (by rw[hj];simpa using ew) ⟨rfl,fin⟩) hs
theorem ix_tup:IxR X (rIxT X.K):=by
 intro value slice pins s σ H x y v u Q I rx ry h hs
 obtain⟨p,xs,i,z,rfl,rfl,hq,he,q⟩:=h
 cases rx
 obtain⟨t,rfl⟩:=ry
 obtain⟨its,r,pl,hz⟩:=I.tuple hq
 obtain⟨j,h1,h2,h3,h4,h5⟩:=atI_get he
 obtain⟨w,ew,rw'⟩:=r.get h2
 have hl:=r.length
 have hn:=line63
 have fin:EP X pins σ Q w s:=⟨z,H,I,rw',q⟩
 exact subscriptTail_builtinR (x:=w) pl.typeIs slot_tuple_getitem.lookup
  (getItem_tuple (j:=j) (Q:=fun r s'=>r=w∧EP X pins σ Q r s') pl (by omega) (by omega) (by rw[List.size_toArray,← hl];exact h1) (by simpa using ew) ⟨rfl,fin⟩) hs
theorem sbA (lo hi:Option Int)(n:Nat):(sliceBounds lo hi none n).1=((HT.sIx n 0 lo:Nat):Int):=by
 cases lo with
 |none=>simp[sliceBounds,HT.sIx]
 |some i=>
  simp only[sliceBounds,HT.sIx,Option.getD_none,show (1:Int) > 0 by decide,if_true]
  by_cases h:i < 0
  ·simp only[h,if_true]<;>omega
  ·simp only[h,if_false]<;>omega
theorem slice_bounds (lo hi:Option Int)(n:Nat):(sliceBounds lo hi none n).1=((HT.sIx n 0 lo:Nat):Int)∧(sliceBounds lo hi none n).2.1=((HT.sIx n n hi:Nat):Int)∧(sliceBounds lo hi none n).2.2=1:=by
 refine⟨sbA lo hi n,?_,rfl⟩
 cases hi with
 |none=>simp[sliceBounds,HT.sIx]
 |some i=>exact sbA (some i) lo n
theorem slicePick_cut (its:List Value)(lo hi:Option Int):slicePick its.toArray lo hi none=((its.drop (HT.sIx its.length 0 lo)).take (HT.sIx its.length its.length hi - HT.sIx its.length 0 lo)).toArray:=by
 obtain⟨h1,h2,h3⟩:=slice_bounds lo hi its.toArray.size
 unfold slicePick
 rw[h1,h2,h3]
 simp only[sliceRange_one,pick_run,List.size_toArray]<;>rfl
def rSlL (K:PySem.W.Frag):V→Option Int→Option Int→Hp→VK→Prop:=fun x lo hi H Q=>∃a xs,x=.ref a∧SqL K H a xs∧∀p,H p=none→Q (.ref p) (upd H p (.lst (cutV xs lo hi)))
theorem sl_list:SlR X (rSlL X.K):=by
 intro pins s σ H x v vl vu lo hi sl Q I rx hs pl pu h
 obtain⟨a,xs,rfl,hx,q⟩:=h
 cases rx
 obtain⟨its,r,ht,hz⟩:=I.list hx
 have hlen:=r.length
 refine⟨"list",_,slot_list_getitem.lookup,ht.isList.typeIs,?_⟩
 refine wpAny_getItem_list_slice ht.isList hs pl pu .none (by simp) ?_ (by rw[List.size_toArray]<;>omega)
 rw[slicePick_cut,← hlen]
 refine⟨.ref s.heap.objs.size,_,I.laid (t':=s.toks) (o:=.lst (cutV xs lo hi)) (fun b ob q=>Heap.get?_push_of_some _ q) (Nat.le_refl _) ?_,rfl,q _ (I.hok.fresh (Nat.le_refl _))⟩
 exact⟨Nat.le_trans (cutV_length xs lo hi) hz,_,0,(r.drop (HT.sIx xs.length 0 lo)).take (HT.sIx xs.length xs.length hi - HT.sIx xs.length 0 lo),Heap.get?_push_size _ rfl⟩
def flatV:V→Bool
 | .non=>true
 | .bl _=>true
 | .int _=>true
 | .str _=>true
 |_=>false
def eqV:V→V→Bool
 | .non,.non=>true
 | .bl a,.bl b=>a == b
 | .bl a,.int b=>(if a then 1 else 0) == b
 | .int a,.bl b=>a == (if b then 1 else 0)
 | .int a,.int b=>a == b
 | .str a,.str b=>a == b
 |_,_=>false
theorem eqAt_V {A:Around}{s:Shared}{y x:V}{u v:Value}(ry:RelV y u)(rx:RelV x v)(fy:flatV y=true)(fx:flatV x=true):SeqAt.EqAt A s u v (eqV y x):=by
 cases y with
 |non=>
  cases ry
  cases x with
  |non=>cases rx;exact SeqAt.EqAt.same _
  |bl b=>cases rx;exact SeqAt.EqAt.none_bool b
  |int b=>obtain⟨t,rfl⟩:=rx;exact SeqAt.EqAt.none_int b t
  |str b=>obtain⟨t,rfl⟩:=rx;exact SeqAt.EqAt.none_str b t
  |_=>exact absurd (show false=true from fx) Bool.false_ne_true
 |bl a=>
  cases ry
  cases x with
  |non=>cases rx;exact SeqAt.EqAt.bool_none a
  |bl b=>cases rx;exact SeqAt.EqAt.bool_bool a b
  |int b=>obtain⟨t,rfl⟩:=rx;exact SeqAt.EqAt.bool_int a b t
  |str b=>obtain⟨t,rfl⟩:=rx;exact SeqAt.EqAt.bool_str a b t
  |_=>exact absurd (show false=true from fx) Bool.false_ne_true
 |int a=>
  obtain⟨t',rfl⟩:=ry
  cases x with
  |non=>cases rx;exact SeqAt.EqAt.int_none a t'
  |bl b=>cases rx;exact SeqAt.EqAt.int_bool a t' b
  |int b=>obtain⟨t,rfl⟩:=rx;exact SeqAt.EqAt.int_int a t' b t
  |str b=>obtain⟨t,rfl⟩:=rx;exact SeqAt.EqAt.int_str a t' b t
  |_=>exact absurd (show false=true from fx) Bool.false_ne_true
 |str a=>
  obtain⟨t',rfl⟩:=ry
  cases x with
  |non=>cases rx;exact SeqAt.EqAt.str_none a t'
  |bl b=>cases rx;exact SeqAt.EqAt.str_bool a t' b
  |int b=>obtain⟨t,rfl⟩:=rx;exact SeqAt.EqAt.str_int a t' b t
  |str b=>obtain⟨t,rfl⟩:=rx;exact SeqAt.EqAt.str_str a t' b t
  |_=>exact absurd (show false=true from fx) Bool.false_ne_true
 |_=>exact absurd (show false=true from fy) Bool.false_ne_true
def eqU (x:V)(u:Value):Bool:=match u with
 | .none=>eqV .non x
 | .bool b=>eqV (.bl b) x
 | .int i _=>eqV (.int i) x
 | .str z _=>eqV (.str z) x
 |_=>false
theorem eqU_of {x y:V}{u:Value}(r:RelV y u)(f:flatV y=true):eqU x u=eqV y x:=by
 cases y with
 |non=>cases r;rfl
 |bl b=>cases r;rfl
 |int i=>obtain⟨t,rfl⟩:=r;rfl
 |str z=>obtain⟨t,rfl⟩:=r;rfl
 |_=>exact absurd (show false=true from f) Bool.false_ne_true
theorem any_eqU {x:V}:∀{xs:List V} {us:List Value},Vals xs us→xs.all flatV=true→us.any (eqU x)=xs.any fun y=>eqV y x
 |_,_,.nil,_=>rfl
 |y :: xs,u :: us,.cons r t,f=>by
  rw[List.all_cons,Bool.and_eq_true] at f
  rw[List.any_cons,List.any_cons,eqU_of r f.1,any_eqU t f.2]
theorem mem_eqAt {A:Around}{s:Shared}{x:V}{v:Value}(rx:RelV x v)(fx:flatV x=true):∀{xs:List V} {us:List Value},Vals xs us→xs.all flatV=true→∀u∈us,SeqAt.EqAt A s u v (eqU x u)
 |_,_,.nil,_=>fun u hu=>by cases hu
 |y :: xs,u :: us,.cons r t,f=>fun u' hu=>by
  rw[List.all_cons,Bool.and_eq_true] at f
  rcases List.mem_cons.mp hu with rfl | hu
  ·rw[eqU_of r f.1];exact eqAt_V r rx f.1 fx
  ·exact mem_eqAt rx fx t f.2 u' hu
def inV (x:V)(xs:List V):Bool:=xs.any fun y=>eqV y x
def rIn (K:PySem.W.Frag)(neg:Bool):R2:=fun x y H Q=>∃p xs,y=.ref p∧(SqL K H p xs∨SqT K H p xs)∧flatV x=true∧xs.all flatV=true∧Q (.bl (if neg then !inV x xs else inV x xs)) H
theorem op_in_seq:OpR X (compareOp .In) (rIn X.K false):=by
 intro pins s σ H x y v u Q I rx ry h
 obtain⟨p,xs,rfl,hq,fx,fs,q⟩:=h
 cases ry
 rcases hq with hq | hq
 ·obtain⟨its,r,pl,hz⟩:=I.list hq
  refine SeqAt.in_listAt (eqU x) pl.isList (fun w hw=>mem_eqAt rx fx r fs w (by simpa using hw)) ⟨.bl _,H,I,rfl,?_⟩
  rw[show its.toArray.any (eqU x)=its.any (eqU x) by simp,any_eqU r fs]
  exact q
 ·obtain⟨its,r,pl,hz⟩:=I.tuple hq
  refine SeqAt.in_tupleAt (eqU x) pl (fun w hw=>mem_eqAt rx fx r fs w (by simpa using hw)) ⟨.bl _,H,I,rfl,?_⟩
  rw[show its.toArray.any (eqU x)=its.any (eqU x) by simp,any_eqU r fs]
  exact q
theorem op_notIn_seq:OpR X (compareOp .NotIn) (rIn X.K true):=by
 intro pins s σ H x y v u Q I rx ry h
 obtain⟨p,xs,rfl,hq,fx,fs,q⟩:=h
 cases ry
 rcases hq with hq | hq
 ·obtain⟨its,r,pl,hz⟩:=I.list hq
  refine SeqAt.notIn_listAt (eqU x) pl.isList (fun w hw=>mem_eqAt rx fx r fs w (by simpa using hw)) ⟨.bl _,H,I,rfl,?_⟩
  rw[show its.toArray.any (eqU x)=its.any (eqU x) by simp,any_eqU r fs]
  exact q
 ·obtain⟨its,r,pl,hz⟩:=I.tuple hq
  refine SeqAt.notIn_tupleAt (eqU x) pl (fun w hw=>mem_eqAt rx fx r fs w (by simpa using hw)) ⟨.bl _,H,I,rfl,?_⟩
  rw[show its.toArray.any (eqU x)=its.any (eqU x) by simp,any_eqU r fs]
  exact q
theorem call_len_seq:CallR X (.builtin "len") (fun xs H Q=>∃p ys,xs=[.ref p]∧(SqL X.K H p ys∨SqT X.K H p ys)∧Q (.int ys.length) H):=by
 intro pins s σ H xs us Q I r h
 obtain⟨p,ys,rfl,hq,q⟩:=h
 obtain⟨u,rfl,rx⟩:=vals1 r
 cases rx
 have hn:=line63
 rcases hq with hq | hq
 ·obtain⟨its,r',pl,hz⟩:=I.list hq
  have hlen:=r'.length
  exact Calls.call_len_list pl.isList (by simp only[List.size_toArray]<;>omega) ⟨.int ys.length,H,I.tok _,⟨s.toks+1,by rw[List.size_toArray,hlen]⟩,q⟩
 ·obtain⟨its,r',pl,hz⟩:=I.tuple hq
  have hlen:=r'.length
  exact len_tuple pl (by simp only[List.size_toArray]<;>omega) ⟨.int ys.length,H,I.tok _,⟨s.toks+1,by rw[List.size_toArray,hlen]⟩,q⟩
theorem call_len_str:CallR X (.builtin "len") (fun xs H Q=>∃z,xs=[.str z]∧z.length≤sizeLine∧Q (.int z.length) H):=by
 intro pins s σ H xs us Q I r h
 obtain⟨z,rfl,hz,q⟩:=h
 obtain⟨u,rfl,t,rfl⟩:=vals1 r
 have hn:=line63
 exact len_str (by omega) ⟨.int z.length,H,I.tok _,⟨_,rfl⟩,q⟩
theorem call_list_of:CallR X (.type "list") (fun xs H Q=>∃p ys,xs=[.ref p]∧(SqL X.K H p ys∨SqT X.K H p ys)∧∀l,H l=none→Q (.ref l) (upd H l (.lst ys))):=by
 intro pins s σ H xs us Q I r h
 obtain⟨p,ys,rfl,hq,q⟩:=h
 obtain⟨u,rfl,rx⟩:=vals1 r
 cases rx
 have fin:∀(its:List Value),Vals ys its→ys.length≤sizeLine→∀(h':Heap) (c':Nat),(∀b o',s.heap.get? b=some o'→h'.get? b=some o')→
   h'.get? s.heap.objs.size=some { cls:=.type "list",dict:=none,data:=.seq its.toArray c',slots:=#[] }→EP X pins σ Q (.ref s.heap.objs.size) { s with heap:=h' }:=fun its r' hz h' c' kp e=>
  ⟨.ref s.heap.objs.size,_,I.laid (t':=s.toks) kp (Nat.le_refl _) (show ObjOk X.prog X.w _ h' _ (.lst ys) from ⟨hz,its,c',r',e⟩),rfl,q _ (I.hok.fresh (Nat.le_refl _))⟩
 rcases hq with hq | hq
 ·obtain⟨its,r',pl,hz⟩:=I.list hq
  have hlen:=r'.length
  obtain⟨o,ho,hc,n,hd⟩:=pl.isList
  exact call_list_seq p (.inl rfl) ho hc hd (fun h' c' kp e=>fin its r' hz h' c' kp e) (by simp only[List.size_toArray]<;>omega)
 ·obtain⟨its,r',pl,hz⟩:=I.tuple hq
  have hlen:=r'.length
  obtain⟨o,ho,hc,n,hd⟩:=pl
  exact call_list_seq p (.inr rfl) ho hc hd (fun h' c' kp e=>fin its r' hz h' c' kp e) (by simp only[List.size_toArray]<;>omega)
def tyV (K:PySem.W.Frag)(T:String)(x:V)(H:Hp):Prop:=match x with
 | .str _=>T = "str"
 | .int _=>T = "int"
 | .ref p=>(T = "list"∧∃xs,SqL K H p xs)∨(T = "tuple"∧∃o,K.lookup p=some o∧o.cls=.type "tuple"∧o.dict=none)∨
   (T = "dict"∧((∃kvs,H p=some (.dK kvs))∨∃kvs,H p=some (.dT kvs)))∨(T = "set"∧∃S n,H p=some (.set S n))
 |_=>False
theorem tyV_is {pins:List (Addr × Obj)}{σ:St}{H:Hp}{s:Shared}{T:String}{x:V}{v:Value}(I:Inv X pins σ H s)(r:RelV x v)(ty:tyV X.K T x H) :
  s.TypeIs v T∧∀a,v=.ref a→∃ob,s.heap.get? a=some ob∧ob.dict=none:=by
 cases x with
 |str z=>
  obtain⟨t,rfl⟩:=r
  cases (show T = "str" from ty)
  exact⟨typeIs_str s z t,fun _ e=>nomatch e⟩
 |int i=>
  obtain⟨t,rfl⟩:=r
  cases (show T = "int" from ty)
  exact⟨typeIs_int s i t,fun _ e=>nomatch e⟩
 |ref p=>
  cases r
  rcases ty with ⟨rfl,xs,hq⟩ | ⟨rfl,o,hk,hc,hd⟩ | ⟨rfl,hk⟩ | ⟨rfl,S,n,hk⟩
  ·obtain⟨its,_,pl,_⟩:=I.list hq
   refine⟨pl.isList.typeIs,fun a e=>?_⟩
   cases e
   obtain⟨o,n,e,c,hd,_⟩:=pl
   exact⟨o,e,hd⟩
  ·refine⟨⟨o,I.kIn p o hk,hc⟩,fun a e=>?_⟩
   cases e
   exact⟨o,I.kIn _ o hk,hd⟩
  ·have z:∃o,s.heap.get? p=some o∧o.ExactDict:=by
    rcases hk with ⟨kvs,hk⟩ | ⟨kvs,hk⟩
    ·obtain⟨_,_,_,_,o,_,_,e,ex,_⟩:=I.hok p _ hk
     exact⟨o,e,ex⟩
    ·obtain⟨_,_,_,_,o,_,_,e,ex,_⟩:=I.hok p _ hk
     exact⟨o,e,ex⟩
   obtain⟨o,e,ex⟩:=z
   refine⟨⟨o,e,ex.1⟩,fun a e2=>?_⟩
   cases e2
   exact⟨o,e,ex.2.1⟩
  ·obtain⟨o,_,_,_,e,ex,_⟩:=I.hok p _ hk
   refine⟨⟨o,e,ex.1⟩,fun a e2=>?_⟩
   cases e2
   exact⟨o,e,ex.2.1⟩
 |_=>exact False.elim ty
def tBM (K:PySem.W.Frag)(T:String)(r:V→List V→Hp→VK→Prop)(to:TE)(t:TA):TE:=fun σ H Q=>to σ H fun x H1=>tyV K T x H1∧t σ H1 fun xs H2=>r x xs H2 Q
variable {o e:Expr} {es:List Expr} {to:TE} {t:TA} {name:Str} {apos cpos:Pos} {T id:String} {r:V→List V→Hp→VK→Prop}
theorem pe_bm (pa:PlainAttrs T)(slot:Slot T name id)(hty:typeOf (.builtin id)=pure (.type "method_descriptor"))(hm:MtR X id r)(ho:PE X o to)(ha:PA X (e :: es) t)(hbase:attributeBase o name X.env (eval o X.env)=eval o X.env:=by rfl)(hfew:((backTo cpos (starEach (e :: es) X.env)).all (fun x=>!x.1) && (backToKw cpos (keywordEach [] X.env)).all (fun x=>x.1.isSome)
   && decide ((e :: es).length+([]:List Keyword).length+(if ([]:List Keyword).isEmpty then 0 else 1) < 30))=true:=by rfl)(hline:(apos.endLine == cpos.line)=true:=by rfl)(hs:starEach (e :: es) X.env=(false,eval e X.env) :: starEach es X.env:=by rfl)(hplain:(backTo cpos (starEach es X.env)).any (·.1)=false:=by rfl) :
  PE X (.Call (.Attribute o name apos) (e :: es) [] cpos) (tBM X.K T r to t):=by
 intro pins s σ H Q I h
 refine wpAny_Call_method_late hbase hfew hline rfl (thn (ho pins s σ H _ I h) fun v s1 ⟨x,H1,I1,r1,ty,q1⟩=>?_)
 obtain⟨h1,h2⟩:=tyV_is I1 r1 ty
 refine⟨T,id,pa,slot,hty,h1,h2,?_⟩
 have hA:=ha cpos pins s1 σ H1 _ I1 q1
 rw[hs] at hA ⊢
 refine Calls.callWith_builtin (by show (false || (backTo cpos (starEach es X.env)).any (·.1))=false;rw[hplain]<;>rfl) (Calls.evalArgs_plain ?_)
 exact thn hA fun us s2 ⟨vs,H2,I2,r2,q2⟩=>hm pins s2 σ H2 x vs v us Q I2 r1 r2 q2
end
def MtM (X:Cx)(id:String)(r:V→List V→Hp→VK→Prop):Prop:=
 ∀(pins:List (Addr × Obj)) (s:Shared) (σ:St) (H:Hp) (x:V) (xs:List V) (v:Value) (us:List Value) (Q:VK),Inv X pins σ H s→RelV x v→Vals xs us→r x xs H Q→
  wpAny (model X.prog X.w) X.A (call (.builtin id) (v :: us)) (EP X pins σ Q) X.xe s
theorem Vals.one:∀{x:V} {us:List Value},Vals [x] us→∃u,us=[u]∧RelV x u
 |_,_,.cons r .nil=>⟨_,rfl,r⟩
section
variable {X:Cx} {pins:List (Addr × Obj)} {σ:St} {H:Hp} {s:Shared} {l b:Addr} {xs ys zs:List V}
theorem Inv.lset {its its':List Value}{n:Nat}{f:Array Value→Array Value}{t':Nat}(I:Inv X pins σ H s)(hH:H l=some (.lst xs))(e:s.heap.get? l=some { cls:=.type "list",data:=.seq its.toArray n })(hf:f its.toArray=its'.toArray)(hv:Vals ys its')(hz:ys.length≤sizeLine) :
  Inv X pins σ (upd H l (.lst ys)) { s with heap:=s.heap.update l (Obj.mapSeq f),toks:=t' }:=by
 have q:=PySem.IsL.update e f
 rw[hf] at q
 refine I.write (x:=l) (e:=l) (by rw[hH];exact trivial) (.inl rfl) (fun b' u hb hu=>(Heap.get?_update_other s.heap (Obj.mapSeq f) (Ne.symm hb)).trans hu) ⟨_,q⟩ ?_
 exact⟨hz,its',_,hv,q⟩
theorem Inv.lnew {its:List Value}{t':Nat}(I:Inv X pins σ H s)(hv:Vals ys its)(hz:ys.length≤sizeLine) :
  Inv X pins σ (upd H s.heap.objs.size (.lst ys)) { s with heap:=s.heap.push { cls:=.type "list",data:=.seq its.toArray },toks:=t' }:=
 I.laid (fun _ _ q=>Heap.get?_push_of_some _ q) (Nat.le_refl _) ⟨hz,its,0,hv,Heap.get?_push_size _ rfl⟩
theorem Inv.fresh (I:Inv X pins σ H s):H s.heap.objs.size=none:=I.hok.fresh (Nat.le_refl _)
theorem Inv.lstM (I:Inv X pins σ H s)(hH:H l=some (.lst xs)):xs.length≤sizeLine∧∃(its:List Value) (n:Nat),Vals xs its∧xs.length=its.length∧s.heap.get? l=some { cls:=.type "list",data:=.seq its.toArray n }:=by
 obtain⟨z,its,n,r,e⟩:=I.hok l _ hH
 exact⟨z,its,n,r,r.length,e⟩
theorem notLongL {n:Nat}(h:n≤sizeLine):Builtin.List.listTooLong n=false:=by
 unfold Builtin.List.listTooLong
 exact decide_eq_false (by omega)
end
section
variable {X:Cx}
def rAppend:V→List V→Hp→VK→Prop:=fun x vs H Q=>∃l xs y,x=.ref l∧vs=[y]∧H l=some (.lst xs)∧xs.length < sizeLine∧Q .non (upd H l (.lst (xs++[y])))
theorem mt_append:MtM X "list.append" rAppend:=by
 intro pins s σ H x vs v us Q I rx rv h
 obtain⟨l,xs,y,rfl,rfl,hH,hz,q⟩:=h
 cases rx
 obtain⟨u,rfl,ru⟩:=rv.one
 obtain⟨z,its,n,r,hl,e⟩:=I.lstM hH
 refine call_meets F.slot_list_append ⟨_,e,rfl⟩ F.entry_list_append (F.args_list_append_2 _ _) (PySem.list_append l its.toArray n u (by rw[List.size_toArray];omega)) ⟨e,?_⟩
 refine⟨.non,_,I.lset (its':=its++[u]) hH e (by simp) (r.append (.cons ru .nil)) ?_,rfl,q⟩
 rw[List.length_append,List.length_singleton]
 omega
def rExtend:V→List V→Hp→VK→Prop:=fun x vs H Q=>∃l b xs zs,x=.ref l∧vs=[.ref b]∧H l=some (.lst xs)∧H b=some (.lst zs)∧xs.length+zs.length≤sizeLine∧Q .non (upd H l (.lst (xs++zs)))
theorem mt_extend:MtM X "list.extend" rExtend:=by
 intro pins s σ H x vs v us Q I rx rv h
 obtain⟨l,b,xs,zs,rfl,rfl,hH,hB,hz,q⟩:=h
 cases rx
 obtain⟨u,rfl,ru⟩:=rv.one
 cases ru
 obtain⟨z,its,n,r,hl,e⟩:=I.lstM hH
 obtain⟨z2,its2,n2,r2,hl2,e2⟩:=I.lstM hB
 have hsz:its.toArray.size+its2.toArray.size≤sizeLine:=by rw[List.size_toArray,List.size_toArray];omega
 have hlong:¬(!its.toArray.isEmpty && Builtin.List.listTooLong (its.toArray.size+its2.toArray.size))=true:=by
  rw[notLongL hsz,Bool.and_false]
  exact Bool.false_ne_true
 refine call_meets F.slot_list_extend ⟨_,e,rfl⟩ F.entry_list_extend (F.args_list_extend_2 _ _)
  (AutoSeq1.list_extend_list_list_0 l its.toArray n b its2.toArray n2 hlong (by rw[List.size_toArray];omega) (by omega)) ⟨e,e2,?_⟩
 refine⟨.non,_,I.lset (its':=its++its2) hH e (by simp) (r.append r2) ?_,rfl,q⟩
 rw[List.length_append]
 omega
def rCat:R2:=fun x y H Q=>∃l b xs zs,x=.ref l∧y=.ref b∧H l=some (.lst xs)∧H b=some (.lst zs)∧xs.length+zs.length≤sizeLine∧∀p,H p=none→Q (.ref p) (upd H p (.lst (xs++zs)))
theorem op_cat:OpR X (binaryOp .Add) rCat:=by
 intro pins s σ H x y v u Q I rx ry h
 obtain⟨l,b,xs,zs,rfl,rfl,hH,hB,hz,q⟩:=h
 cases rx
 cases ry
 obtain⟨z,its,n,r,hl,e⟩:=I.lstM hH
 obtain⟨z2,its2,n2,r2,hl2,e2⟩:=I.lstM hB
 refine PySem.P.add_list e e2 ?_ (by rw[List.size_toArray,List.size_toArray];omega)
 have ea:its.toArray++its2.toArray=(its++its2).toArray:=by simp
 rw[ea]
 exact⟨.ref _,_,I.lnew (t':=s.toks) (r.append r2) (by rw[List.length_append];omega),rfl,q _ I.fresh⟩
end
end L2
namespace Att
open PySem PySem.W PySem.Calls PyProof.Rows
theorem ints_of_wellAll {P:Params}{h:Heap}:∀(ns:List Int) (vs:List Value),WellAll P h vs (ns.map WData.int)→IntsAre vs ns:=by
 intro ns
 induction ns with
 |nil=>
  intro vs w
  rw[List.map_nil] at w
  cases w
  exact .nil
 |cons n ns ih=>
  intro vs w
  rw[List.map_cons] at w
  cases w with
  |cons a b=>
   cases a
   exact .cons _ _ (ih _ b)
theorem script_of {l:OpenLaw}{n:Nat}(hn:l.most=some n){P:Params}{h:Heap}{args:List WData}{vals:List Value}(hpre:l.row.toRowW.claim.pre args=true)(hwl:WellAll P h vals args) :
  ∃a vs ns,vals=[Value.ref a]∧args=[WData.list (ns.map WData.int)]∧h.get? a=some { cls:=.type "list",data:=.seq vs.toArray }∧IntsAre vs ns∧ns.length≤n:=by
 have hsh:WShape.hasAll [] args [.list .int]=true:=(pre_splitW hpre).1
 have hc:l.pre.holds [] { args:=args }=true:=(pre_splitW hpre).2
 obtain⟨d,r,rfl,h1,h2⟩:=hasAllW_cons hsh
 obtain rfl:=hasAllW_nil h2
 obtain⟨xs,rfl,h3⟩:=hasW_list h1
 obtain⟨ns,rfl⟩:=items_int h3
 have hlen:ns.length≤n:=by
  unfold OpenLaw.pre at hc
  have h4:(WTm.not (.lt (.lit (.int (n:Int))) (.len (.arg 0)))).holds [] { args:=[.list (ns.map .int)] }=true:=by
   have h4:=(holds_andW hc).1
   rw[hn] at h4
   exact h4
  have h5:=condW_of h4 (w_not (w_lt w_lit (w_len_list (w_arg rfl))))
  rw[List.length_map] at h5
  refine Nat.le_of_not_lt fun q=>?_
  have q':(n:Int) < ((ns.length:Nat):Int):=by omega
  first
   | (rw[decide_eq_true q'] at h5;exact absurd h5 (by decide))
   | (simp at h5;omega)
 cases hwl with
 |cons w1 w2=>
  cases w2
  cases w1 with
  |list ho hall=>exact⟨_,_,ns,rfl,rfl,ho,ints_of_wellAll ns _ hall,hlen⟩
theorem post_true (l:OpenLaw)(args:List WData):l.row.toRowW.claim.post args (.bool true) args=true:=
 postW_of (r:=l.row.toRowW) (X:=(true == true))
  (show WShape.has [] (.bool true) .bool=true by first | rfl | decide | simp[WShape.has,WShape.arms,WShape.armsAll])
  (show (WTm.eq .res (.lit (.bool true))).value [] { args:=args,res:=some (.bool true),after:=args }=some (.bool (true == true)) from w_eq_bool (w_res rfl) w_lit) rfl
theorem attach_call {l:OpenLaw}{n:Nat}{q:Program}{loose:List Str}{XP:(Str→Option Value)→Heap→Prop}{YP:World→Heap→Prop}{d:DefRec}(hn:l.most=some n)(hdf:d.params.defaults=[])(call:∀(w:World) (s₀ s₁:Shared) (mg mb:Str→Option Value) (fa:Addr) (o:Obj) (pm cd doc:Value) (a:Addr) (vs:List Value) (ns:List Int),
   Ground q loose [] XP w s₀ mg mb s₁.heap→YP w s₁.heap→
   s₁.heap.get? fa=some o→o.data=.func (docDef d.name d.params d.body d.scope pm cd doc)→s₁.heap.CodeRec cd d.name→mg d.name=some (.ref fa)→
   s₁.heap.get? a=some { cls:=.type "list",data:=.seq vs.toArray }→IntsAre vs ns→ns.length≤n→s₁.gens=#[]→
   codeAny (model l.prog w) callerA (.call (.ref fa) ⟨[.ref a],[]⟩) (fun r s'=>r=.ok (.ret (.bool true))∧OldK s₁.heap s'.heap∧s'.os=s₁.os∧AllBare s'.gens) s₁) :
  WalkO q loose XP YP l.row.toRowW d [] (fun f vs=>PySem.call f vs):=by
 intro w s₀ s₁ mg mb G Y fa o pm cd doc dV kV ho hd hcd hD hmg hg args vals as hpre hlay hrd hwl hlo
 obtain rfl:dV=.none:=Dflts.none hD hdf
 obtain rfl:kV=.none:=Dflts.noKw hD
 obtain⟨a,vs,ns,rfl,rfl,hobj,hints,hlen⟩:=script_of hn hpre hwl
 refine enter_call (codeAny_mono (call w s₀ s₁ mg mb fa o pm cd doc a vs ns G Y ho (fd_plain hd) hcd hmg hobj hints hlen hg) fun r s' hq=>?_)
 obtain⟨rfl,h2,h3,h4⟩:=hq
 exact⟨.inl ⟨.bool true,.bool true,[],rfl,fun _=>rfl,.bool true,post_true l _,fun _=>⟨List.Pairwise.nil,fun _ hm=>(nomatch hm)⟩⟩,h2,h3,h4⟩
end Att
namespace L2
open PySem PySem.Spec PyProof.Rows
theorem vals_ints:∀{vs:List Value} {ns:List Int},IntsAre vs ns→Vals (ns.map V.int) vs
 |_,_,.nil=>.nil
 |_,_,.cons n t h=>.cons ⟨t,rfl⟩ (vals_ints h)
def Only (H:Hp):Prop:=∀b,H b=none∨∃o xs,H b=some (.frz o (.lst xs))
theorem law_call {P:Program}{w:World}{K:PySem.W.Frag}{mg mb:Str→Option Value}{CX:CXT}{k:Nat}{fa a:Addr}{fd:FuncData}{x:Str}{sp:Sp}{s₁:Shared}{vs:List Value}{ns:List Int}(KX:K.In s₁.heap)(hns:s₁.heap.Ns mainGlobals mg)(hb:s₁.heap.Ns builtinsNs mb)(hbb:∀x:Str,x≠"__name__"→mb x=bootBuiltins x)(hlim:s₁.heap.NoLimit)(hg:s₁.gens=#[])(ha:s₁.heap.get? a=some { cls:=.type "list",data:=.seq vs.toArray })(hi:IntsAre vs ns)(hl:ns.length≤sizeLine)(hr:Room k callerA)(F:∀base:Heap,K.In base→base.Ns mainGlobals mg→FnOk P w K mg base CX k fa fd [x] sp)(hbind:∀(s:Shared) (u:Value),BindsTo s fd ⟨[u],[]⟩ [(x,u)])(hsp:∀H:Hp,Only H→SqL K H a (ns.map V.int)→sp [.ref a] H (fun v _=>v=.bl true) fun _ _ _=>False)(hCX:∀H e s',CX [] H s₁ (fun _ _ _=>False) e s'→False) :
  codeAny (model P w) callerA (.call (.ref fa) ⟨[.ref a],[]⟩) (fun r s'=>r=.ok (.ret (.bool true))∧OldK s₁.heap s'.heap∧s'.os=s₁.os∧AllBare s'.gens) s₁:=by
 have rv:=vals_ints hi
 have lenV:=hi.length
 have core:∀H:Hp,Only H→SqL K H a (ns.map V.int)→HOk P w H s₁.heap→(∀b,H b≠none→b=a)→(H a≠none→K.lookup a=none)→
   codeAny (model P w) callerA (.call (.ref fa) ⟨[.ref a],[]⟩) (fun r s'=>r=.ok (.ret (.bool true))∧OldK s₁.heap s'.heap∧s'.os=s₁.os∧AllBare s'.gens) s₁:=by
  intro H hO hS hok hA hK
  have base_of:∀{b:Addr} {o:Obj},s₁.heap.get? b=some o→H b=none→(hidT s₁.heap H).get? b=some o:=fun e n=>hidT_get e n
  have noA:∀{b:Addr} {o:Obj} {es:Array DictEntry} {ep:Nat},s₁.heap.get? b=some o→o.data=.dict es ep→H b=none:=fun {b o es ep} e d=>by
   cases q:H b with
   |none=>rfl
   |some u=>
    have e':b=a:=hA b (by rw[q];simp)
    subst e'
    rw[ha] at e;cases e
    have d':Data.seq vs.toArray _=Data.dict es ep:=d
    cases d'
  have nsK:∀{b:Addr} {m:Str→Option Value},s₁.heap.Ns b m→(hidT s₁.heap H).Ns b m:=fun {b m} ⟨o,es,ep,e,d,r⟩=>⟨o,es,ep,base_of e (noA e d),d,r⟩
  have hKb:K.In (hidT s₁.heap H):=fun b o e=>base_of (KX b o e) (by
   cases q:H b with
   |none=>rfl
   |some u=>
    have e':b=a:=hA b (by rw[q];simp)
    subst e'
    rw[hK (by rw[q];simp)] at e;cases e)
  have hM:Mod K mg (hidT s₁.heap H):=⟨hKb,nsK hns,⟨mb,nsK hb,hbb⟩,let ⟨mc,h1,h2⟩:=hlim;⟨mc,nsK h1,h2⟩⟩
  have e0:Env0 P w K mg (hidT s₁.heap H) callerA [] s₁ H:=⟨rfl,hM,fun b o e=>of_hidT e,Nat.le_of_eq (hidT_size _ _),trivial,fun b hb=>absurd (show b∈([]:List Addr) from hb) (by simp),hok,.of_eq hg⟩
  refine codeAny_mono ((F _ hKb (nsK hns)).run callerA [] s₁ H ⟨[.ref a],[]⟩ [.ref a] [.ref a] _ _ hr e0 (hbind s₁ (.ref a)) (.cons rfl .nil) (hsp H hO hS)) fun r s' h=>?_
  cases r with
  |error e=>exact(hCX H e s' h).elim
  |ok fl=>
   cases fl with
   |next=>exact False.elim h
   |brk=>exact False.elim h
   |cont=>exact False.elim h
   |ret u=>
    obtain⟨v,H',os,bare,un,hok',r',q⟩:=h
    have q':v=.bl true:=q
    subst q'
    obtain rfl:u=Value.bool true:=r'
    refine⟨rfl,OldK.of_keep fun b o e=>?_,os,bare⟩
    cases q:H b with
    |none=>exact un.keep b o e q (by intro z;exact absurd (show b∈([]:List Addr) from z) (by simp)) (by simp)
    |some u=>
     rcases hO b with z | ⟨ob,xs,z⟩
     ·rw[q] at z;cases z
     ·have z2:=un.frzs b ob _ z
      obtain⟨e1,_⟩:=hok b _ z
      obtain⟨e2,_⟩:=hok' b _ z2
      rw[e] at e1;cases e1
      exact e2
 cases hk:K.lookup a with
 |some o=>
  have e:=KX a o hk
  rw[ha] at e
  cases e
  refine core (fun _=>none) (fun _=>.inl rfl) (.inr ⟨_,vs.toArray,_,hk,rfl,rfl,rfl,by rw[List.size_toArray,lenV];exact hl,by simpa using rv⟩) (fun b u z=>by have z':(none:Option HO)=some u:=z;cases z') (fun b z=>absurd rfl z) fun z=>absurd rfl z
 |none=>
  refine core (fun b=>if b=a then some (.frz { cls:=.type "list",data:=.seq vs.toArray } (.lst (ns.map V.int))) else none) (fun b=>?_) (.inl (.inr ⟨{ cls:=.type "list",data:=.seq vs.toArray },if_pos rfl⟩)) (fun b u z=>?_) (fun b z=>?_) fun _=>hk
  ·by_cases hb:b=a
   ·exact .inr ⟨_,_,if_pos hb⟩
   ·exact .inl (if_neg hb)
  ·by_cases hb:b=a
   ·have z':=(if_pos hb).symm.trans z
    cases z'
    subst hb
    exact⟨ha,by rw[List.length_map];exact hl,vs,_,rv,ha⟩
   ·have z':=(if_neg hb).symm.trans z
    cases z'
  ·by_cases hb:b=a
   ·exact hb
   ·exact absurd (if_neg hb) z
abbrev KOf {K:PySem.W.Frag}{h:Heap}(_:K.In h):PySem.W.Frag:=K
theorem walk_of {l:PySem.W.OpenLaw}{n k:Nat}{q:Program}{loose:List Str}{XP:(Str→Option Value)→Heap→Prop}{YP:World→Heap→Prop}{d:DefRec}{K:Params→PySem.W.Frag}{CX:World→CXT}{sp:World→Sp}{x:Str}(hn:l.most=some n)(hn2:n≤sizeLine)(hdf:d.params.defaults=[])(hr:Room k callerA)(hY:∀(w:World) (h:Heap),YP w h→(K w.params).In h)(F:∀(w:World) (mg:Str→Option Value) (fa:Addr) (h:Heap),(K w.params).In h→h.Ns mainGlobals mg→mg d.name=some (.ref fa)→
   ∃fd:FuncData,(∀(s:Shared) (u:Value),BindsTo s fd ⟨[u],[]⟩ [(x,u)])∧
    ∀base:Heap,(K w.params).In base→base.Ns mainGlobals mg→FnOk l.prog w (K w.params) mg base (CX w) k fa fd [x] (sp w))(hsp:∀(w:World) (H:Hp) (a:Addr) (ns:List Int),ns.length≤n→Only H→SqL (K w.params) H a (ns.map V.int)→sp w [.ref a] H (fun v _=>v=.bl true) fun _ _ _=>False)(hCX:∀(w:World) (H:Hp) (s:Shared) (e:Value) (s':Shared),CX w [] H s (fun _ _ _=>False) e s'→False) :
  PySem.W.WalkO q loose XP YP l.row.toRowW d [] (fun f vs=>PySem.call f vs):=by
 refine Att.attach_call hn hdf fun w s₀ s₁ mg mb fa o pm cd doc a vs ns G Y ho hd hcd hmg hobj hints hlen hg=>?_
 have KX:=hY w _ Y
 obtain⟨fd,hb,hF⟩:=F w mg fa _ KX G.T.g hmg
 exact law_call KX G.T.g G.T.b G.T.builtins G.T.nolimit hg hobj hints (Nat.le_trans hlen hn2) hr hF hb (fun H hO hS=>hsp w H a ns hlen hO hS) fun H e s'=>hCX w H s₁ e s'
def inClass (s:Stmt)(j:Nat):Stmt:=match s with
 | .ClassDef _ _ _ body _ _ _ _ _ _ _=>body.getD j (.Pass ⟨0,0,0,0⟩)
 |_=>.Pass ⟨0,0,0,0⟩
def defArgs (s:Stmt):Arguments:=match s with
 | .FunctionDef _ a _ _ _ _ _ _ _ _=>a
 |_=>{ posonlyargs:=[],args:=[],vararg:=none,kwonlyargs:=[],kw_defaults:=[],kwarg:=none,defaults:=[] }
def defBody (s:Stmt):List Stmt:=match s with
 | .FunctionDef _ _ b _ _ _ _ _ _ _=>b
 |_=>[]
def defScope (s:Stmt):Scope:=match s with
 | .FunctionDef _ _ _ _ _ _ sc _ _ _=>sc
 |_=>{ kind:=.function,names:=[],isGenerator:=false,isCoroutine:=false }
abbrev CX0:CXT:=fun _ _ _ _ _ _=>False
abbrev E0:XK:=fun _ _ _=>False
theorem pass0 {X:Cx}:Passes CX0 X E0:=fun _ _ _ _ _ _ _ h=>h.elim
theorem hu_of {A:Around}{k:Nat}(hr:Room k A):A.units+1 < cLine:=Nat.lt_of_le_of_lt (Nat.add_le_add_left (by decide:1≤64) _) hr.units
theorem small1000 {n:Nat}(h:n≤1000):n < sizeLine:=Nat.lt_of_le_of_lt h (by decide)
section
variable {X:Cx}
theorem pv (i:Nat){x:Str}{pos:Pos}(hN:X.N[i]?=some x:=by rfl)(hv:Vis X.env.scope x:=by first | exact Or.inl rfl | exact Or.inr (Or.inl rfl) | exact Or.inr (Or.inr rfl))(hd:(x == ("__debug__":Str))=false:=by decide)(hcd:(x == ("__classdict__":Str))=false:=by decide):PE X (.Name x pos) (tVar i):=pe_var hN hv hd hcd
end
theorem iteF {A B:Prop}(h:B):if false=true then A else B:=by
 rw[if_neg Bool.false_ne_true]
 exact h
theorem iteT {A B:Prop}(h:A):if true=true then A else B:=by
 rw[if_pos rfl]
 exact h
theorem ite2 {c A B:Prop}[Decidable c](h1:c→A)(h2:¬c→B):if c then A else B:=by
 by_cases h:c
 ·rw[if_pos h]
  exact h1 h
 ·rw[if_neg h]
  exact h2 h
def Same (H H':Hp):Prop:=∀b o,H b=some o→H' b=some o
theorem Same.refl (H:Hp):Same H H:=fun _ _ h=>h
theorem Same.trans {H H1 H2:Hp}(a:Same H H1)(b:Same H1 H2):Same H H2:=fun c o h=>b c o (a c o h)
theorem Same.free {H H':Hp}(e:Same H H'){l:Addr}(h:H' l=Option.none):H l=Option.none:=by
 cases q:H l with
 |none=>rfl
 |some o=>
  rw[e l o q] at h
  cases h
theorem Same.seq {K:PySem.W.Frag}{H H':Hp}{a:Addr}{xs:List V}(e:Same H H')(h:SqL K H a xs):SqL K H' a xs:=by
 rcases h with (h | ⟨o,h⟩) | h
 ·exact .inl (.inl (e _ _ h))
 ·exact .inl (.inr ⟨o,e _ _ h⟩)
 ·exact .inr h
end L2
set_option maxHeartbeats 1000000
namespace L2
open PySem PySem.Spec PyProof.Rows
section
variable {X:Cx}
theorem call_isi:CallR X (.builtin "isinstance") (fun xs H Q=>∃x n t b,xs=[x,.ty n]∧TyOf X.K H x t∧PySem.W.kitOne X.K t (.type n)=some b∧Q (.bl b) H):=by
 intro pins s σ H xs us Q I r h
 obtain⟨x,n,t,b,rfl,ty,e,q⟩:=h
 obtain⟨u,w',rfl,rx,rn⟩:=vals2 r
 cases (show w'=Value.type n from rn)
 exact isinst_ok I rx ty e fun tk=>⟨.bl b,H,I.tok tk,rfl,q⟩
def Bt (n:Nat)(i:Int):Prop:=i.natAbs < 2 ^ n
theorem intBits_of {n:Nat}{i:Int}(h:Bt n i):Builtin.Int.intBits i≤n:=by
 unfold Builtin.Int.intBits
 split
 ·exact Nat.zero_le _
 ·rename_i h0
  have hp:i.natAbs≠0:=by
   intro z
   apply h0
   simp at z ⊢
   exact z
  have:i.natAbs.log2 < n:=(Nat.log2_lt hp).mpr h
  omega
def CBig (i j:Int):Prop:=∃n m,Bt n i∧Bt m j∧n≤1048576∧m≤1048576
theorem CBig.ok {i j:Int}(h:CBig i j):IntMulOk i j:=by
 obtain⟨n,m,h1,h2,h3,h4⟩:=h
 have e:(2:Nat) ^ 20=1048576:=by decide
 exact IntMulOk.of_bits (by have:=intBits_of h1;omega) (by have:=intBits_of h2;omega)
theorem op_mulB:OpR X (binaryOp .Mult) (rI CBig fun i j=>.int (i*j)):=opI fun _ _ _ _ _ _ _ hc q=>mul_int q hc.ok
def CDivB (i j:Int):Prop:=j≠0∧∃n,Bt n j∧n≤9000
theorem CDivB.ok {i j:Int}(h:CDivB i j):Builtin.divisionGoesByPylong i j=false:=by
 obtain⟨h0,n,h1,h2⟩:=h
 refine PyProof.noPylong_of_log2 ?_
 have hp:j.natAbs≠0:=by omega
 have:j.natAbs.log2 < n:=(Nat.log2_lt hp).mpr h1
 omega
theorem op_fdivB:OpR X (binaryOp .FloorDiv) (rI CDivB fun i j=>.int (i.fdiv j)):=opI fun _ _ _ _ _ _ _ hc q=>floordiv_int hc.1 q (.inl hc.ok)
mutual
inductive DatV (K:PySem.W.Frag) (H:Hp):V→PyData→Prop where
 |non:DatV K H .non .none
 |bl (b:Bool):DatV K H (.bl b) (.bool b)
 |int (i:Int):DatV K H (.int i) (.int i)
 |str (x:Str):DatV K H (.str x) (.str x)
 |lst {a:Addr} {xs:List V} {ds:List PyData} (h:SqL K H a xs) (q:DatVs K H xs ds):DatV K H (.ref a) (.list ds)
 |tup {a:Addr} {xs:List V} {ds:List PyData} (h:SqT K H a xs) (q:DatVs K H xs ds):DatV K H (.ref a) (.tuple ds)
inductive DatVs (K:PySem.W.Frag) (H:Hp):List V→List PyData→Prop where
 |nil:DatVs K H [] []
 |cons {x:V} {d:PyData} {xs:List V} {ds:List PyData} (p:DatV K H x d) (q:DatVs K H xs ds):DatVs K H (x :: xs) (d :: ds)
end
theorem datV_reads {pins:List (Addr × Obj)}{s:Shared}{σ:St}{H:Hp}(I:Inv X pins σ H s):∀{x:V} {d:PyData},DatV X.K H x d→∀{u:Value},RelV x u→∃as,Reads s.heap u d as:=by
 intro x d h
 induction h using DatV.rec (motive_2:=fun xs ds _=>∀{us:List Value},Vals xs us→∃as,ReadsAll s.heap us ds as) with
 |non=>intro u r;cases (show u=Value.none from r);exact⟨_,.none⟩
 |bl b=>intro u r;cases (show u=Value.bool b from r);exact⟨_,.bool b⟩
 |int i=>intro u r;obtain⟨t,rfl⟩:=(show ∃t,u=Value.int i t from r);exact⟨_,.int i t⟩
 |str y=>intro u r;obtain⟨t,rfl⟩:=(show ∃t,u=Value.str y t from r);exact⟨_,.str y t⟩
 |lst h q ih=>
  intro u r
  cases (show u=Value.ref _ from r)
  obtain⟨its,rv,pl,_⟩:=I.list h
  obtain⟨as,ra⟩:=ih rv
  obtain⟨o,h1,h2,n,h3⟩:=pl.isList
  exact⟨_,.list h1 h2 h3 (by simpa using ra)⟩
 |tup h q ih=>
  intro u r
  cases (show u=Value.ref _ from r)
  obtain⟨its,rv,pl,_⟩:=I.tuple h
  obtain⟨as,ra⟩:=ih rv
  obtain⟨o,h1,h2,n,h3⟩:=pl
  exact⟨_,.tuple h1 h2 h3 (by simpa using ra)⟩
 |nil=>rename_i us r;cases r;exact⟨_,.nil⟩
 |cons p q ih1 ih2=>
  rename_i us r
  cases r with
  |cons r1 r2=>
   obtain⟨as,h1⟩:=ih1 r1
   obtain⟨bs,h2⟩:=ih2 r2
   exact⟨_,.cons h1 h2⟩
def rDat (K:PySem.W.Frag)(neg:Bool):R2:=fun x y H Q=>∃d e,DatV K H x d∧DatV K H y e∧d.canLay0=true∧e.canLay0=true∧min d.depth e.depth≤16∧Q (.bl (if neg then !PyData.eqv d e else PyData.eqv d e)) H
theorem op_eqD (hu:X.A.units+64 < cLine):OpR X (compareOp .Eq) (rDat X.K false):=by
 intro pins s σ H x y v u Q I rx ry h
 obtain⟨d,e,h1,h2,c1,c2,hm,q⟩:=h
 obtain⟨as,r1⟩:=datV_reads I h1 rx
 obtain⟨bs,r2⟩:=datV_reads I h2 ry
 exact PySem.SeqAt.compareEq_reads r1 r2 c1 c2 (by omega) ⟨.bl (PyData.eqv d e),H,I,rfl,q⟩
end
end L2
set_option maxHeartbeats 2000000
namespace L2
open PySem PySem.Spec PyProof.Rows
section
variable {prog:Program} {w:World} {A:Around} {R:Result→Shared→Prop} {s:Shared}
abbrev tests (ifs:List Expr)(env:Env):Sem Bool:=forIn ifs true fun c r=>if r=true then do let ok ← isTrue c env (eval c env);pure (ForInStep.yield ok) else pure (ForInStep.yield r)
theorem comp_loop {elt target iter:Expr}{ifs:List Expr}{scope:Scope}{pos:Pos}{it acc:Value}{env:Env}(I:Nat→Shared→Prop)(turn:∀n s,I n s→wpAny (model prog w) A (pyNext it) (fun r s₁=>match r with
   |none=>R (.ok .next) s₁
   |some v=>wpAny (model prog w) A (letOwnedTupleGo target it v) (fun _ s₀=>wpAny (model prog w) A (assign target env v) (fun _ s₂=>
     wpAny (model prog w) A (tests ifs env) (fun ok s₃=>
      if ok=true then wpAny (model prog w) A (eval elt env) (fun x s₄=>
       wpAny (model prog w) A (call (.builtin "list.append") [acc,x]) (fun _ s₅=>∃m,m < n∧I m s₅) (fun _ _=>False) s₄) (fun _ _=>False) s₃
      else ∃m,m < n∧I m s₃) (fun _ _=>False) s₂) (fun _ _=>False) s₀) (fun _ _=>False) s₁) (fun _ _=>False) s)(n:Nat)(h:I n s) :
  codeAny (model prog w) A (.compLoop (.ListComp elt [⟨target,iter,ifs,0⟩] scope pos) 0 it acc env) R s:=by
 refine codeAny_loop rfl I (fun n s hI=>?_) n h
 show wpAny _ A ((compTurn (.ListComp elt [⟨target,iter,ifs,0⟩] scope pos) 0 it acc env).onRaise (fun x=>do noteFrame x env;theTreesLotGoes x)) _ _ s
 refine wpAny_noted ?_
 rw[compTurn_list]
 refine wpAny_bind (wpAny_standAt (wpAny_bind (wpAny_mono (turn n s hI) (fun r s₁ h₁=>?_) fun _ _ z=>z.elim)))
 cases r with
 |none=>exact wpAny_pure h₁
 |some v=>
  refine wpAny_bind (wpAny_mono h₁ (fun _ s₀ h₀=>?_) fun _ _ z=>z.elim)
  refine wpAny_bind (wpAny_mono h₀ (fun _ s₂ h₂=>wpAny_bind (wpAny_mono h₂ (fun ok s₃ h₃=>?_) fun _ _ z=>z.elim)) fun _ _ z=>z.elim)
  cases ok with
  |false=>exact wpAny_pure ⟨rfl,h₃⟩
  |true=>
   rw[if_pos rfl] at h₃
   show wpAny _ _ ((do let _ ← call (.builtin "list.append") [acc,← eval elt env]) >>= fun _=>again (.compLoop (.ListComp elt [⟨target,iter,ifs,0⟩] scope pos) 0 it acc env)) _ _ _
   exact wpAny_bind (wpAny_bind (wpAny_mono h₃ (fun x s₄ h₄=>wpAny_bind (wpAny_mono h₄ (fun _ s₅ h₅=>wpAny_pure (wpAny_pure ⟨rfl,h₅⟩)) fun _ _ z=>z.elim)) fun _ _ z=>z.elim))
end
structure CompOk (X:Cx) (scope:Scope) (cl:List (Str × Addr)) (Nc:List Str) (nl:Nat) (fr:List Nat):Prop where
 clos:closureFor scope X.env=pure cl
 kind:scope.kind=.function
 names:∀y∈scope.names,y.2=.local→scope.names.lookup y.1=some .local
 cell:∀y∈scope.names,y.2≠.cell
 sub:∀x c,cl.lookup x=some c→X.env.cells.lookup x=some c
 has:∀x,(relabel scope X.env).names.lookup x=some .cell∨(relabel scope X.env).names.lookup x=some .free→∃c,cl.lookup x=some c
 len:Nc.length=nl+fr.length
 tail:∀i n,Nc[nl+i]?=some n→∃j,fr[i]?=some j∧X.N[j]?=some n∧X.env.kindOf n=some .cell∧cl.lookup n=X.env.cells.lookup n∧((relabel scope X.env).names.lookup n=some .cell∨(relabel scope X.env).names.lookup n=some .free)
abbrev compCx (X:Cx)(scope:Scope)(cl:List (Str × Addr))(Nc:List Str)(C:Addr)(s3:Shared)(H3:Hp)(fp:List Addr)(pins:List (Addr × Obj)):Cx:=
 { X with N:=Nc,s₀:=s3,H₀:=H3,env:=compEnvC scope cl C X.env,outer:=X.stack,ex:=fp,fn:=fun _=>false,pn:=X.pn++pins,xe:=fun _ _=>False }
def σC (nl:Nat)(fr:List Nat)(σ:St):St:=List.replicate nl none++fr.map fun j=>(σ[j]?).join
abbrev PIf (X:Cx)(ifs:List Expr)(t:TT):Prop:=
 ∀(pins:List (Addr × Obj)) (s:Shared) (σ:St) (H:Hp) (Q:Bool→Hp→Prop),Inv X pins σ H s→t σ H Q→wpAny (model X.prog X.w) X.A (tests ifs X.env) (TP X pins σ Q) X.xe s
theorem pif_nil {X:Cx}:PIf X [] (fun _ H Q=>Q true H):=fun _ _ _ H _ I h=>wpAny_pure ⟨H,I,h⟩
section
variable {X:Cx} {scope:Scope} {cl:List (Str × Addr)} {Nc:List Str} {nl:Nat} {fr:List Nat} {pins:List (Addr × Obj)} {σ:St} {H3:Hp} {s3:Shared} {fp:List Addr} {h4:Heap} {tk:Nat}
theorem comp_start (ck:CompOk X scope cl Nc nl fr)(I:Inv X pins σ H3 s3)(hf:∀b∈fp,FpOk X pins H3 b)(hfs:∀b∈fp,b < s3.heap.objs.size)(hns:h4.Ns s3.heap.objs.size fun _=>none)(hk:∀b o,s3.heap.get? b=some o→h4.get? b=some o) :
  Inv (compCx X scope cl Nc s3.heap.objs.size s3 H3 fp pins) [] (σC nl fr σ) H3 { s3 with heap:=h4,toks:=tk }:=by
 have stk:∀b∈frs X.stack,b∈X.env.locals :: X.fs:=I.stkSub
 have nfs:∀b,b≠X.env.locals→b∉X.fs→b∉frs X.stack:=fun b h1 h2 z=>(List.mem_cons.mp (stk b z)).elim h1 h2
 have ltc:∀x c,cl.lookup x=some c→c < s3.heap.objs.size:=fun x c e=>by
  obtain⟨v,z⟩:=I.cell x c (ck.sub x c e)
  exact z.lt
 refine⟨⟨I.ok.mod,ck.kind,I.ok.glob,I.ok.blt,Nat.le_refl _,fun x y c h1 h2=>I.ok.inj x y c (ck.sub x c h1) (ck.sub y c h2),fun x hx=>ck.has x hx,fun x c hz=>Bool.noConfusion hz,I.ok.hd,I.ok.frames,.inl rfl,fun b hb=>?_,I.bs,Nat.le_trans I.ok.bsz I.sz,fun b o e hb=>?_,fun b hb=>?_,I.stack,I.stkFree⟩,
  rfl,I.bare,Un.kept hk,⟨_,hns,fun i x v h1 h2 h3=>?_⟩,fun x c e=>?_,I.hok.fresh (Nat.le_refl _),fun x c e=>I.freeC x c (ck.sub x c e),fun p hp=>?_,I.hok.kept hk,?_⟩
 ·obtain⟨f0,f1,f2,f3,f4,f5⟩:=hf b hb
  exact⟨Nat.ne_of_lt (hfs b hb),fun x c e=>f4 x c (ck.sub x c e)⟩
 ·obtain⟨f0,f1,f2,f3,f4,f5⟩:=hf b hb
  rcases f3 with z | z
  ·exact I.ok.noex b o e z
  ·exact absurd (Nat.lt_of_lt_of_le (Heap.lt_size e) (Nat.le_trans I.ok.bsz z)) (Nat.lt_irrefl _)
 ·obtain⟨f0,f1,f2,f3,f4,f5⟩:=hf b hb
  exact nfs b f1 f2
 ·-- a name's value
  unfold σC at h2
  by_cases hi:i < nl
  ·rw[List.getElem?_append_left (by simpa using hi),List.getElem?_replicate] at h2
   split at h2<;>cases h2
  ·have hi':nl≤i:=by omega
   rw[List.getElem?_append_right (by simpa using hi'),List.length_replicate,List.getElem?_map] at h2
   obtain⟨k,rfl⟩:∃k,i=nl+k:=⟨i - nl,by omega⟩
   obtain⟨j,e1,e2,e3,e4,e5⟩:=ck.tail k x h1
   rw[Nat.add_sub_cancel_left,e1] at h2
   have h2':(σ[j]?).join=some v:=by simpa using h2
   have h2'':σ[j]?=some (some v):=by
    cases q:σ[j]? with
    |none=>rw[q] at h2';cases h2'
    |some z=>rw[q] at h2';exact congrArg some h2'
   obtain⟨m,hn,hl⟩:=I.loc
   obtain⟨u,r,l⟩:=hl j x v e2 h2'' (.inr (.inl e3))
   refine⟨u,r,?_⟩
   rcases l with ⟨k1,_⟩ | ⟨k1,c,ec,z⟩
   ·rw[e3] at k1;cases k1
   ·obtain⟨o,ho,hd⟩:=z
    exact .inr ⟨e5,c,by show cl.lookup x=some c;rw[e4];exact ec,o,hk _ _ ho,hd⟩
 ·obtain⟨v,o,ho,hd⟩:=I.cell x c (ck.sub x c e)
  exact⟨v,o,hk _ _ ho,hd⟩
 ·have hp':p∈X.pn++pins:=by simpa using hp
  obtain⟨e,n,ne,nf,d⟩:=I.pin p hp'
  exact⟨hk _ _ e,n,Nat.ne_of_lt (Heap.lt_size e),nfs _ ne nf,d⟩
 ·unfold σC
  show _=Nc.length
  rw[List.length_append,List.length_replicate,List.length_map,ck.len]
theorem comp_end {pins':List (Addr × Obj)}{σ':St}{H':Hp}{s':Shared}(I:Inv X pins σ H3 s3)(hf:∀b∈fp,FpOk X pins H3 b)(J:Inv (compCx X scope cl Nc s3.heap.objs.size s3 H3 fp pins) pins' σ' H' s'):Inv X pins σ H' s'∧FpOk X pins H' s3.heap.objs.size:=by
 refine⟨I.call' (ch:=fp) J.os J.base J.hok J.bare fun b hb=>?_,I.fpOk (Nat.le_refl _) J.free⟩
 obtain⟨f0,f1,f2,f3,f4,f5⟩:=hf b hb
 exact⟨f3,f1,f4,f5⟩
theorem Inv.off {b:Addr}{H:Hp}{s:Shared}{h':Heap}(I:Inv X pins σ H s)(f:FpOk X pins H b)(hs:Heap.SameBut b s.heap h'):Inv X pins σ H { s with heap:=h' }:=by
 obtain⟨f0,f1,f2,f3,f4,f5⟩:=f
 exact I.turned (t':=s.toks) (it:=b) (fun c o hb e=>(hs.2 c hb).trans e) f0 f1 f3 f4 f5
end
def CompW (J:It)(nl:Nat)(fr:List Nat)(g:TG)(tt:TT)(te:TE)(σ:St)(D:Addr)(H1:Hp)(Q:VK):Prop:=
 ∃W:Nat→Nat→List V→Hp→Prop,(∃m,W 0 m [] (upd H1 D (.lst [])))∧∀i m ys H2,W i m ys H2→H2 D=some (.lst ys)∧
  ((J.stop i H2∧Q (.ref D) H2)∨(J.go i H2∧∀x H3,J.yld i H2 x H3→g x (σC nl fr σ) H3 fun σ2 H4=>σ2.length=(σC nl fr σ).length∧(∀(i:Nat) v,(σC nl fr σ)[i]?=some (some v)→σ2[i]?=some (some v))∧
   tt σ2 H4 fun b H5=>if b=true then te σ2 H5 fun y H6=>H6 D=some (.lst ys)∧ys.length < sizeLine∧∃m',m' < m∧W (i+1) m' (ys++[y]) (upd H6 D (.lst (ys++[y])))
    else ∃m',m' < m∧W (i+1) m' ys H5))
def tComp (wi:TI)(nl:Nat)(fr:List Nat)(g:TG)(tt:TT)(te:TE):TE:=fun σ H Q=>wi σ H fun J H1=>∀D,H1 D=none→CompW J nl fr g tt te σ D H1 Q
section
variable {X:Cx} {scope:Scope} {cl:List (Str × Addr)} {Nc:List Str} {nl:Nat} {fr:List Nat} {elt tg iter:Expr} {ifs:List Expr} {pos:Pos} {wi:TI} {g:TG} {tt:TT} {te:TE}
theorem comp_run (hc:X.calm=true)(ck:CompOk X scope cl Nc nl fr)(hi:PI X tg iter wi)(hg:∀C s3 H3 fp pins,PG (compCx X scope cl Nc C s3 H3 fp pins) tg g)(ht:∀C s3 H3 fp pins,PIf (compCx X scope cl Nc C s3 H3 fp pins) ifs tt)(he:∀C s3 H3 fp pins,PE (compCx X scope cl Nc C s3 H3 fp pins) elt te){pins:List (Addr × Obj)}{s:Shared}{σ:St}{H:Hp}{Q:VK}(I:Inv X pins σ H s)(h:tComp wi nl fr g tt te σ H Q){RR:Value→Addr→Result→Shared→Prop}(fin:∀D C s',(∃H',(∃m,s'.heap.Ns C m)∧Inv X pins σ H' s'∧FpOk X pins H' C∧Q (.ref D) H')→RR (.ref D) C (.ok .next) s') :
  wpAny (model X.prog X.w) X.A (eval iter X.env) (fun x s₁=>wpAny (model X.prog X.w) X.A (pyIter x) (fun it s₂=>wpAny (model X.prog X.w) X.A (newList []) (fun acc s₃=>
   wpAny (model X.prog X.w) X.A (newFunctionEnv scope X.env.globals cl [] X.env.qual none .none (some X.env)) (fun cenv s₄=>
    codeAny (model X.prog X.w) X.A (.compStart (.ListComp elt [⟨tg,iter,ifs,0⟩] scope pos) 0 it acc { cenv with scope:=relabel scope X.env }) (RR acc cenv.locals) s₄) X.xe s₃) X.xe s₂) X.xe s₁) X.xe s:=by
 refine thn (hi pins s σ H _ I h) fun v s1 h1=>thn h1 fun itv s2 h2=>?_
 obtain⟨it,fp,tn,J,H2,e,I2,T,st2,f2,hD⟩:=h2
 subst e
 have hn2:H2 s2.heap.objs.size=none:=I2.hok.fresh (Nat.le_refl _)
 obtain⟨W,⟨m0,w0⟩,turn⟩:=hD s2.heap.objs.size hn2
 refine wpAny_newObj_type (wpAny_newFunctionEnv ck.cell (by intro y hy;simp at hy) (fun h4 hns hsb=>?_) ck.kind)
 dsimp only at hns hsb ⊢
 have I3:Inv X pins σ (upd H2 s2.heap.objs.size (.lst [])) { s2 with heap:=s2.heap.push { cls:=.type "list",dict:=none,data:=.seq ([]:List Value).toArray } }:=
  I2.laid (t':=s2.toks) (fun b u e=>Heap.get?_push_of_some _ e) (Nat.le_refl _) ⟨Nat.zero_le _,[],0,.nil,Heap.get?_push_size _ rfl⟩
 have hfs:∀b∈fp,b < s2.heap.objs.size:=fun b hb=>by
  obtain⟨o,e,_⟩:=T.obj 0 _ st2 b hb
  exact Heap.lt_size e
 have f3:∀b∈fp,FpOk X pins (upd H2 s2.heap.objs.size (.lst [])) b:=fun b hb=>⟨by rw[upd_ne (Nat.ne_of_lt (hfs b hb))];exact(f2 b hb).1,(f2 b hb).2⟩
 generalize hH3:upd H2 s2.heap.objs.size (.lst [])=H3 at *
 generalize hs3:({ s2 with heap:=s2.heap.push { cls:=.type "list",dict:=none,data:=.seq ([]:List Value).toArray } }:Shared)=s3 at *
 have z3:s3.heap=s2.heap.push { cls:=.type "list",dict:=none,data:=.seq ([]:List Value).toArray }:=by rw[← hs3]
 have hsz3:s3.heap.objs.size=s2.heap.objs.size+1:=by rw[z3,Heap.size_push]
 rw[← z3] at hns hsb ⊢
 have hk4:∀b o,s3.heap.get? b=some o→h4.get? b=some o:=fun b o e=>hsb.extBut b o (Nat.ne_of_lt (Heap.lt_size e)) (Heap.get?_push_of_some _ e)
 have hfs3:∀b∈fp,b < s3.heap.objs.size:=fun b hb=>Nat.lt_of_lt_of_le (hfs b hb) (by rw[hsz3];exact Nat.le_succ _)
 have hns':h4.Ns s3.heap.objs.size fun _=>none:=by simpa using hns
 have K0:=fun tk=>comp_start (tk:=tk) ck I3 f3 hfs3 hns' hk4
 have stat:∀{H':Hp},(∀b∈fp,H' b=none)→∀b∈fp,FpOk (compCx X scope cl Nc s3.heap.objs.size s3 H3 fp pins) [] H' b:=fun {H'} hn b hb=>by
  obtain⟨f0,g1,g2,g3,g4,g5⟩:=f3 b hb
  refine⟨hn b hb,Nat.ne_of_lt (hfs3 b hb),fun z=>?_,.inl hb,fun x c e=>g4 x c (ck.sub x c e),fun p hp=>g5 p (by simpa using hp)⟩
  exact(List.mem_cons.mp (I3.stkSub b z)).elim g1 g2
 have st4:tn 0 h4:=T.keep 0 _ _ st2 fun b hb o e=>hk4 b o (by rw[z3];exact Heap.get?_push_of_some _ e)
 have loop:∀tk,codeAny (model X.prog X.w) X.A (.compLoop (.ListComp elt [⟨tg,iter,ifs,0⟩] scope pos) 0 (.ref it) (.ref s2.heap.objs.size) (compEnvC scope cl s3.heap.objs.size X.env)) (RR (.ref s2.heap.objs.size) s3.heap.objs.size) { s3 with heap:=h4,toks:=tk }:=by
  intro tk
  refine comp_loop (fun n s'=>∃i ys H',Inv (compCx X scope cl Nc s3.heap.objs.size s3 H3 fp pins) [] (σC nl fr σ) H' s'∧tn i s'.heap∧(∀b∈fp,H' b=none)∧W i n ys H') ?_ m0 ⟨0,[],H3,K0 tk,st4,fun b hb=>(f3 b hb).1,w0⟩
  rintro n s5 ⟨i,ys,H5,I5,st5,fr5,w5⟩
  obtain⟨hl5,q5⟩:=turn i n ys H5 w5
  rcases q5 with ⟨stop,qn⟩ | ⟨go,step⟩
  ·refine wpAny_mono (T.done (compCx X scope cl Nc s3.heap.objs.size s3 H3 fp pins) rfl rfl rfl hc i [] s5 (σC nl fr σ) H5 (fun _ _=>False) I5 (stat fr5) st5 stop) (fun r s6 h6=>?_) fun _ _ z=>z
   obtain⟨hr,I6⟩:=h6
   subst hr
   obtain⟨z1,z2⟩:=comp_end I3 f3 I6
   refine fin _ _ _ ⟨H5,?_,z1,z2,qn⟩
   obtain⟨m,hm,_⟩:=I6.loc
   exact⟨m,hm⟩
  ·refine wpAny_mono (T.item (compCx X scope cl Nc s3.heap.objs.size s3 H3 fp pins) rfl rfl rfl hc i [] s5 (σC nl fr σ) H5 (fun _ _=>False) I5 (stat fr5) st5 go) (fun r s6 h6=>?_) fun _ _ z=>z
   obtain⟨u,hr,h6⟩:=h6
   subst hr
   refine wpAny_mono h6 (fun _ s7 h7=>?_) fun _ _ z=>z
   obtain⟨x,H7,I7,r7,y7,st7,fr7⟩:=h7
   have I7':=I7.pinned (stat fr7) (T.obj _ _ st7)
   refine wpAny_mono (hg s3.heap.objs.size s3 H3 fp pins _ s7 _ H7 x u _ I7' r7 (step x H7 y7)) (fun _ s8 h8=>?_) fun _ _ z=>z
   obtain⟨σ8,H8,I8,l8,k8,q8⟩:=h8
   refine wpAny_mono (ht s3.heap.objs.size s3 H3 fp pins _ s8 σ8 H8 _ I8 q8) (fun b s9 h9=>?_) fun _ _ z=>z
   obtain⟨H9,I9,q9⟩:=h9
   have again:∀{ys':List V} {H':Hp} {s':Shared} {m':Nat},Inv (compCx X scope cl Nc s3.heap.objs.size s3 H3 fp pins) ([]++pinsAt fp s7.heap) σ8 H' s'→m' < n→W (i+1) m' ys' H'→
     ∃m,m < n∧∃i ys H',Inv (compCx X scope cl Nc s3.heap.objs.size s3 H3 fp pins) [] (σC nl fr σ) H' s'∧tn i s'.heap∧(∀b∈fp,H' b=none)∧W i m ys H':=fun {ys' H' s' m'} I' hm w'=>by
    refine⟨m',hm,i+1,ys',H',I'.unpinned.weak l8.symm k8,T.keep _ _ _ st7 fun b hb o e=>(I'.pin (b,o) (List.mem_append_right _ (List.mem_append_right _ (mem_pinsAt hb e)))).1,fun b hb=>?_,w'⟩
    obtain⟨o,e,d⟩:=T.obj _ _ st7 b hb
    exact(I'.pin (b,o) (List.mem_append_right _ (List.mem_append_right _ (mem_pinsAt hb e)))).2.1
   cases b with
   |false=>
    rw[if_neg Bool.false_ne_true] at q9 ⊢
    obtain⟨m',hm,w9⟩:=q9
    exact again I9 hm w9
   |true=>
    rw[if_pos rfl] at q9 ⊢
    refine wpAny_mono (he s3.heap.objs.size s3 H3 fp pins _ s9 σ8 H9 _ I9 q9) (fun yv s10 h10=>?_) fun _ _ z=>z
    obtain⟨y,H10,I10,r10,hl10,hz10,m',hm,w10⟩:=h10
    refine wpAny_mono (mt_append (X:=compCx X scope cl Nc s3.heap.objs.size s3 H3 fp pins) _ s10 σ8 H10 (.ref s2.heap.objs.size) [y] _ [yv] (fun v H'=>H'=upd H10 s2.heap.objs.size (.lst (ys++[y]))) I10 rfl (.cons r10 .nil) ⟨_,ys,y,rfl,rfl,hl10,hz10,rfl⟩) (fun _ s11 h11=>?_) fun _ _ z=>z
    obtain⟨_,H11,I11,_,e11⟩:=h11
    subst e11
    exact again I11 hm w10
 have L:=loop (s2.toks+([]:List (Str × Value)).length)
 rw[show s3.gens=s2.gens by rw[← hs3],show s3.drawn=s2.drawn by rw[← hs3],show s3.os=s2.os by rw[← hs3]] at L
 exact codeAny_compStart_list L (T.self _ 0 _ _ _ st4 L)
theorem pe_comp (hc:X.calm=true)(ck:CompOk X scope cl Nc nl fr)(hi:PI X tg iter wi)(hg:∀C s3 H3 fp pins,PG (compCx X scope cl Nc C s3 H3 fp pins) tg g)(ht:∀C s3 H3 fp pins,PIf (compCx X scope cl Nc C s3 H3 fp pins) ifs tt)(he:∀C s3 H3 fp pins,PE (compCx X scope cl Nc C s3 H3 fp pins) elt te)(hs:∀x,foldedSetIterable iter X.env x=pure x:=by intro _;rfl):PE X (.ListComp elt [⟨tg,iter,ifs,0⟩] scope pos) (tComp wi nl fr g tt te):=by
 intro pins s σ H Q I h
 rw[eval_ListComp]
 refine wpAny_comprehension_free (use:=none) rfl hs ck.clos ck.kind ck.names (comp_run (RR:=fun acc C=>compPost (model X.prog X.w) X.A X.xe none (EP X pins σ Q) acc C) hc ck hi hg ht he I h fun D C s' hh=>?_)
 obtain⟨H',⟨m,hm⟩,hI,hF,q⟩:=hh
 exact⟨m,hm,fun h' hs'=>⟨.ref D,H',hI.off hF hs',rfl,q⟩⟩
theorem ps_setC {i:Nat}{y:Str}{py spos:Pos}(hN:X.N.Nodup)(hiy:X.N[i]?=some y)(hy:X.env.scope.names.lookup y=some .local)(hc:X.calm=true)(ck:CompOk X scope cl Nc nl fr)(hi:PI X tg iter wi)(hg:∀C s3 H3 fp pins,PG (compCx X scope cl Nc C s3 H3 fp pins) tg g)(ht:∀C s3 H3 fp pins,PIf (compCx X scope cl Nc C s3 H3 fp pins) ifs tt)(he:∀C s3 H3 fp pins,PE (compCx X scope cl Nc C s3 H3 fp pins) elt te)(hsw:swapsWith (.ListComp elt [⟨tg,iter,ifs,0⟩] scope pos) (some (.Name y py)) spos.line X.env=pure true)(hs:∀x,foldedSetIterable iter X.env x=pure x:=by intro _;rfl):PS X (.Assign [.Name y py] (.ListComp elt [⟨tg,iter,ifs,0⟩] scope pos) spos) (tAsg (tComp wi nl fr g tt te) (gName i)):=by
 intro pins s σ H D I h
 rw[exec_Assign_Name_used _ _ _ _ hsw]
 refine wpAny_bind (wpAny_standAt (wpAny_bind ?_))
 show wpAny _ X.A (do let _ ← comprehension (.ListComp elt [⟨tg,iter,ifs,0⟩] scope pos) scope X.env _ (newList []) false (eval iter X.env) (some (assign (.Name y py) X.env))) _ _ s
 refine wpAny_bind (wpAny_mono (wpAny_comprehension_free (use:=some (assign (.Name y py) X.env)) (Q:=fun _ s'=>SP X pins D .next s') rfl hs ck.clos ck.kind ck.names
  (comp_run (RR:=fun acc C=>compPost (model X.prog X.w) X.A X.xe (some (assign (.Name y py) X.env)) (fun _ s'=>SP X pins D .next s') acc C) hc ck hi hg ht he I h fun Dd C s' hh=>?_)) (fun _ s' hq=>wpAny_pure (wpAny_pure hq)) fun _ _ e=>e)
 obtain⟨H',⟨m,hm⟩,hI,hF,q⟩:=hh
 show wpAny _ X.A (assign (.Name y py) X.env (.ref Dd)) _ _ _
 refine wpAny_assign_Name (store_ok2 hI hN hiy (.inl hy) (v:=.ref Dd) rfl (fun s2 I2 hsb=>?_) (.inr hy))
 obtain⟨a,sb,ha⟩:=hsb
 have hCa:C≠a:=by
  rcases ha with z | z
  ·rw[z];exact hF.2.1
  ·exact Ne.symm (hF.2.2.2.2.1 y a z)
 refine⟨m,hm.sameBut sb hCa,fun h' hs'=>⟨_,H',I2.off hF hs',q⟩⟩
end
end L2
set_option maxHeartbeats 1000000
namespace Mq
abbrev Q2:=Int × Int
def gc (a b:Int):Int:=(Int.gcd a b:Nat)
theorem gc_step (a b:Int):gc b (Int.fmod a b)=gc a b:=by
 unfold gc
 rw[Int.fmod_def,Int.gcd_comm a b,Int.sub_eq_add_neg,← Int.mul_neg,Int.gcd_add_mul_left_right]
theorem fmod_less {a b:Int}(h:b≠0):(Int.fmod a b).natAbs < b.natAbs:=by
 rcases (by omega:0 < b∨b < 0) with h1 | h1
 ·have:=Int.fmod_nonneg_of_pos a h1
  have:=Int.fmod_lt_of_pos a h1
  omega
 ·have h2:0 < -b:=by omega
  have e:Int.fmod a b=- Int.fmod (-a) (-b):=by
   rw[Int.neg_fmod_neg];omega
  have:=Int.fmod_nonneg_of_pos (-a) h2
  have:=Int.fmod_lt_of_pos (-a) h2
  omega
theorem gc_zero (a:Int):gc a 0=if a < 0 then -a else a:=by
 unfold gc
 rw[Int.gcd_zero]
 split<;>omega
theorem gc_pos {a b:Int}(h:b≠0):0 < gc a b:=by
 have:=Int.gcd_pos_of_ne_zero_right a h
 unfold gc;omega
structure Low (p:Q2):Prop where
 pos:1≤p.2
 one:gc p.1 p.2=1
def dvr (t b:Int):Int:=if b < 0 then -gc t b else gc t b
def red (t b:Int):Q2:=(Int.fdiv t (dvr t b),Int.fdiv b (dvr t b))
theorem dvr_ne {t b:Int}(h:b≠0):dvr t b≠0:=by
 have:=gc_pos (a:=t) h
 unfold dvr;split<;>omega
theorem fdiv_exact {a g k:Int}(hg:g≠0)(h:a=g*k):Int.fdiv a g=k:=by
 rw[h,Int.mul_fdiv_cancel_left _ hg]
theorem dvr_dvd (t b:Int):dvr t b ∣ t∧dvr t b ∣ b:=by
 have h1:gc t b ∣ t:=Int.gcd_dvd_left t b
 have h2:gc t b ∣ b:=Int.gcd_dvd_right t b
 unfold dvr;split
 ·exact⟨Int.neg_dvd.mpr h1,Int.neg_dvd.mpr h2⟩
 ·exact⟨h1,h2⟩
theorem red_parts {t b:Int}(h:b≠0):t=dvr t b*(red t b).1∧b=dvr t b*(red t b).2:=by
 obtain⟨⟨x,hx⟩,⟨y,hy⟩⟩:=dvr_dvd t b
 have hg:=dvr_ne (t:=t) h
 have e1:(red t b).1=x:=fdiv_exact hg hx
 have e2:(red t b).2=y:=fdiv_exact hg hy
 rw[e1,e2];exact⟨hx,hy⟩
theorem red_low {t b:Int}(h:b≠0):Low (red t b):=by
 obtain⟨h1,h2⟩:=red_parts (t:=t) h
 have hg:=dvr_ne (t:=t) h
 have hp:=gc_pos (a:=t) h
 have nd:(dvr t b).natAbs=(gc t b).natAbs:=by unfold dvr;split<;>simp
 have e:Int.gcd t b=(dvr t b).natAbs*Int.gcd (red t b).1 (red t b).2:=by
  rw[← Int.gcd_mul_left,← h1,← h2]
 have e2:(gc t b).natAbs=Int.gcd t b:=by unfold gc;simp
 rw[nd,e2] at e
 have hp':0 < Int.gcd t b:=by unfold gc at hp;omega
 have one:Int.gcd (red t b).1 (red t b).2=1:=by
  have:Int.gcd t b*Int.gcd (red t b).1 (red t b).2=Int.gcd t b*1:=by omega
  exact Nat.eq_of_mul_eq_mul_left hp' this
 refine⟨?_,by unfold gc;rw[one];rfl⟩
 have sgn:0 < (red t b).2:=by
  by_cases hb:b < 0
  ·have hd:dvr t b < 0:=by unfold dvr;rw[if_pos hb];omega
   have hq:¬(red t b).2≤0:=fun q=>by
    have:=Int.mul_nonneg_of_nonpos_of_nonpos (Int.le_of_lt hd) q
    omega
   omega
  ·have hd:0 < dvr t b:=by unfold dvr;rw[if_neg hb];omega
   have hq:¬(red t b).2≤0:=fun q=>by
    have:=Int.mul_nonpos_of_nonneg_of_nonpos (Int.le_of_lt hd) q
    omega
   omega
 omega
theorem red_cross {t b:Int}(h:b≠0):(red t b).1*b=t*(red t b).2:=by
 obtain⟨h1,h2⟩:=red_parts (t:=t) h
 generalize (red t b).1=x at *
 generalize (red t b).2=y at *
 generalize dvr t b=g at *
 subst h1 h2;grind
theorem natAbs_fdiv_le {a g k:Int}(hg:g≠0)(h:a=g*k):k.natAbs≤a.natAbs:=by
 rw[h,Int.natAbs_mul]
 exact Nat.le_mul_of_pos_left _ (by omega)
theorem red_le {t b:Int}(h:b≠0):(red t b).1.natAbs≤t.natAbs∧(red t b).2.natAbs≤b.natAbs:=by
 obtain⟨h1,h2⟩:=red_parts (t:=t) h
 exact⟨natAbs_fdiv_le (dvr_ne h) h1,natAbs_fdiv_le (dvr_ne h) h2⟩
theorem dvr_le {t b:Int}(h:b≠0):(dvr t b).natAbs≤b.natAbs:=by
 have e:(dvr t b).natAbs=Int.gcd t b:=by unfold dvr gc;split<;>simp
 rw[e];exact Int.gcd_le_natAbs_right t h
theorem low_same {p q:Q2}(hp:Low p)(hq:Low q)(h:p.1*q.2=q.1*p.2):p=q:=by
 have gp:Int.gcd p.2 p.1=1:=by have:=hp.one;rw[Int.gcd_comm];unfold gc at this;omega
 have gq:Int.gcd q.2 q.1=1:=by have:=hq.one;rw[Int.gcd_comm];unfold gc at this;omega
 have d1:p.2 ∣ q.2:=by
  have:p.2 ∣ p.1*q.2:=⟨q.1,by rw[h,Int.mul_comm]⟩
  have:=Int.dvd_gcd_mul_iff_dvd_mul.mpr this
  rw[gp] at this
  simpa using this
 have d2:q.2 ∣ p.2:=by
  have:q.2 ∣ q.1*p.2:=⟨p.1,by rw[← h,Int.mul_comm]⟩
  have:=Int.dvd_gcd_mul_iff_dvd_mul.mpr this
  rw[gq] at this
  simpa using this
 have l1:=Int.le_of_dvd (by have:=hq.pos;omega) d1
 have l2:=Int.le_of_dvd (by have:=hp.pos;omega) d2
 have e2:p.2=q.2:=by omega
 have e1:p.1=q.1:=by
  rw[e2] at h
  exact Int.eq_of_mul_eq_mul_right (by have:=hq.pos;omega) h
 exact Prod.ext e1 e2
theorem low_red {p:Q2}(hp:Low p):red p.1 p.2=p:=by
 have h:p.2≠0:=by have:=hp.pos;omega
 exact low_same (red_low h) hp (red_cross h)
def B (n:Nat)(i:Int):Prop:=i.natAbs < 2 ^ n
structure Bd (n:Nat) (p:Q2):Prop where
 a:B n p.1
 b:B n p.2
theorem B.le {n:Nat}{i j:Int}(h:B n i)(l:j.natAbs≤i.natAbs):B n j:=Nat.lt_of_le_of_lt l h
end Mq
namespace L2
open PySem PySem.Spec PyProof.Rows
structure FunD (K:PySem.W.Frag) (x qual:Str) (st:Stmt) (dV:Value) (f:Addr) (fd:FuncData):Prop where
 ex:∃(oc:Value) (od:Option Addr) (kV doc pm:Value) (an:Option Addr) (cdv ct:Value) (osl:Array (Option Value)),
  fd=PySem.W.fnOf x qual (defArgs st) (defBody st) (defScope st) dV kV doc pm an cdv ct∧K.lookup f=some ⟨oc,od,.func fd,osl⟩∧PySem.W.codeIn K cdv qual=true
 kp:PySem.W.keepIn K (.ref f)=true
section
variable {P:Program} {w:World} {K:PySem.W.Frag} {mg:Str→Option Value} {base:Heap} {CX:CXT}
theorem FunD.okX {x qual:Str}{st:Stmt}{dV:Value}{f:Addr}{fd:FuncData}{N ps:List Str}{k:Nat}{sp:Sp}(F:FunD K x qual st dV f fd)(S:FnScope N ps (defScope st))(len:∀vs H Q E,sp vs H Q E→vs.length=ps.length)(hbody:∀(cdv:Value) (A:Around) (outer:List Env) (s:Shared) (H:Hp) (vs:List V) (Q:VK) (E:XK),Room k (A.deeper (envOfC qual (defScope st) s.heap.objs.size f cdv))→sp vs H Q E→
   ∃t,PSs (cxOf CX P w K mg base N qual (defScope st) f cdv A outer s H E) (defBody st) t∧t { nx:=fun _ H'=>Q .non H',rt:=Q } (start N vs) H):FnOk P w K mg base CX (k+1) f fd ps sp:=by
 obtain⟨oc,od,kV,doc,pm,an,cdv,ct,osl,rfl,lk,hcd⟩:=F.ex
 exact fn_of lk hcd S len fun A outer s H vs Q E hr hsp=>hbody cdv A outer s H vs Q E hr hsp
theorem FunD.ok {x qual:Str}{st:Stmt}{dV:Value}{f:Addr}{fd:FuncData}{N ps:List Str}{k:Nat}{sp:Sp}(F:FunD K x qual st dV f fd)(S:FnScope N ps (defScope st))(len:∀vs H Q E,sp vs H Q E→vs.length=ps.length)(hbody:∀(cdv:Value) (A:Around) (outer:List Env) (s:Shared) (H:Hp) (vs:List V) (Q:VK) (E:XK),Room k (A.deeper (envOfC qual (defScope st) s.heap.objs.size f cdv))→sp vs H Q E→
   ∃t,PSs (cxOf CX P w K mg base N qual (defScope st) f cdv A outer s H E).nox (defBody st) t∧t { nx:=fun _ H'=>Q .non H',rt:=Q } (start N vs) H):FnOk P w K mg base CX (k+1) f fd ps sp:=
 F.okX S len fun cdv A outer s H vs Q E hr hsp=>by
  obtain⟨t,h,q⟩:=hbody cdv A outer s H vs Q E hr hsp
  exact⟨t,h.nox,q⟩
theorem FunD.binds {x qual:Str}{st:Stmt}{dV:Value}{f:Addr}{fd:FuncData}{ps:List Str}(F:FunD K x qual st dV f fd)(h:∀(kV doc pm:Value) (an:Option Addr) (cdv ct:Value) (us:List Value),us.length=ps.length→bindArgs (PySem.W.fnOf x qual (defArgs st) (defBody st) (defScope st) dV kV doc pm an cdv ct) ⟨us,[]⟩=pure (ps.zip us)):Binds K fd ps []:=by
 obtain⟨oc,od,kV,doc,pm,an,cdv,ct,osl,rfl,lk,hcd⟩:=F.ex
 exact .all (h kV doc pm an cdv ct)
theorem fund_mk {x qual:Str}{st:Stmt}{dV:Value}{f:Addr}{oc:Value}{od an:Option Addr}{osl:Array (Option Value)}{kV doc pm cdv ct:Value}(l:K.lookup f=some ⟨oc,od,.func (PySem.W.fnOf x qual (defArgs st) (defBody st) (defScope st) dV kV doc pm an cdv ct),osl⟩)(c:PySem.W.codeIn K cdv qual=true)(k:PySem.W.keepIn K (.ref f)=true):FunD K x qual st dV f (PySem.W.fnOf x qual (defArgs st) (defBody st) (defScope st) dV kV doc pm an cdv ct):=⟨⟨oc,od,kV,doc,pm,an,cdv,ct,osl,rfl,l,c⟩,k⟩
end
abbrev fT (p:Mq.Q2):HO:=.tup [.int p.1,.int p.2]
def Fq (K:PySem.W.Frag)(H:Hp)(a:Addr)(p:Mq.Q2):Prop:=SqT K H a [.int p.1,.int p.2]
theorem Same.seqT {K:PySem.W.Frag}{H H':Hp}{a:Addr}{xs:List V}(e:Same H H')(h:SqT K H a xs):SqT K H' a xs:=by
 rcases h with (h | ⟨o,h⟩) | h
 ·exact .inl (.inl (e _ _ h))
 ·exact .inl (.inr ⟨o,e _ _ h⟩)
 ·exact .inr h
theorem same_new {H:Hp}{p:Addr}(h:H p=none)(o:HO):Same H (upd H p o):=fun b u q=>by rw[upd_ne (ne_of_none q h)];exact q
theorem Same.fq {K:PySem.W.Frag}{H H':Hp}{a:Addr}{p:Mq.Q2}(e:Same H H')(h:Fq K H a p):Fq K H' a p:=e.seqT h
theorem Fq.of {K:PySem.W.Frag}{H:Hp}{a:Addr}{p:Mq.Q2}(h:H a=some (fT p)):Fq K H a p:=SqT.of h
theorem rd_ix0 {K:PySem.W.Frag}{σ:St}{H:Hp}{i:Nat}{a:Addr}{p:Mq.Q2}{Q:VK}(hv:σ[i]?=some (some (.ref a)))(h:Fq K H a p)(q:Q (.int p.1) H):tOp (rIxT K) (tVar i) (tC (.int 0)) σ H Q:=
 ⟨_,hv,a,_,_,_,rfl,rfl,h,rfl,q⟩
theorem rd_ix1 {K:PySem.W.Frag}{σ:St}{H:Hp}{i:Nat}{a:Addr}{p:Mq.Q2}{Q:VK}(hv:σ[i]?=some (some (.ref a)))(h:Fq K H a p)(q:Q (.int p.2) H):tOp (rIxT K) (tVar i) (tC (.int 1)) σ H Q:=
 ⟨_,hv,a,_,_,_,rfl,rfl,h,rfl,q⟩
theorem rd_mulB {H:Hp}{n m:Nat}{i j:Int}{Q:VK}(h1:Mq.B n i)(h2:Mq.B m j)(h3:n≤1048576)(h4:m≤1048576)(q:Q (.int (i*j)) H):rI CBig (fun i j=>.int (i*j)) (.int i) (.int j) H Q:=
 ⟨_,_,rfl,rfl,⟨n,m,h1,h2,h3,h4⟩,q⟩
theorem rd_fdivB {H:Hp}{n:Nat}{i j:Int}{Q:VK}(h1:j≠0)(h2:Mq.B n j)(h3:n≤9000)(q:Q (.int (i.fdiv j)) H):rI CDivB (fun i j=>.int (i.fdiv j)) (.int i) (.int j) H Q:=
 ⟨_,_,rfl,rfl,⟨h1,n,h2,h3⟩,q⟩
structure Bl (mg:Str→Option Value):Prop where
 isi:mg "isinstance"=none
 int:mg "int"=none
 bool:mg "bool"=none
 abs:mg "abs"=none
theorem pe_isi {X:Cx}{i:Nat}{x T:Str}{T':String}{p1 p2 p3 pos:Pos}(hN:X.N[i]?=some x)(hv:Vis X.env.scope x)(b:X.mg "isinstance"=none)(b2:X.mg T=none)(g1:Gl X "isinstance")(g2:Gl X T)(hT:bootBuiltins T=some (.type T'))(hd:(x == ("__debug__":Str))=false:=by decide)(hcd:(x == ("__classdict__":Str))=false:=by decide)(hTn:T≠"__name__":=by decide)(hTd:(T == ("__debug__":Str))=false:=by decide)(he:starEach [.Name x p2,.Name T p3] X.env=(false,eval (.Name x p2) X.env) :: starEach [.Name T p3] X.env:=by rfl)(he2:starEach [.Name T p3] X.env=(false,eval (.Name T p3) X.env) :: starEach [] X.env:=by rfl)(hpl:(backTo pos (starEach [.Name T p3] X.env)).any (·.1)=false:=by rfl) :
  PE X (.Call (.Name "isinstance" p1) [.Name x p2,.Name T p3] [] pos) (fun σ H Q=>∃v t b,σ[i]?=some (some v)∧TyOf X.K H v t∧PySem.W.kitOne X.K t (.type T')=some b∧Q (.bl b) H):=by
 have h:=pe_callB (X:=X) (pos:=pos) (p:=p1) call_isi g1 b PyProof.Rows.boot_isinstance (pa_cons (pe_var (i:=i) (pos:=p2) hN hv hd hcd) (pa_cons (pe_bltn (v:=.ty T') (pos:=p3) g2 b2 hT rfl hTn hTd) pa_nil he2) he) (by decide) (by decide) he hpl
 intro pins s σ H Q I q
 obtain⟨v,t,bb,h1,h2,h3,h4⟩:=q
 exact h pins s σ H Q I ⟨v,h1,v,T',t,bb,rfl,h2,h3,h4⟩
def NotWhole (t:Value):Prop:=t=.type "bool"∨t=.type "str"∨t=.type "NoneType"∨t=.type "tuple"∨t=.type "list"
def spWhole (K:PySem.W.Frag):Sp:=fun vs H Q _=>∃x,vs=[x]∧((∃i,x=.int i∧Q (.bl true) H)∨(∃t,TyOf K H x t∧NotWhole t∧Q (.bl false) H))
def spGc:Sp:=fun vs H Q _=>∃a b:Int,vs=[.int a,.int b]∧Q (.int (Mq.gc a b)) H
def NewF (H:Hp)(Q:VK)(p:Mq.Q2):Prop:=∀a H',Same H H'→H' a=some (fT p)→Q (.ref a) H'
theorem Fq.upd {K:PySem.W.Frag}{H:Hp}{a l:Addr}{p:Mq.Q2}{xs:List V}{o:HO}(h:Fq K H a p)(hl:H l=some (.lst xs)):Fq K (L2.upd H l o) a p:=by
 rcases h with (h | ⟨u,h⟩) | h
 ·exact .inl (.inl (by rw[upd_ne (ne_of h hl (fun z=>by cases z))];exact h))
 ·exact .inl (.inr ⟨u,by rw[upd_ne (ne_of h hl (fun z=>by cases z))];exact h⟩)
 ·exact .inr h
theorem Same.change {H H':Hp}{l:Addr}{o:HO}(s:Same H H')(h:H l=none):Same H (L2.upd H' l o):=fun b u q=>by
 rw[upd_ne (ne_of_none q h)];exact s b u q
def qd (p:Mq.Q2):PyData:=.tuple [.int p.1,.int p.2]
theorem Fq.dat {K:PySem.W.Frag}{H:Hp}{a:Addr}{p:Mq.Q2}(h:Fq K H a p):DatV K H (.ref a) (qd p):=.tup h (.cons (.int _) (.cons (.int _) .nil))
end L2
set_option maxHeartbeats 2000000
namespace L2
open PySem PySem.Spec PyProof.Rows
abbrev CompT (nl:Nat)(fr:List Nat)(g:TG)(tt:TT)(te:TE)(σ:St)(D:Addr)(Pv:Nat→List V→Hp→Prop)(i:Nat)(ys:List V)(x:V)(H:Hp):Prop:=
 g x (σC nl fr σ) H fun σ2 H4=>σ2.length=(σC nl fr σ).length∧(∀(i:Nat) v,(σC nl fr σ)[i]?=some (some v)→σ2[i]?=some (some v))∧
  tt σ2 H4 fun b H5=>if b=true then te σ2 H5 fun y H6=>H6 D=some (.lst ys)∧ys.length < sizeLine∧Pv (i+1) (ys++[y]) (upd H6 D (.lst (ys++[y]))) else Pv (i+1) ys H5
section
variable {nl:Nat} {fr:List Nat} {g:TG} {tt:TT} {te:TE} {σ:St} {D:Addr} {H1:Hp} {Q:VK}
theorem comp_range {lo:Int}{n:Nat}(Pv:Nat→List V→Hp→Prop)(h0:Pv 0 [] (upd H1 D (.lst [])))(hl:∀i ys H,Pv i ys H→H D=some (.lst ys))(hs:∀i ys H,i < n→Pv i ys H→∀(C:Nat→List V→Hp→Prop),(∀ys H,Pv (i+1) ys H→C (i+1) ys H)→CompT nl fr g tt te σ D C i ys (.int (lo+i)) H)(hd:∀ys H,Pv n ys H→Q (.ref D) H) :
  CompW (Itr lo n) nl fr g tt te σ D H1 Q:=by
 refine⟨fun i m ys H=>m=n - i∧i≤n∧Pv i ys H,⟨n,by simp,Nat.zero_le _,h0⟩,?_⟩
 rintro i m ys H ⟨rfl,hi,p⟩
 refine⟨hl i ys H p,?_⟩
 by_cases hlt:i < n
 ·refine .inr ⟨hlt,fun x H' y=>?_⟩
  obtain⟨e,y⟩:=y
  subst e y
  exact hs i ys _ hlt p (fun j zs Hz=>∃m',m' < n - i∧m'=n - j∧j≤n∧Pv j zs Hz) fun zs Hz z=>⟨n - (i+1),by omega,rfl,hlt,z⟩
 ·have e:i=n:=by omega
  subst e
  exact .inl ⟨Nat.le_refl _,hd ys H p⟩
theorem comp_list {K:PySem.W.Frag}{a:Addr}{xs:List V}(Pv:Nat→List V→Hp→Prop)(h0:Pv 0 [] (upd H1 D (.lst [])))(hl:∀i ys H,Pv i ys H→H D=some (.lst ys))(hx:∀i ys H,i≤xs.length→Pv i ys H→SqL K H a xs)(hs:∀i ys x H,xs[i]?=some x→Pv i ys H→∀(C:Nat→List V→Hp→Prop),(∀ys H,Pv (i+1) ys H→C (i+1) ys H)→CompT nl fr g tt te σ D C i ys x H)(hd:∀ys H,Pv xs.length ys H→Q (.ref D) H) :
  CompW (Itl K a) nl fr g tt te σ D H1 Q:=by
 refine⟨fun i m ys H=>m=xs.length - i∧i≤xs.length∧Pv i ys H,⟨xs.length,by simp,Nat.zero_le _,h0⟩,?_⟩
 rintro i m ys H ⟨rfl,hi,p⟩
 refine⟨hl i ys H p,?_⟩
 have q:=hx i ys H hi p
 by_cases hlt:i < xs.length
 ·refine .inr ⟨⟨xs,xs[i],q,by simp[hlt]⟩,fun x H' y=>?_⟩
  obtain⟨e,y⟩:=y
  subst e
  exact hs i ys x _ (y xs q) p (fun j zs Hz=>∃m',m' < xs.length - i∧m'=xs.length - j∧j≤xs.length∧Pv j zs Hz) fun zs Hz z=>⟨xs.length - (i+1),by omega,rfl,hlt,z⟩
 ·have e:i=xs.length:=by omega
  subst e
  exact .inl ⟨⟨xs,q,Nat.le_refl _⟩,hd ys H p⟩
end
theorem keep1 {fr:List Nat}{σ:St}{x:V}:((σC 1 fr σ).set 0 (some x)).length=(σC 1 fr σ).length∧∀(i:Nat) v,(σC 1 fr σ)[i]?=some (some v)→((σC 1 fr σ).set 0 (some x))[i]?=some (some v):=by
 refine⟨by simp,fun i v h=>?_⟩
 match i with
 |0=>unfold σC at h;simp at h
 |k+1=>rw[List.getElem?_set_ne (by omega)];exact h
theorem has_of {names:List (Str × NameKind)}{cl:List (Str × Addr)}(h:names.all (fun y=>!(y.2 == .cell || y.2 == .free) || (cl.lookup y.1).isSome)=true)(x:Str)(hx:names.lookup x=some .cell∨names.lookup x=some .free):∃c,cl.lookup x=some c:=by
 have key:∀k,(k=NameKind.cell∨k=NameKind.free)→names.lookup x=some k→∃c,cl.lookup x=some c:=fun k hk e=>by
  have m:=List.all_eq_true.mp h _ (PySem.mem_of_lookup e)
  have:(k == NameKind.cell || k == NameKind.free)=true:=by rcases hk with rfl | rfl<;>rfl
  simp only[this,Bool.not_true,Bool.false_or] at m
  exact Option.isSome_iff_exists.mp m
 rcases hx with e | e
 ·exact key _ (.inl rfl) e
 ·exact key _ (.inr rfl) e
end L2
set_option maxHeartbeats 1000000
set_option maxHeartbeats 2000000
namespace L2
open PySem PySem.Spec PyProof.Rows
section
variable {X:Cx} {tg:Expr}
theorem find_list {es:Array DictEntry}{name:Str}(h:List.find? (fun x=>x.key.isStr name) es.toList=none):nsFind es name=none:=by
 unfold nsFind findBy
 rw[← Array.find?_toList,h]
 rfl
theorem noDig {h:Heap}{K:PySem.W.Frag}(kin:K.In h)(lim:h.NoLimit)(nd:PySem.W.nsIn K cStatics "sys.int_max_str_digits"=some none):h.NoDigits:=by
 obtain⟨mc,⟨o,es,ep,e1,e2,sk,hf⟩,_⟩:=lim
 refine⟨mc,⟨o,es,ep,e1,e2,sk,hf⟩,?_⟩
 rw[← hf]
 unfold PySem.W.nsIn at nd
 split at nd
 ·rename_i cls dict es' ep' slots q
  have g:=kin _ _ q
  rw[e1] at g
  cases g
  have e2':es'=es:=by cases e2;rfl
  subst e2'
  split at nd
  ·cases nd
  ·rename_i q2;exact find_list q2
 ·cases nd
theorem lt_big {n:Nat}{a:Nat}(h:a < 2 ^ n)(hn:n≤12900):a < 10 ^ 4300:=by
 have h1:(2:Nat) ^ n≤2 ^ 12900:=Nat.pow_le_pow_right (by decide) hn
 have h2:(2:Nat) ^ 12900=8 ^ 4300:=by rw[show (12900:Nat)=3*4300 from rfl,Nat.pow_mul]
 have h3:(8:Nat) ^ 4300≤10 ^ 4300:=Nat.pow_le_pow_left (by decide) _
 rw[h2] at h1
 exact Nat.lt_of_lt_of_le h (Nat.le_trans h1 h3)
def rStrI:List V→Hp→VK→Prop:=fun xs H Q=>∃i n,xs=[.int i]∧Bt n i∧n≤12900∧Q (.str (Str.ofString (toString i))) H
theorem call_strB (hc:X.calm=true)(nd:PySem.W.nsIn X.K cStatics "sys.int_max_str_digits"=some none):CallR X (.type "str") rStrI:=by
 intro pins s σ H xs us Q I r h
 obtain⟨i,n,rfl,hb,hn,q⟩:=h
 obtain⟨u,rfl,t,rfl⟩:=vals1 r
 have hl:=lt_big hb hn
 exact str_of_int_or (I.ok.hd hc) (noDig I.kIn I.nolimit nd) (fun _=>⟨.str _,H,I.tok _,⟨_,rfl⟩,q⟩) fun z=>absurd hl (Nat.not_lt.mpr z)
def rIntT:List V→Hp→VK→Prop:=fun xs H Q=>∃x n,xs=[.str x]∧intText? x=some n∧x.length≤640∧Q (.int n) H
theorem call_intT:CallR X (.type "int") rIntT:=by
 intro pins s σ H xs us Q I r h
 obtain⟨x,n,rfl,e,hz,q⟩:=h
 obtain⟨u,rfl,t,rfl⟩:=vals1 r
 exact PySem.W.KIN.call_text e hz ⟨.int n,H,I.tok _,⟨_,rfl⟩,q⟩
def rPart:V→List V→Hp→VK→Prop:=fun x vs H Q=>∃a b,x=.str a∧vs=[.str b]∧b.length≠0∧a.length≤sizeLine∧
 ∀p,H p=none→Q (.ref p) (upd H p (.tup [.str (Txt.partition a b).1,.str (Txt.partition a b).2.1,.str (Txt.partition a b).2.2]))
theorem mt_partition:MtR X "str.partition" rPart:=by
 intro pins s σ H x vs v us Q I rx rv h
 obtain⟨a,b,rfl,rfl,hb,hz,q⟩:=h
 obtain⟨t,rfl⟩:=rx
 obtain⟨u,rfl,t',rfl⟩:=vals1 rv
 have hb':(b.length == 0)=false:=by simpa using hb
 have fin:∀(ta tb tc:Tok) (k:Nat),EP X pins σ Q (.ref s.heap.objs.size) { s with heap:=s.heap.push { cls:=.type "tuple",data:=.seq #[.str (Txt.partition a b).1 ta,.str (Txt.partition a b).2.1 tb,.str (Txt.partition a b).2.2 tc] },toks:=k }:=fun ta tb tc k=>
  ⟨.ref s.heap.objs.size,_,I.laid (t':=k) (fun b o e=>Heap.get?_push_of_some _ e) (Nat.le_refl _) (show ObjOk X.prog X.w _ _ _ (.tup [.str (Txt.partition a b).1,.str (Txt.partition a b).2.1,.str (Txt.partition a b).2.2]) from
   ⟨by show 3≤sizeLine;decide,_,.cons ⟨_,rfl⟩ (.cons ⟨_,rfl⟩ (.cons ⟨_,rfl⟩ .nil)),IsTup.new _ _⟩),rfl,q _ (I.hok.fresh (Nat.le_refl _))⟩
 refine call_meets F.slot_str_partition (typeIs_str s a t) F.entry_str_partition (F.args_str_partition_2 _ _) (meets_str_partition a b t t' hb' hz) ?_
 cases e:Builtin.Str.occurrences a b 0 a.length 1 with
 |nil=>
  simp only[Txt.partition,e] at fin
  simp only[e]
  exact fin _ _ _ _
 |cons i l=>
  simp only[Txt.partition,e] at fin
  simp only[e]
  exact fin _ _ _ _
theorem mt_startswith:MtR X "str.startswith" (fun x vs H Q=>∃a b,x=.str a∧vs=[.str b]∧Q (.bl (Txt.startswith a b)) H):=by
 intro pins s σ H x vs v us Q I rx rv h
 obtain⟨a,b,rfl,rfl,q⟩:=h
 obtain⟨t,rfl⟩:=rx
 obtain⟨u,rfl,t',rfl⟩:=vals1 rv
 exact SC.startswith ⟨.bl _,H,I,rfl,q⟩
def rSlS:V→Option Int→Option Int→Hp→VK→Prop:=fun x lo hi H Q=>∃a,x=.str a∧a.length≤sizeLine∧Q (.str (Txt.slice a lo hi)) H
theorem isPart_of {v:Value}{o:Option Int}(p:IsPart v o):∃z:Option (Int × Tok),v=partValue z∧z.map (·.1)=o:=by
 cases p with
 |none=>exact⟨none,rfl,rfl⟩
 |int i t=>exact⟨some (i,t),rfl,rfl⟩
theorem sm_eq (a:Str)(t:Tok)(l u:Option (Int × Tok)):sliceMade a t l u none=if ((1:Int) == 1 && (Builtin.Str.strSliceIndices (Option.map (fun x=>x.fst) l) (Option.map (fun x=>x.fst) u) 1 a.length).length == a.length)=true then Made.val (Value.str a t) else Made.str ⟨(List.filterMap (fun x=>a.cps[x]?) (Builtin.Str.strSliceIndices (Option.map (fun x=>x.fst) l) (Option.map (fun x=>x.fst) u) 1 a.length)).toArray⟩:=rfl
theorem sl_str:SlR X rSlS:=by
 intro pins s σ H x v vl vu lo hi sl Q I rx hs pl pu h
 obtain⟨a,rfl,hz,q⟩:=h
 obtain⟨t,rfl⟩:=rx
 obtain⟨l,rfl,rfl⟩:=isPart_of pl
 obtain⟨u,rfl,rfl⟩:=isPart_of pu
 refine⟨"str",_,slot_str_getitem.lookup,typeIs_str s a t,?_⟩
 refine wpAny_getItem_str_slice (l:=l) (u:=u) (st:=none) hs rfl ?_
 rw[sm_eq]
 unfold Txt.slice at q
 by_cases z:((1:Int) == 1 && (Builtin.Str.strSliceIndices (Option.map (fun x=>x.fst) l) (Option.map (fun x=>x.fst) u) 1 a.length).length == a.length)=true
 ·rw[if_pos z] at q ⊢
  exact⟨.str a,H,I,⟨_,rfl⟩,q⟩
 ·rw[if_neg z] at q ⊢
  refine⟨?_,.str _,H,I.tok _,⟨_,rfl⟩,q⟩
  have:=Txt.slice_le a (Option.map (fun x=>x.fst) l) (Option.map (fun x=>x.fst) u)
  unfold Txt.slice at this
  rw[if_neg z] at this
  exact Nat.le_trans this hz
theorem kinds (x:Str):strIterType x = "str_ascii_iterator"∨strIterType x = "str_iterator":=by
 unfold strIterType
 split
 ·exact .inl rfl
 ·exact .inr rfl
def Its (x:Str):It:=⟨fun i _=>i < x.cps.size,fun i H v H'=>H'=H∧∃c,x.cps[i]?=some c∧v=.str ⟨#[c]⟩,fun i _=>x.cps.size≤i⟩
theorem turn_str {P:Program}{w:World}{K:PySem.W.Frag}{tg:Expr}(it:Addr)(x:Str)(t:Tok):Turn P w K tg (Its x) [it] it (fun i h=>h.IsStrIter it (strIterType x) x t i) where
 mem:=by simp
 obj:=fun i h st b hb=>by
  have e:b=it:=by simpa using hb
  subst e
  obtain⟨o,e,c,d⟩:=st
  exact⟨o,e,fun v z=>by rw[d] at z;cases z⟩
 keep:=fun i h h' st k=>by
  obtain⟨o,e,c,d⟩:=st
  exact⟨o,k it (by simp) o e,c,d⟩
 item:=by
  intro X hP hw hK hc i pins s σ H E I hf st hg
  subst hP hw hK
  obtain⟨f0,f1,f2,f3,f4,f5⟩:=hf it (by simp)
  have hg':i < x.cps.size:=hg
  have hx:x.cps[i]?=some x.cps[i]:=by simp[hg']
  have fin:∀(h':Heap),h'.IsStrIter it (strIterType x) x t (i+1)→Heap.SameBut it s.heap h'→
    ∃u,some (Value.str ⟨#[x.cps[i]]⟩ s.toks)=some u∧wpAny (model X.prog X.w) X.A (letOwnedTupleGo tg (.ref it) u) (fun _ s2=>∃y H',Inv X pins σ H' s2∧RelV y u∧(Its x).yld i H y H'∧s2.heap.IsStrIter it (strIterType x) x t (i+1)∧∀b∈[it],H' b=none) E { s with heap:=h',toks:=s.toks+1 }:=fun h' st' sb=>by
   have I1:Inv X pins σ H { s with heap:=h',toks:=s.toks+1 }:=I.turned (fun b o hb e=>(sb.2 b hb).trans e) f0 f1 f3 f4 f5
   have fin2:∃y H',Inv X pins σ H' { s with heap:=h',toks:=s.toks+1 }∧RelV y (Value.str ⟨#[x.cps[i]]⟩ s.toks)∧(Its x).yld i H y H'∧h'.IsStrIter it (strIterType x) x t (i+1)∧∀b∈[it],H' b=none:=
    ⟨.str ⟨#[x.cps[i]]⟩,H,I1,⟨_,rfl⟩,⟨rfl,_,hx,rfl⟩,st',fun b hb=>(hf b hb).1⟩
   refine⟨_,rfl,?_⟩
   unfold letOwnedTupleGo
   cases tg<;>exact wpAny_pure fin2
  rcases kinds x with e | e
  ·rw[e] at st
   exact wpAny_pyNext_ascii_item st hx fun h' st' sb=>fin h' (by rw[e];exact st') sb
  ·rw[e] at st
   exact wpAny_pyNext_wide_item st hx fun h' st' sb=>fin h' (by rw[e];exact st') sb
 done:=by
  intro X hP hw hK hc i pins s σ H E I hf st hg
  subst hP hw hK
  obtain⟨f0,f1,f2,f3,f4,f5⟩:=hf it (by simp)
  have hg':x.cps.size≤i:=hg
  have hx:x.cps[i]?=none:=by simp[hg']
  unfold strIterType at st
  split at st
  ·exact wpAny_pyNext_ascii_end (I.ok.hd hc) st hx fun h' eb=>⟨rfl,I.turned (t':=s.toks) (fun b o hb e=>eb b o hb e) f0 f1 f3 f4 f5⟩
  ·exact wpAny_pyNext_wide_end (I.ok.hd hc) st hx fun h' eb=>⟨rfl,I.turned (t':=s.toks) (fun b o hb e=>eb b o hb e) f0 f1 f3 f4 f5⟩
 self:=fun A i s Q E st h=>by
  unfold strIterType at st
  split at st
  ·exact wpAny_pyIter_striter_ascii st h
  ·exact wpAny_pyIter_striter_wide st h
def iStr (tl:TE):TI:=fun σ H R=>tl σ H fun x H1=>∃a,x=.str a∧R (Its a) H1
theorem pi_str {l:Expr}{tl:TE}(hl:PE X l tl):PI X tg l (iStr tl):=by
 intro pins s σ H R I h
 refine thn (hl pins s σ H _ I h) fun v s1 ⟨x,H1,I1,r1,q1⟩=>?_
 obtain⟨a,e,q⟩:=q1
 subst e
 obtain⟨t,rfl⟩:=r1
 refine wpAny_pyIter_strU ?_
 refine⟨s1.heap.objs.size,[s1.heap.objs.size],_,_,H1,rfl,I1.kept (t':=s1.toks) fun b o e=>Heap.get?_push_of_some _ e,turn_str _ a t,⟨_,Heap.get?_push_size _ rfl,rfl,rfl⟩,fun b hb=>?_,q⟩
 have e:b=s1.heap.objs.size:=by simpa using hb
 subst e
 exact I1.fpOk (Nat.le_refl _) (I1.hok.fresh (Nat.le_refl _))
def rAll (K:PySem.W.Frag):List V→Hp→VK→Prop:=fun xs H Q=>∃(p:Addr) (bs:List Bool),xs=[.ref p]∧SqL K H p (bs.map V.bl)∧Q (.bl (bs.all id)) H
theorem call_all (hc:X.calm=true):CallR X (.builtin "all") (rAll X.K):=by
 intro pins s σ H xs us Q I r h
 obtain⟨p,bs,rfl,hq,q⟩:=h
 obtain⟨u,rfl,rx⟩:=vals1 r
 cases rx
 obtain⟨its,rv,pl,hz⟩:=I.list hq
 have hlen:its.toArray.size=bs.length:=by rw[List.size_toArray,← rv.length,List.length_map]
 have hne:p≠s.heap.objs.size:=by
  obtain⟨o,e,_⟩:=pl.isList
  exact Nat.ne_of_lt (Heap.lt_size e)
 refine call_all_walk (wpAny_pyIter_list pl.isList ?_)
 refine⟨s.heap.objs.size,_,_,_,_,_,fun i=>bs.getD i false,rfl,Walks.list (by exact I.ok.hd hc) s.heap.objs.size p hne its.toArray,⟨⟨_,Heap.get?_push_size _ rfl,rfl,rfl⟩,?_⟩,?_,?_⟩
 ·obtain⟨o,e,c⟩:=pl.isList
  exact⟨o,Heap.get?_push_of_some _ e,c⟩
 ·intro i v s' Q' E' hv q'
  have hv':its[i]?=some v:=by simpa using hv
  have hi:i < its.length:=(List.getElem?_eq_some_iff.mp hv').1
  have hb:(bs.map V.bl)[i]?=some (.bl (bs.getD i false)):=by
   rw[List.getElem?_map,List.getElem?_eq_getElem (by rw[← hlen];simpa using hi)]
   simp[List.getD,List.getElem?_eq_getElem (show i < bs.length by rw[← hlen];simpa using hi)]
  obtain⟨u,hu,ru⟩:=rv.get hb
  have e:u=v:=by rw[hv'] at hu;cases hu;rfl
  subst e
  cases ru
  exact wpAny_truthy_bool q'
 ·intro h' tk kk
  have e:(List.range its.toArray.size).all (fun i=>bs.getD i false)=bs.all id:=by
   rw[hlen,Bool.eq_iff_iff,List.all_eq_true,List.all_eq_true]
   constructor
   ·intro z b hb
    obtain⟨i,hi,rfl⟩:=List.getElem_of_mem hb
    have:=z i (List.mem_range.mpr hi)
    simpa[List.getD,List.getElem?_eq_getElem hi] using this
   ·intro z i hi
    have hi':=List.mem_range.mp hi
    have:=z bs[i] (List.getElem_mem hi')
    simpa[List.getD,List.getElem?_eq_getElem hi'] using this
  rw[e]
  refine⟨.bl _,H,I.kept (t':=tk) fun b o hb=>?_,rfl,q⟩
  have hb2:b≠s.heap.objs.size:=Nat.ne_of_lt (Heap.lt_size hb)
  exact kk b o (by simpa using hb2) (Heap.get?_push_of_some _ hb)
end
end L2
namespace Tx
open PySem
def S (cs:List Nat):Str:=⟨cs.toArray⟩
theorem S_of {x:Str}{cs:List Nat}(h:x.cps.toList=cs):x=S cs:=PySem.StrLaws.mk_of_toList h
theorem S_list (cs:List Nat):(S cs).cps.toList=cs:=by simp[S]
theorem S_size (cs:List Nat):(S cs).cps.size=cs.length:=by simp[S]
theorem S_len (cs:List Nat):(S cs).length=cs.length:=by simp[S,Str.length]
theorem S_app (a b:List Nat):S a++S b=S (a++b):=S_of (by show ((S a).cps++(S b).cps).toList=_;simp[S])
theorem S_inj {a b:List Nat}:S a=S b↔a=b:=⟨fun h=>by rw[← S_list a,h,S_list],fun h=>by rw[h]⟩
theorem S_self (x:Str):x=S x.cps.toList:=S_of rfl
def dg (m:Nat):List Nat:=(Nat.toDigits 10 m).map Char.toNat
def itx (i:Int):List Nat:=if i < 0 then 45 :: dg i.natAbs else dg i.natAbs
theorem str_nat (m:Nat):Str.ofString (toString (m:Int))=S (dg m):=S_of (PySem.W.KIN.signs_num m)
theorem str_int (i:Int):Str.ofString (toString i)=S (itx i):=by
 unfold itx
 split<;>rename_i h
 ·rw[PyProof.Rows.toString_neg h]
  have e:0 - i=(i.natAbs:Int):=by omega
  rw[e]
  refine S_of ?_
  have h1:=PySem.W.KIN.signs_num i.natAbs
  rw[PyProof.Rows.signs_ofString] at h1 ⊢
  rw[String.toList_append,List.map_append,h1]
  rfl
 ·have e:i=(i.natAbs:Int):=by omega
  rw[e,str_nat]
  rfl
theorem isDigit_nat {c:Char}(h:c.isDigit=true):48≤c.toNat∧c.toNat≤57:=by
 unfold Char.isDigit at h
 simp only[Bool.and_eq_true,decide_eq_true_eq] at h
 exact⟨UInt32.le_iff_toNat_le.mp h.1,UInt32.le_iff_toNat_le.mp h.2⟩
theorem dg_all (m:Nat):NumText.AllDigits (dg m):=fun c hc=>by
 obtain⟨d,hd,rfl⟩:=List.mem_map.mp hc
 exact isDigit_nat (Nat.isDigit_of_mem_toDigits (by decide) (by decide) hd)
theorem dg_ne (m:Nat):dg m≠[]:=fun h=>Nat.toDigits_ne_nil (List.map_eq_nil_iff.mp h)
theorem dg_val (m:Nat):NumText.digitsVal (dg m)=m:=PySem.W.KIN.val_back m
theorem dg_len {m k:Nat}(hk:0 < k):(dg m).length≤k↔m < 10 ^ k:=by
 unfold dg
 rw[List.length_map]
 exact Nat.length_toDigits_le_iff (by decide) hk
theorem itx_pos {i:Int}(h:0≤i):itx i=dg i.natAbs:=if_neg (by omega)
theorem dg_no {m c:Nat}(h:c < 48):c∉dg m:=fun z=>by have:=dg_all m c z;omega
theorem itx_no (i:Int):47∉itx i:=by
 unfold itx
 split
 ·intro z;rcases List.mem_cons.mp z with z | z
  ·cases z
  ·exact dg_no (by decide) z
 ·exact dg_no (by decide)
theorem dg_head45 (m:Nat):(dg m).head?≠some 45:=fun z=>dg_no (m:=m) (c:=45) (by decide) (List.mem_of_mem_head? (by simpa using z))
def nosign (cs:List Nat):List Nat:=if cs.head?=some 45 then cs.tail else cs
theorem nosign_itx (i:Int):nosign (itx i)=dg i.natAbs:=by
 unfold nosign itx
 split<;>rename_i h
 ·simp
 ·rw[if_neg (dg_head45 _)]
def Figs (cs:List Nat):Prop:=1≤cs.length∧cs.length≤200∧NumText.AllDigits cs
def ival (cs:List Nat):Int:=if cs.head?=some 45 then -(NumText.digitsVal cs.tail:Int) else (NumText.digitsVal cs:Int)
theorem ival_text {cs:List Nat}(h:Figs (nosign cs)):intText? (S cs)=some (ival cs)∧(S cs).length≤640:=by
 unfold nosign at h
 unfold ival
 rw[S_len]
 obtain⟨h1,h2,h3⟩:=h
 split at h1<;>rename_i q
 ·rw[if_pos q] at h2 h3 ⊢
  cases cs with
  |nil=>cases q
  |cons c r=>
   have q':c=45:=by simpa using q
   subst q'
   simp only[List.tail_cons,List.length_cons] at *
   refine⟨intText_neg (x:=S (45 :: r)) (cs:=r) (S_list _) h3 (fun z=>by rw[z] at h1;simp at h1) ?_,by omega⟩
   rw[S_len,List.length_cons];omega
 ·rw[if_neg q] at h2 h3 ⊢
  refine⟨?_,by omega⟩
  have:=intText_digits (x:=S cs) (by rw[S_list];exact h3) (by rw[S_list];intro z;rw[z] at h1;simp at h1) (by rw[S_len];omega)
  rw[this,S_list]
theorem ival_itx (i:Int):ival (itx i)=i:=by
 unfold ival itx
 split<;>rename_i h
 ·simp[dg_val];omega
 ·rw[if_neg (dg_head45 _),dg_val];omega
theorem ival_lt {cs:List Nat}(h:Figs (nosign cs)):(ival cs).natAbs < 10 ^ 200:=by
 have key:∀r:List Nat,NumText.AllDigits r→NumText.digitsVal r < 10 ^ r.length:=fun r=>by
  intro hr
  have:∀(r:List Nat) (a:Nat),NumText.AllDigits r→List.foldl (fun acc c=>acc*10+(c - 48)) a r < (a+1)*10 ^ r.length:=fun r=>by
   induction r with
   |nil=>intro a _;simp
   |cons c r ih=>
    intro a hr
    have h1:=hr c (by simp)
    have h2:=ih (a*10+(c - 48)) fun d hd=>hr d (List.mem_cons_of_mem _ hd)
    rw[List.foldl_cons,List.length_cons,Nat.pow_succ]
    refine Nat.lt_of_lt_of_le h2 ?_
    rw[Nat.mul_comm (10 ^ r.length) 10,← Nat.mul_assoc]
    exact Nat.mul_le_mul_right _ (by omega)
  have:=this r 0 hr
  simpa[NumText.digitsVal] using this
 have key2:∀r:List Nat,NumText.AllDigits r→r.length≤200→NumText.digitsVal r < 10 ^ 200:=fun r h1 h2=>Nat.lt_of_lt_of_le (key r h1) (Nat.pow_le_pow_right (by decide) h2)
 unfold nosign at h
 unfold ival
 obtain⟨h1,h2,h3⟩:=h
 split at h1<;>rename_i q
 ·rw[if_pos q] at h2 h3 ⊢
  have:=key2 _ h3 h2
  rw[Int.natAbs_neg];exact this
 ·rw[if_neg q] at h2 h3 ⊢
  exact key2 _ h3 h2
theorem slice_from (cs:List Nat)(k:Nat):Txt.slice (S cs) (some (k:Int)) none=S (cs.drop k):=by
 show StrLaws.sliceText (S cs) (some (k:Int)) none=_
 rcases Nat.lt_or_ge cs.length k with h | h
 ·have e:StrLaws.sliceText (S cs) (some (k:Int)) none=StrLaws.sliceText (S cs) (some (cs.length:Int)) none:=by
   unfold StrLaws.sliceText
   have:=PyProof.Rows.sliceIdx_lo_beyond (S cs).length (i:=(k:Int)) (by rw[S_len];omega)
   rw[this,S_len]
  rw[e,StrLaws.sliceText_from (by rw[S_list];omega),S_list]
  unfold S
  simp[List.drop_eq_nil_of_le (Nat.le_of_lt h)]
 ·rw[StrLaws.sliceText_from (by rw[S_list];omega),S_list]
  unfold S
  congr 2
  rw[List.take_of_length_le (by rw[List.length_drop];omega)]
  rfl
theorem starts_one (cs:List Nat)(c:Nat):Txt.startswith (S cs) ⟨#[c]⟩=decide (cs.head?=some c):=by
 have h:=StrLaws.subAt_one (S cs) c 0
 rw[S_list] at h
 unfold Txt.startswith
 rw[Bool.eq_iff_iff,Bool.and_eq_true,decide_eq_true_eq,decide_eq_true_eq,h]
 cases cs<;>simp
def ahead (c:Nat)(cs:List Nat):List Nat:=cs.takeWhile (fun x=>x != c)
def behind (c:Nat)(cs:List Nat):List Nat:=(cs.dropWhile (fun x=>x != c)).tail
theorem part_no {c:Nat}{cs:List Nat}(h:c∉cs):Txt.partition (S cs) ⟨#[c]⟩=(S cs,Str.empty,Str.empty):=by
 rcases PyProof.Rows.partition_whole (S cs) ⟨#[c]⟩ with ⟨e,_⟩ | ⟨i,_,ha,_⟩
 ·exact e
 ·have:=(StrLaws.subAt_one (S cs) c i).mp ha
  rw[S_list] at this
  exact absurd (List.mem_of_getElem? this) h
theorem split_at {c:Nat}:∀{cs:List Nat} {i:Nat},cs[i]?=some c→(∀k,k < i→cs[k]?≠some c)→ahead c cs=cs.take i∧behind c cs=cs.drop (i+1)
 | [],i,h,_=>by simp at h
 |x :: xs,0,h,_=>by
  have e:x=c:=by simpa using h
  subst e
  simp[ahead,behind]
 |x :: xs,i+1,h,n=>by
  have hx:x≠c:=fun z=>n 0 (by omega) (by simp[z])
  have ih:=split_at (cs:=xs) (i:=i) (c:=c) (by simpa using h) fun k hk=>by
   have:=n (k+1) (by omega)
   simpa using this
  simp[ahead,behind,hx] at ih ⊢
  exact ih
theorem part_yes {c:Nat}{cs:List Nat}(h:c∈cs):Txt.partition (S cs) ⟨#[c]⟩=(S (ahead c cs),⟨#[c]⟩,S (behind c cs)):=by
 rcases PyProof.Rows.partition_whole (S cs) ⟨#[c]⟩ with ⟨_,ha⟩ | ⟨i,e,ha,hk⟩
 ·obtain⟨i,hi,hc⟩:=List.getElem_of_mem h
  exact absurd ((StrLaws.subAt_one (S cs) c i).mpr (by rw[S_list,List.getElem?_eq_getElem hi,hc])) (ha i)
 ·have h1:=(StrLaws.subAt_one (S cs) c i).mp ha
  rw[S_list] at h1
  have h2:∀k,k < i→cs[k]?≠some c:=fun k hk' z=>hk k hk' ((StrLaws.subAt_one (S cs) c k).mpr (by rw[S_list];exact z))
  obtain⟨e1,e2⟩:=split_at h1 h2
  rw[e,e1,e2]
  have l1:(⟨#[c]⟩:Str).length=1:=rfl
  refine Prod.ext (S_of ?_) (Prod.ext rfl (S_of ?_))
  ·show (Builtin.Str.strSub (S cs) 0 i).cps.toList=_
   rw[StrLaws.strSub_toList,S_list];simp
  ·show (Builtin.Str.strSub (S cs) (i+(⟨#[c]⟩:Str).length) (S cs).length).cps.toList=_
   rw[StrLaws.strSub_toList,S_list,l1,S_len,List.take_of_length_le (by rw[List.length_drop];omega)]
theorem ahead_app {c:Nat}{a b:List Nat}(h:c∉a):ahead c (a++c :: b)=a∧behind c (a++c :: b)=b:=by
 induction a with
 |nil=>simp[ahead,behind]
 |cons x xs ih=>
  have hx:x≠c:=fun z=>h (by simp[z])
  have:=ih fun z=>h (List.mem_cons_of_mem _ z)
  simp[ahead,behind,hx] at this ⊢
  exact this
theorem ahead_len (c:Nat)(cs:List Nat):(ahead c cs).length≤cs.length∧(behind c cs).length≤cs.length:=by
 unfold ahead behind
 have h1:=NumText.len_takeWhile (fun x=>x != c) cs
 have h2:=NumText.len_dropWhile (fun x=>x != c) cs
 rw[List.length_tail]
 omega
def shw (p:Mq.Q2):List Nat:=if p.2=1 then itx p.1 else itx p.1++47 :: itx p.2
structure Wr (p:Mq.Q2) (cs:List Nat):Prop where
 low:Mq.Low p
 txt:cs=shw p
 top:p.1.natAbs < 10 ^ 200
 bot:p.2.natAbs < 10 ^ 200
theorem low_pos {p:Mq.Q2}(h:Mq.Low p):1≤p.2:=h.1
def belowOf (cs:List Nat):List Nat:=if 47∈cs then behind 47 cs else [49]
def Fine (cs:List Nat):Prop:=Figs (nosign (ahead 47 cs))∧Figs (belowOf cs)
theorem ahead_self {cs:List Nat}(h:47∉cs):ahead 47 cs=cs:=by
 induction cs with
 |nil=>rfl
 |cons x xs ih=>
  have hx:x≠47:=fun z=>h (by simp[z])
  have:=ih fun z=>h (List.mem_cons_of_mem _ z)
  simp only[ahead,List.takeWhile_cons,bne_iff_ne,ne_eq,hx,not_false_eq_true,if_true] at this ⊢
  rw[this]
theorem fine_head {cs:List Nat}(h:Figs cs):cs.head?≠some 45:=fun z=>by
 have:=h.2.2 45 (List.mem_of_mem_head? (by simpa using z))
 omega
theorem nosign_fig {cs:List Nat}(h:Figs cs):nosign cs=cs:=if_neg (fine_head h)
theorem figs_dg {m:Nat}(h:m < 10 ^ 200):Figs (dg m):=⟨List.length_pos_iff.mpr (dg_ne m),(dg_len (by decide)).mpr h,dg_all m⟩
theorem wr_fine {p:Mq.Q2}{cs:List Nat}(h:Wr p cs):Fine cs∧ival (ahead 47 cs)=p.1∧ival (belowOf cs)=p.2:=by
 obtain⟨low,rfl,ht,hb⟩:=h
 have hp:=low_pos low
 unfold shw
 split<;>rename_i e
 ·have n47:=itx_no p.1
  unfold Fine belowOf
  rw[ahead_self n47,if_neg n47,nosign_itx,ival_itx,e]
  exact⟨⟨figs_dg ht,⟨by decide,by decide,fun c hc=>by simp at hc;omega⟩⟩,rfl,rfl⟩
 ·have n47:=itx_no p.1
  have ha:=ahead_app (b:=itx p.2) n47
  unfold Fine belowOf
  rw[ha.1,ha.2,if_pos (by simp),nosign_itx,ival_itx,ival_itx]
  refine⟨⟨figs_dg ht,?_⟩,rfl,rfl⟩
  rw[itx_pos (by omega)]
  exact figs_dg hb
theorem red_wr {p:Mq.Q2}{cs:List Nat}(h:Wr p cs):Mq.red (ival (ahead 47 cs)) (ival (belowOf cs))=p:=by
 obtain⟨_,e1,e2⟩:=wr_fine h
 rw[e1,e2]
 exact Mq.low_red h.low
theorem fine_wr {cs:List Nat}(h:Fine cs)(h0:ival (belowOf cs)≠0)(e:shw (Mq.red (ival (ahead 47 cs)) (ival (belowOf cs)))=cs):Wr (Mq.red (ival (ahead 47 cs)) (ival (belowOf cs))) cs:=by
 have hl:=Mq.red_le (t:=ival (ahead 47 cs)) h0
 exact⟨Mq.red_low h0,e.symm,Nat.lt_of_le_of_lt hl.1 (ival_lt h.1),Nat.lt_of_le_of_lt hl.2 (ival_lt (by rw[nosign_fig h.2];exact h.2))⟩
theorem wr_one {p q:Mq.Q2}{cs:List Nat}(h:Wr p cs)(k:Wr q cs):p=q:=by rw[← red_wr h,← red_wr k]
end Tx
set_option maxHeartbeats 1000000
namespace L2
open PySem PySem.Spec PyProof.Rows
def Tb (h0:Heap)(H:Hp)(h:Heap)(a:Addr)(v:Value):Prop:=
 v=.none∨∃T oT ts,v=.ref T∧T≠a∧h0.get? T=none∧H T=none∧h.get? T=some oT∧oT.data=.fields ts∧ts[3]?=some .none
structure Fl (h0:Heap) (H:Hp) (h:Heap) (a:Addr) (C:Value) (d:Option Addr):Prop where
 new:h0.get? a=none
 free:H a=none
 at_:∃oe vs v,h.get? a=some oe∧oe.cls=C∧oe.dict=d∧oe.data=.fields vs∧vs[1]?=some v∧Tb h0 H h a v
theorem Fl.older {h0 h1:Heap}{H:Hp}{h:Heap}{a:Addr}{C:Value}{d:Option Addr}(F:Fl h0 H h a C d)(k:∀b,h0.get? b=none→h1.get? b=none):Fl h1 H h a C d:=by
 obtain⟨n,f,oe,vs,v,e1,e2,e3,e4,e5,t⟩:=F
 refine⟨k _ n,f,oe,vs,v,e1,e2,e3,e4,e5,?_⟩
 rcases t with t | ⟨T,oT,ts,t1,t2,t3,t4⟩
 ·exact .inl t
 ·exact .inr ⟨T,oT,ts,t1,t2,k _ t3,t4⟩
theorem dict_mapFields (f:Array Value→Array Value)(o:Obj):(o.mapFields f).dict=o.dict:=by
 obtain⟨c,d,dt,sl⟩:=o
 cases dt<;>rfl
section
variable {M:Model} {A:Around} {E:Value→Shared→Prop} {s:Shared}
theorem entry_raw {base:Heap}{env:Env}{outer:List Env}{L e:Addr}{oe:Obj}{vs:Array Value}{head:Value}{hadNext:Bool}{Q:Unit→Shared→Prop}(hfr:A.frames=some (env :: outer))(hl:s.heap.FunFrames base (env :: outer))(hf:env.frame=some L)(he:s.heap.get? e=some oe)(hd:oe.data=.fields vs)(hsz:1 < vs.size)(h:∀h' T oT ts,s.heap.objs.size≤T→(∀b o,b∉frs (env :: outer)→b≠e→s.heap.get? b=some o→h'.get? b=some o)→(∀b o,b∈frs (env :: outer)→s.heap.get? b=some o→∃sl,h'.get? b=some { o with slots:=sl })→
   h'.get? e=some (oe.mapFields (·.setIfInBounds 1 (.ref T)))→h'.get? T=some oT→oT.data=.fields ts→ts[3]?=some .none→T≠e→Q () { s with heap:=h' }) :
  wpAny M A (do let a ← frameOf env;let pl ← entryPlaceOf L hadNext;let b ← EntryCells.newEntry head a .none (rawInt L) .none pl;setField (.ref e) 1 b) (fun _ s'=>wpAny M A (setFlight (.ref e) none) Q E s') E s:=by
 have hene:e∉frs (env :: outer):=fun hm=>by
  obtain⟨_,o,ho,hnf⟩:=hl.mem hm
  rw[he] at ho;injection ho with ho;subst ho;exact hnf vs hd
 refine wpAny_bind (wpAny_frameOf_fun hfr hl hf fun h₁ hs₁=>?_)
 refine wpAny_bind (wpAny_entryPlaceOf fun pl hpl=>?_)
 unfold EntryCells.newEntry newFields
 refine wpAny_bind (wpAny_newObj_type ?_ (hpl.sizeOk5 _ _ _ _ _))
 have he₁:h₁.get? e=some oe:=(hs₁.2.1 e hene).trans he
 have he₂:=Heap.get?_push_of_some (h:=h₁) { cls:=.type "traceback",dict:=none,data:=.fields ([head,.ref L,.none,rawInt L,.none]++(if pl.isEmpty then List.replicate 6 Value.none else pl)).toArray } he₁
 refine wpAny_setField he₂ hd hsz ?_
 have hTe:h₁.objs.size≠e:=Nat.ne_of_gt (Heap.lt_size he₁)
 have hd₃:=Obj.data_mapFields hd (·.setIfInBounds 1 (Value.ref h₁.objs.size))
 have he₃:=Heap.get?_update_self (Obj.mapFields (·.setIfInBounds 1 (Value.ref h₁.objs.size))) he₂ (Obj.isFreed_of_fields hd₃)
 have hT₃:=(Heap.get?_update_other (h₁.push { cls:=.type "traceback",dict:=none,data:=.fields ([head,.ref L,.none,rawInt L,.none]++(if pl.isEmpty then List.replicate 6 Value.none else pl)).toArray })
  (Obj.mapFields (·.setIfInBounds 1 (Value.ref h₁.objs.size))) (Ne.symm hTe)).trans (Heap.get?_push_size h₁ rfl)
 unfold setFlight
 refine wpAny_bind (wpAny_field he₃ hd₃ (x:=.ref h₁.objs.size) (by simp[hsz]) ?_)
 rw[if_pos (show (Value.ref h₁.objs.size != Value.none)=true from by simp)]
 have keep:∀b o,b≠e→h₁.get? b=some o→
   (((h₁.push { cls:=.type "traceback",dict:=none,data:=.fields ([head,.ref L,.none,rawInt L,.none]++(if pl.isEmpty then List.replicate 6 Value.none else pl)).toArray }).update e (Obj.mapFields (·.setIfInBounds 1 (Value.ref h₁.objs.size)))).update h₁.objs.size
    (Obj.mapFields (·.setIfInBounds 3 ((none:Option Addr).elim Value.none fun f=>rawInt f)))).get? b=some o:=fun b o hbe hb=>by
  have hbT:h₁.objs.size≠b:=Nat.ne_of_gt (Heap.lt_size hb)
  rw[Heap.get?_update_other _ _ hbT,Heap.get?_update_other _ _ (Ne.symm hbe)]
  exact Heap.get?_push_of_some _ hb
 refine wpAny_setField hT₃ rfl (by simp only[List.size_toArray,List.length_append,List.length_cons,List.length_nil]<;>omega) (h _ h₁.objs.size _ _ (Nat.le_of_eq hs₁.1.symm) ?_ ?_ ?_
  (Heap.get?_update_self _ hT₃ (Obj.isFreed_of_fields (Obj.data_mapFields rfl _))) (Obj.data_mapFields rfl _) ?_ hTe)
 ·exact fun b o hb hbe q=>keep b o hbe ((hs₁.2.1 b hb).trans q)
 ·intro b o hb q
  obtain⟨sl,e1⟩:=hs₁.2.2 b o q
  exact⟨sl,keep b _ (fun z=>hene (z ▸ hb)) e1⟩
 ·rw[Heap.get?_update_other _ _ hTe];exact he₃
 ·first | (simp;done) | (rcases hpl with rfl | ⟨_,_,_,_,_,_,_,rfl⟩<;>simp)
theorem note_raw {base h0:Heap}{H:Hp}{env:Env}{outer:List Env}{L e:Addr}{C:Value}{d:Option Addr}{Q:Unit→Shared→Prop}(hfr:A.frames=some (env :: outer))(hl:s.heap.FunFrames base (env :: outer))(hf:env.frame=some L)(F:Fl h0 H s.heap e C d)(hnew:∀b,s.heap.objs.size≤b→h0.get? b=none∧H b=none)(h:∀(h':Heap) (ch:List Addr),(∀b∈ch,h0.get? b=none∧H b=none∧∃o vs,s.heap.get? b=some o∧o.data=.fields vs)→(∀b o,b∉frs (env :: outer)→b∉ch→s.heap.get? b=some o→h'.get? b=some o)→
   (∀b o,b∈frs (env :: outer)→s.heap.get? b=some o→∃sl,h'.get? b=some { o with slots:=sl })→Fl h0 H h' e C d→Q () { s with heap:=h' }) :
  wpAny M A (noteFrame (.ref e) env) (fun _ s'=>wpAny M A (setFlight (.ref e) none) Q E s') E s:=by
 obtain⟨n,f,oe,vs,v,e1,e2,e3,e4,e5,t⟩:=F
 have hsz:1 < vs.size:=(Array.getElem?_eq_some_iff.mp e5).1
 have fin:∀{h':Heap} {T:Addr} {oT:Obj} {ts:Array Value},s.heap.objs.size≤T→h'.get? e=some (oe.mapFields (·.setIfInBounds 1 (.ref T)))→h'.get? T=some oT→oT.data=.fields ts→ts[3]?=some .none→T≠e→Fl h0 H h' e C d:=by
  intro h' T oT ts z he hT hd h3 hTe
  refine⟨n,f,_,_,.ref T,he,?_,?_,Obj.data_mapFields e4 _,by simp[hsz],.inr ⟨T,oT,ts,rfl,hTe,(hnew T z).1,(hnew T z).2,hT,hd,h3⟩⟩
  ·rw[Obj.cls_mapFields];exact e2
  ·rw[dict_mapFields];exact e3
 rcases t with rfl | ⟨T,oT,ts,rfl,t2,t3,t4,t5,t6,t7⟩
 ·unfold noteFrame
  simp only[hf]
  refine wpAny_bind (wpAny_field e1 e4 e5 ?_)
  rw[if_neg (by decide)]
  refine entry_raw hfr hl hf e1 e4 hsz fun h' T oT ts z k1 k2 he hT hd h3 hTe=>?_
  refine h h' [e] (fun b hb=>?_) (fun b o h1 h2 q=>k1 b o h1 (fun w=>h2 (by simp[w])) q) k2 (fin z he hT hd h3 hTe)
  have hb:b=e:=by simpa using hb
  subst hb
  exact⟨n,f,_,_,e1,e4⟩
 ·unfold noteFrame
  simp only[hf]
  refine wpAny_bind (wpAny_field e1 e4 e5 ?_)
  rw[if_pos (show (Value.ref T != Value.none)=true from by simp)]
  refine wpAny_bind (wpAny_field t5 t6 t7 ?_)
  rw[if_neg (show ¬((Value.none == rawInt L)=true) from by simp[rawInt])]
  refine wpAny_bind (wpAny_setField t5 t6 (Array.getElem?_eq_some_iff.mp t7).1 ?_)
  have other:∀b,b≠T→(s.heap.update T (Obj.mapFields (·.setIfInBounds 3 Value.none))).get? b=s.heap.get? b:=fun b hb=>Heap.get?_update_other _ _ (Ne.symm hb)
  have noRecord:∀b o,s.heap.get? b=some o→(∀vs,o.data≠.fields vs)→b≠T:=fun b o hb hnf q=>by
   rw[q,t5] at hb;injection hb with hb;subst hb;exact hnf ts t6
  have nofr:∀b,b∈frs (env :: outer)→b≠T:=fun b hb=>by
   obtain⟨_,o,ho,hnf⟩:=hl.mem hb
   exact noRecord b o ho hnf
  refine entry_raw (s:={ s with heap:=s.heap.update T (Obj.mapFields (·.setIfInBounds 3 Value.none)) }) (base:=base) hfr (hl.of_keeps fun b o hb hnf=>⟨o,(other b (noRecord b o hb hnf)).trans hb,rfl⟩) hf ((other e (Ne.symm t2)).trans e1) e4 hsz
   fun h' T' oT' ts' z k1 k2 he hT hd h3 hTe=>?_
  have z':s.heap.objs.size≤T':=by
   have:=Heap.size_after_update s.heap T (Obj.mapFields (·.setIfInBounds 3 Value.none))
   exact Nat.le_trans (Nat.le_of_eq this.symm) z
  refine h h' [e,T] (fun b hb=>?_) (fun b o h1 h2 q=>?_) (fun b o hb q=>?_) (fin z' he hT hd h3 hTe)
  ·rcases List.mem_cons.mp hb with hb | hb
   ·subst hb;exact⟨n,f,_,_,e1,e4⟩
   ·have hb:b=T:=by simpa using hb
    subst hb;exact⟨t3,t4,_,_,t5,t6⟩
  ·exact k1 b o h1 (fun w=>h2 (by simp[w])) ((other b fun w=>h2 (by simp[w])).trans q)
  ·exact k2 b o hb ((other b (nofr b hb)).trans q)
end
section
variable {X:Cx} {pins:List (Addr × Obj)} {σ:List (Option V)} {H H':Hp} {s:Shared} {h':Heap}
theorem ObjOk.ex {P:Program}{w:World}{h:Heap}{a:Addr}{o:HO}(x:ObjOk P w H h a o):∃u,h.get? a=some u:=by
 cases o with
 |lst xs=>obtain⟨_,_,_,_,e⟩:=x;exact⟨_,e⟩
 |tup xs=>obtain⟨_,_,_,o,e,_⟩:=x;exact⟨_,e⟩
 |dK kvs=>obtain⟨_,_,_,_,o,_,_,e,_⟩:=x;exact⟨_,e⟩
 |dT kvs=>obtain⟨_,_,_,_,o,_,_,e,_⟩:=x;exact⟨_,e⟩
 |set S n=>obtain⟨o,_,_,_,e,_⟩:=x;exact⟨_,e⟩
 |ins C dx fs=>obtain⟨_,_,_,e,_⟩:=x;exact⟨_,e⟩
 |own y=>obtain⟨_,e⟩:=x;exact⟨_,e⟩
 |xd fs=>obtain⟨_,⟨_,_,_,e,_⟩,_⟩:=x;exact⟨_,e⟩
 |rng lo hi=>obtain⟨_,_,_,e⟩:=x;exact⟨_,e⟩
 |frz ob u=>obtain⟨e,_⟩:=x;exact⟨_,e⟩
 |tbl ps=>exact⟨_,(show h.get? a=some _ from x)⟩
 |met f y=>exact⟨_,(show h.get? a=some _ from x)⟩
 |ext φ=>obtain⟨_,⟨_,e⟩,_⟩:=x;exact⟨_,e⟩
theorem HOk.none_of {P:Program}{w:World}{h:Heap}{a:Addr}(x:HOk P w H h)(e:h.get? a=none):H a=none:=by
 cases q:H a with
 |none=>rfl
 |some o=>
  obtain⟨u,hu⟩:=(x a o q).ex
  rw[e] at hu;cases hu
theorem Inv.stepN {g':Array GenState}{t':Nat}{d':Drawn}{ch:List Addr}(I:Inv X pins σ H s)(hch:∀b∈ch,X.s₀.heap.get? b=none∧b≠X.env.locals∧(∀x c,X.env.cells.lookup x=some c→c≠b)∧∀p∈X.pn++pins,p.1≠b)(keep:∀b o,b≠X.env.locals→b∉X.fs→b∉ch→s.heap.get? b=some o→H b=none→h'.get? b=some o)(slot:∀b o,b≠X.env.locals→b∈X.fs→b∉ch→s.heap.get? b=some o→H b=none→∃sl,h'.get? b=some { o with slots:=sl })(there:∀b o,b∉ch→s.heap.get? b=some o→∃o',h'.get? b=some o')(ns:∀m,s.heap.Ns X.env.locals m→h'.Ns X.env.locals m)(hok:HOk X.prog X.w H h')(hg:AllBare g') :
  Inv X pins σ H { s with heap:=h',gens:=g',drawn:=d',toks:=t' }:=by
 have neL:∀b o,X.s₀.heap.get? b=some o→b≠X.env.locals:=fun b o e=>Nat.ne_of_lt (Nat.lt_of_lt_of_le (Heap.lt_size e) I.ok.above)
 have neC:∀b o,X.s₀.heap.get? b=some o→b∉ch:=fun b o e hb=>by rw[(hch b hb).1] at e;cases e
 have cellK:∀x c,X.env.cells.lookup x=some c→∀v,s.heap.IsCell c v→h'.IsCell c v:=fun x c e v ⟨o,ho,hd⟩=>by
  have nch:c∉ch:=fun z=>(hch c z).2.2.1 x c e rfl
  by_cases hc:c∈X.fs
  ·obtain⟨sl,q⟩:=slot c o (I.cne x c e) hc nch ho (I.freeC x c e)
   exact⟨_,q,hd⟩
  ·exact⟨o,keep c o (I.cne x c e) hc nch ho (I.freeC x c e),hd⟩
 refine⟨I.ok,I.os,hg,⟨fun b o e n hb hx=>?_,fun b o e n hb hx=>?_,fun b o e n hx=>?_,fun b o e hx=>?_,fun b xs e=>I.base.tups b xs e,fun b o xs e=>I.base.frzs b o xs e,fun b ps e=>I.base.tbls b ps e⟩,?_,fun x c e=>?_,I.free,I.freeC,fun p hp=>?_,hok,I.len⟩
 ·exact keep b o (neL b o e) hb (neC b o e) (I.base.keep b o e n hb hx) (I.base.free b o e n hx)
 ·obtain⟨sl,e1⟩:=I.base.slot b o e n hb hx
  obtain⟨sl',e2⟩:=slot b _ (neL b o e) hb (neC b o e) e1 (I.base.free b o e n hx)
  exact⟨sl',e2⟩
 ·exact I.base.free b o e n hx
 ·obtain⟨o',e1⟩:=I.base.there b o e hx
  exact there b o' (neC b o e) e1
 ·obtain⟨m,hn,hl⟩:=I.loc
  refine⟨m,ns m hn,fun i x v e1 e2 e3=>?_⟩
  obtain⟨u,r,l⟩:=hl i x v e1 e2 e3
  refine⟨u,r,?_⟩
  rcases l with l | ⟨k,c,e,z⟩
  ·exact .inl l
  ·exact .inr ⟨k,c,e,cellK x c e _ z⟩
 ·obtain⟨v,z⟩:=I.cell x c e
  exact⟨v,cellK x c e v z⟩
 ·obtain⟨e,n,ne,nf,d⟩:=I.pin p hp
  have nch:p.1∉ch:=fun z=>(hch p.1 z).2.2.2 p hp rfl
  exact⟨keep p.1 p.2 ne nf nch e n,n,ne,nf,d⟩
structure Frm (X:Cx):Prop where
 ex:X.ex=[]
 st:X.stack=X.env :: X.outer
 fr:X.env.frame=some X.env.locals
def Lies (X:Cx)(pins:List (Addr × Obj))(σ:List (Option V))(H:Hp)(s:Shared)(a:Addr)(C:Value)(d:Option Addr):Prop:=
 Inv X pins σ H s∧∃h0:Heap,(∀p∈X.pn++pins,h0.get? p.1≠none)∧(∀b o,X.s₀.heap.get? b=some o→∃o',h0.get? b=some o')∧(∀b o,h0.get? b=some o→∃o',s.heap.get? b=some o')∧Fl h0 H s.heap a C d
theorem none_back {h1 h2:Heap}(k:∀b o,h1.get? b=some o→∃o',h2.get? b=some o')(b:Addr)(e:h2.get? b=none):h1.get? b=none:=by
 cases q:h1.get? b with
 |none=>rfl
 |some o=>obtain⟨o',z⟩:=k b o q;rw[e] at z;cases z
theorem none_le {h:Heap}{b:Addr}(e:h.objs.size≤b):h.get? b=none:=Heap.get?_none_of_le e
theorem fields_ne {h:Heap}{b c:Addr}{o:Obj}{vs:Array Value}(e:h.get? b=some o)(hd:o.data=.fields vs){o':Obj}(e':h.get? c=some o')(hd':∀vs,o'.data≠.fields vs):b≠c:=by
 intro z;subst z;rw[e] at e';cases e';exact hd' vs hd
theorem lies_ch {a:Addr}{C:Value}{d:Option Addr}{h0:Heap}(I:Inv X pins σ H s)(hp:∀p∈X.pn++pins,h0.get? p.1≠none)(hs:∀b o,X.s₀.heap.get? b=some o→∃o',h0.get? b=some o'){b:Addr}(hb:h0.get? b=none∧H b=none∧∃o vs,s.heap.get? b=some o∧o.data=.fields vs) :
  X.s₀.heap.get? b=none∧b≠X.env.locals∧(∀x c,X.env.cells.lookup x=some c→c≠b)∧∀p∈X.pn++pins,p.1≠b:=by
 obtain⟨h1,h2,o,vs,h3,h4⟩:=hb
 refine⟨none_back hs b h1,?_,fun x c e=>?_,fun p hq z=>hp p hq (by rw[z];exact h1)⟩
 ·obtain⟨m,⟨o',es,ep,ho',hd',_⟩,_⟩:=I.loc
  exact fields_ne h3 h4 ho' fun vs z=>by rw[hd'] at z;cases z
 ·obtain⟨v,o',ho',hd'⟩:=I.cell x c e
  exact Ne.symm (fields_ne h3 h4 ho' fun vs z=>by rw[hd'] at z;cases z)
theorem note_ok {A':Around}{E:Value→Shared→Prop}{a:Addr}{C:Value}{d:Option Addr}{Q:Unit→Shared→Prop}(hA:A'.frames=some X.stack)(fm:Frm X)(L:Lies X pins σ H s a C d)(h:∀s',Lies X pins σ H s' a C d→Q () s') :
  wpAny (model X.prog X.w) A' (noteFrame (.ref a) X.env) (fun _ s2=>wpAny (model X.prog X.w) A' (setFlight (.ref a) none) Q E s2) E s:=by
 obtain⟨I,h0,hp,hs,ht,F⟩:=L
 have hstk:=I.stack
 have hfree:=I.stkFree
 rw[fm.st] at hA hstk hfree
 have hfrs:frs (X.env :: X.outer)=X.env.locals :: X.fs:=by unfold frs;rw[List.filterMap_cons,fm.fr];rfl
 refine note_raw (base:=X.base) hA hstk fm.fr F (fun b hb=>⟨none_back ht b (none_le hb),I.hok.fresh hb⟩) fun h' ch c1 c2 c3 F'=>?_
 have tr:∀c u,H c=some u→∀v,s.heap.get? c=some v→h'.get? c=some v:=fun c u e v q=>
  c2 c v (fun z=>by rw[hfree c z] at e;cases e) (fun z=>by rw[(c1 c z).2.1] at e;cases e) q
 have th:∀b o,b∉ch→s.heap.get? b=some o→∃o',h'.get? b=some o':=fun b o hb q=>by
  by_cases hf:b∈frs (X.env :: X.outer)
  ·obtain⟨sl,e⟩:=c3 b o hf q;exact⟨_,e⟩
  ·exact⟨o,c2 b o hf hb q⟩
 have J:Inv X pins σ H { s with heap:=h',gens:=s.gens,drawn:=s.drawn,toks:=s.toks }:=by
  refine I.stepN (ch:=ch) (fun b hb=>lies_ch (a:=a) (C:=C) (d:=d) I hp hs (c1 b hb)) (fun b o h1 h2 h3 e _=>c2 b o (by rw[hfrs];intro z;rcases List.mem_cons.mp z with z | z;exact h1 z;exact h2 z) h3 e)
   (fun b o _ h2 _ e _=>c3 b o (by rw[hfrs];exact List.mem_cons_of_mem _ h2) e) th (fun m hm=>?_) (fun b u e=>?_) I.bare
  ·obtain⟨o,es,ep,ho,r⟩:=hm
   obtain⟨sl,e⟩:=c3 _ o (by rw[hfrs];exact List.mem_cons_self) ho
   exact⟨_,es,ep,e,r⟩
  ·refine(I.hok b u e).stay (fun c v hc q=>?_) (fun _ q=>q) fun _ _ q=>q
   rcases hc with rfl | hc
   ·exact tr c u e v q
   ·exact tr c _ hc v q
 refine h _ ⟨J,h0,hp,hs,fun b o e=>?_,F'⟩
 obtain⟨o',e'⟩:=ht b o e
 exact th b o' (fun z=>by rw[(c1 b z).1] at e;cases e) e'
theorem land_ok {A':Around}{E:Value→Shared→Prop}{a:Addr}{C:Value}{d:Option Addr}{Q:Unit→Shared→Prop}(L:Lies X pins σ H s a C d)(h:∀s',Lies X pins σ H s' a C d→Q () s'):wpAny (model X.prog X.w) A' (setFlight (.ref a) none) Q E s:=by
 have L':=L
 obtain⟨I,h0,hp,hs,ht,F⟩:=L'
 obtain⟨n,f,oe,vs,v,e1,e2,e3,e4,e5,t⟩:=F
 unfold setFlight
 refine wpAny_bind (wpAny_field e1 e4 e5 ?_)
 rcases t with rfl | ⟨T,oT,ts,rfl,t2,t3,t4,t5,t6,t7⟩
 ·rw[if_neg (by decide)]
  exact wpAny_pure (h s L)
 ·rw[if_pos (show (Value.ref T != Value.none)=true from by simp)]
  have hsz3:3 < ts.size:=(Array.getElem?_eq_some_iff.mp t7).1
  have other:∀b,b≠T→(s.heap.update T (Obj.mapFields (·.setIfInBounds 3 ((none:Option Addr).elim Value.none fun f=>rawInt f)))).get? b=s.heap.get? b:=fun b hb=>Heap.get?_update_other _ _ (Ne.symm hb)
  have hT':=Heap.get?_update_self (Obj.mapFields (·.setIfInBounds 3 ((none:Option Addr).elim Value.none fun f=>rawInt f))) t5 (Obj.isFreed_of_fields (Obj.data_mapFields t6 _))
  refine wpAny_setField t5 t6 hsz3 ?_
  have c1:∀b∈[T],h0.get? b=none∧H b=none∧∃o vs,s.heap.get? b=some o∧o.data=.fields vs:=fun b hb=>by
   have hb:b=T:=by simpa using hb
   subst hb;exact⟨t3,t4,_,_,t5,t6⟩
  have nT:∀b,b∉[T]→b≠T:=fun b hb z=>hb (by simp[z])
  have J:Inv X pins σ H { s with heap:=(s.heap.update T (Obj.mapFields (·.setIfInBounds 3 ((none:Option Addr).elim Value.none fun f=>rawInt f)))),gens:=s.gens,drawn:=s.drawn,toks:=s.toks }:=by
   refine I.stepN (ch:=[T]) (fun b hb=>lies_ch (a:=a) (C:=C) (d:=d) I hp hs (c1 b hb)) (fun b o _ _ h3 e _=>(other b (nT b h3)).trans e) (fun b o _ _ h3 e _=>⟨o.slots,(other b (nT b h3)).trans e⟩)
    (fun b o h3 e=>⟨o,(other b (nT b h3)).trans e⟩) (fun m hm=>?_) (fun b u e=>?_) I.bare
   ·obtain⟨o,es,ep,ho,hd,r⟩:=hm
    exact⟨o,es,ep,(other _ (Ne.symm (fields_ne t5 t6 ho fun vs z=>by rw[hd] at z;cases z))).trans ho,hd,r⟩
   ·refine(I.hok b u e).stay (fun c v hc q=>(other c ?_).trans q) (fun _ q=>q) fun _ _ q=>q
    rintro rfl
    rcases hc with rfl | hc
    ·rw[t4] at e;cases e
    ·rw[t4] at hc;cases hc
  refine h _ ⟨J,h0,hp,hs,fun b o e=>?_,⟨n,f,oe,vs,.ref T,(other a (Ne.symm t2)).trans e1,e2,e3,e4,e5,.inr ⟨T,_,_,rfl,t2,t3,t4,hT',Obj.data_mapFields t6 _,by simp[hsz3]⟩⟩⟩
  obtain⟨o',e'⟩:=ht b o e
  exact⟨o',(other b (fun z=>by rw[z,t3] at e;cases e)).trans e'⟩
end
def CX1 (P:Program)(w:World):CXT:=fun outer H s E e s'=>∃a C d H',e=.ref a∧s'.os=s.os∧AllBare s'.gens∧Un (frs outer) [] H H' s.heap s'.heap∧HOk P w H' s'.heap∧Fl s.heap H' s'.heap a C d∧E C d H'
def XeOk (X:Cx)(E:XK):Prop:=∀(pins:List (Addr × Obj)) (σ:St) (H:Hp) (s:Shared) (a:Addr) (C:Value) (d:Option Addr),Lies X pins σ H s a C d→E C d H→X.xe (.ref a) s
section
variable {X:Cx} {pins:List (Addr × Obj)} {σ:List (Option V)} {H:Hp} {s s':Shared} {E:XK} {e:Value}
theorem lies_of_call (fm:Frm X)(I:Inv X pins σ H s)(hcx:CX1 X.prog X.w X.stack H s E e s'):∃a C d H',e=.ref a∧Lies X pins σ H' s' a C d∧E C d H':=by
 obtain⟨a,C,d,H',rfl,os,bare,un,hok,F,q⟩:=hcx
 refine⟨a,C,d,H',rfl,⟨I.call' (ch:=[]) os un hok bare (fun b z=>absurd z (by simp)),s.heap,fun p hp z=>?_,fun b o e=>I.base.there b o e (by rw[fm.ex];simp),fun b o e=>un.there b o e (by simp),F⟩,q⟩
 rw[(I.pin p hp).1] at z;cases z
theorem passes_cx (fm:Frm X)(xo:XeOk X E):Passes (CX1 X.prog X.w) X E:=fun pins σ H s e s' I hcx=>by
 obtain⟨a,C,d,H',rfl,L,q⟩:=lies_of_call fm I hcx
 exact xo pins σ H' s' a C d L q
end
theorem frm_cxOf {CX:CXT}{P:Program}{w:World}{K:PySem.W.Frag}{mg:Str→Option Value}{base:Heap}{N:List Str}{qual:Str}{scope:Scope}{f:Addr}{cd:Value}{A:Around}{outer:List Env}{s:Shared}{H:Hp}{E:XK} :
  Frm (cxOf CX P w K mg base N qual scope f cd A outer s H E):=⟨rfl,rfl,rfl⟩
theorem xe_cxOf {P:Program}{w:World}{K:PySem.W.Frag}{mg:Str→Option Value}{base:Heap}{N:List Str}{qual:Str}{scope:Scope}{f:Addr}{cd:Value}{A:Around}{outer:List Env}{s:Shared}{H:Hp}{E:XK} :
  XeOk (cxOf (CX1 P w) P w K mg base N qual scope f cd A outer s H E) E:=by
 intro pins σ H' s' a C d L q
 show wpAny (model P w) (A.deeper (envOfC qual scope s.heap.objs.size f cd)) (leaving (envOfC qual scope s.heap.objs.size f cd) (.ref a)) (fun _ s''=>CX1 P w outer H s E (.ref a) s'') (fun e' s''=>CX1 P w outer H s E e' s'') s'
 unfold leaving
 refine wpAny_bind (note_ok (X:=cxOf (CX1 P w) P w K mg base N qual scope f cd A outer s H E) L.1.ok.frames frm_cxOf L fun s'' L''=>?_)
 obtain⟨J,h0,hp,hs0,hth,F⟩:=L''
 exact⟨a,C,d,H',rfl,J.os,J.bare,J.base,J.hok,F.older fun b z=>none_back hs0 b z,q⟩
abbrev bmVE:List Value:=[.type "ValueError",.type "Exception",.type "BaseException",.type "object"]
def ExcC (K:PySem.W.Frag)(C:Addr):Prop:=PySem.W.excIn K C bmVE "ValueError.__new__"=true
theorem exc_of {K:PySem.W.Frag}{h:Heap}{C:Addr}{bmB:List Value}{newId:String}(X:K.In h)(q:PySem.W.excIn K C bmB newId=true) :
  ∃bm N nm qn bs hdct sn sub ab col dd k0 k1 k2 k3 k5 mN,h.get? C=some (excClassObj nm qn C N bs bm hdct sn sub ab col dd k0 k1 k2 k3 k5 newId)∧h.Ns N mN∧mN "__init__"=none∧OwnTail h bmB bm:=by
 unfold PySem.W.excIn at q
 split at q
 ·rename_i dd cd sl ho
  split at q
  ·rename_i C' bm k0 k1 k2 k3 n k5 hm hs
   simp only[Bool.and_eq_true,beq_iff_eq,Bool.not_eq_true'] at q
   obtain⟨⟨⟨⟨⟨rfl,rfl⟩,hdel⟩,ht⟩,hok⟩,hni⟩:=q
   obtain⟨nm,bs,mro,ns,qn,hd,sn,sub,ab,col,del⟩:=cd
   dsimp only at hm hdel hok hni
   subst hm hdel
   have hsl:sl=#[k0,k1,k2,k3,some (.builtin n),k5]:=by
    obtain⟨l⟩:=sl
    simp only at hs
    rw[hs]
   subst hsl
   exact⟨bm,ns,nm,qn,bs,hd,sn,sub,ab,col,dd,k0,k1,k2,k3,k5,_,X _ _ ho,.of_isNs (PySem.W.isNs_of_in X hok),PySem.W.nsMap_none_of_in X hok hni,PySem.W.tail_of_in X ht⟩
  ·cases q
 ·cases q
section
variable {X:Cx} {pins:List (Addr × Obj)} {σ:List (Option V)} {H:Hp} {s:Shared}
def tRaise (C:Addr)(E:XK)(ta:TA):TS:=fun _ σ H=>ta σ H fun vs H1=>vs.length≤sizeLine∧E (.ref C) none H1
theorem ps_raise {E:XK}{x:Str}{C:Addr}{np cpos pos:Pos}{e₀:Expr}{es:List Expr}{ta:TA}(fm:Frm X)(xo:XeOk X E)(hc:X.calm=true)(hg:Gl X x)(hm:X.mg x=some (.ref C))(q:ExcC X.K C)(ha:PA X (e₀ :: es) ta)(hdb:(x == ("__debug__":Str))=false:=by decide)(he:starEach (e₀ :: es) X.env=(false,eval e₀ X.env) :: starEach es X.env:=by rfl)(hpl:(backTo cpos (starEach es X.env)).any (·.1)=false:=by rfl) :
  PS X (.Raise (some (.Call (.Name x np) (e₀ :: es) [] cpos)) none pos) (tRaise C E ta):=by
 intro pins s σ H D I h
 obtain⟨tl,N,nm,qn,bs,hdct,sn,sub,ab,col,dd,k0,k1,k2,k3,k5,mN,hC,hN,hni,T⟩:=exc_of I.mod.kin q
 have FB:=PySem.F.excBase_ValueError
 refine wpAny_Raise_call_subU (C:=C) (nm:=nm) (q:=qn) (N:=N) (bs:=bs) (bm:=tl) (hdct:=hdct) (sn:=sn) (sub:=sub) (ab:=ab) (col:=col) (dd:=dd) (k0:=k0) (k1:=k1) (k2:=k2) (k3:=k3) (k5:=k5)
  FB (by decide) FB (mN:=mN) (T.hasType FB.hasBase) (I.ok.hd hc) (by rw[he];show (false || (backTo cpos (starEach es X.env)).any (·.1))=false;rw[hpl];rfl) hni (ld_glob I hg hm ⟨rfl,?_⟩ hdb)
 have ha':=ha cpos pins s σ H _ I h
 rw[he] at ha' ⊢
 refine Calls.evalArgs_plain (wpAny_mono ha' (fun vs s2 h2=>?_) fun _ _ y=>y)
 obtain⟨xs,H1,I1,r,hz,q1⟩:=h2
 refine⟨rfl,by rw[← r.length];exact hz,I1.bk _ _ hC,hN.keeps I1.bk,T.keeps I1.bk,fun h' e hx=>?_⟩
 obtain⟨t,he1,htn,ht⟩:=hx.there
 refine xo pins σ H1 _ e (.ref C) none ⟨I1.kept (t':=s2.toks) hx.keeps,s2.heap,fun p hp z=>?_,fun b o e=>I1.base.there b o e (by rw[fm.ex];simp),fun b o z=>⟨o,hx.keeps b o z⟩,⟨hx.new,I1.hok.none_of hx.new,_,_,.none,he1,rfl,rfl,rfl,rfl,.inl rfl⟩⟩ q1
 rw[(I1.pin p hp).1] at z;cases z
end
abbrev TEX:=St→Hp→VK→XK→Prop
abbrev TSX:=Ends→(St→XK)→St→Hp→Prop
def XP (X:Cx)(pins:List (Addr × Obj))(E:St→XK)(e:Value)(s':Shared):Prop:=∃a C d σ' H',e=.ref a∧Lies X pins σ' H' s' a C d∧E σ' C d H'
def PX (X:Cx)(e:Expr)(t:TEX):Prop:=
 ∀(pins:List (Addr × Obj)) (s:Shared) (σ:St) (H:Hp) (Q:VK) (E:XK),Inv X pins σ H s→t σ H Q E→wpAny (model X.prog X.w) X.A (eval e X.env) (EP X pins σ Q) (XP X pins fun σ' C d H'=>σ'=σ∧E C d H') s
def PSX (X:Cx)(st:Stmt)(t:TSX):Prop:=
 ∀(pins:List (Addr × Obj)) (s:Shared) (σ:St) (H:Hp) (D:Ends) (E:St→XK),Inv X pins σ H s→t D E σ H→wpAny (model X.prog X.w) X.A (exec st X.env) (SP X pins D) (XP X pins E) s
def PSXs (X:Cx)(st:List Stmt)(t:TSX):Prop:=
 ∀(pins:List (Addr × Obj)) (s:Shared) (σ:St) (H:Hp) (D:Ends) (E:St→XK),Inv X pins σ H s→t D E σ H→wpAny (model X.prog X.w) X.A (execs st X.env) (SP X pins D) (XP X pins E) s
theorem XP.at {X:Cx}{pins:List (Addr × Obj)}{σ:St}{E:St→XK}{e:Value}{s':Shared}(h:XP X pins (fun σ' C d H'=>σ'=σ∧E σ C d H') e s'):XP X pins E e s':=by
 obtain⟨a,C,d,σ',H',rfl,L,rfl,q⟩:=h
 exact⟨a,C,d,σ',H',rfl,L,q⟩
section
variable {X:Cx} {k:Nat} {f C:Addr} {fd:FuncData} {ps:List Str} {sp:Sp} {dvs:List V} {ds:List Value} {x m:Str} {p pos apos:Pos} {e o:Expr} {es:List Expr} {ta:TE} {t:TA}
theorem run_x {pins:List (Addr × Obj)}{σ:St}{H:Hp}{s:Shared}{Q:VK}{E:XK}{us:List Value}{vs:List V}(F:FnOk X.prog X.w X.K X.mg X.base (CX1 X.prog X.w) k f fd ps sp)(fm:Frm X)(hr:Room k X.A)(hb:Binds X.K fd ps ds)(hd:Vals dvs ds)(I:Inv X pins σ H s)(r:Vals vs us)(h:sp (vs++dvs) H Q E):wpAny (model X.prog X.w) X.A (call (.ref f) us) (EP X pins σ Q) (XP X pins fun σ' C d H'=>σ'=σ∧E C d H') s:=by
 have r2:Vals (vs++dvs) (us++ds):=r.append hd
 have hl:(us++ds).length=ps.length:=by rw[← r2.length];exact F.len _ _ _ _ h
 refine wpAny_call (codeAny_mono (F.run X.A X.stack s H ⟨us,[]⟩ (us++ds) (vs++dvs) Q E hr I.env0 (hb s us I.kIn hl) r2 h) fun r s' hq=>?_)
 cases r with
 |error e=>
  obtain⟨a,C,d,H',rfl,L,q⟩:=lies_of_call fm I hq
  exact⟨a,C,d,σ,H',rfl,L,rfl,q⟩
 |ok fl=>
  cases fl with
  |ret u=>exact I.after hq
  |next=>exact False.elim hq
  |brk=>exact False.elim hq
  |cont=>exact False.elim hq
def xMeth (C:Addr)(m:Str)(sp:Sp)(dvs:List V)(ta:TE)(t:TA):TEX:=fun σ H Q E=>ta σ H fun x H1=>∃a dx fs,x=.ref a∧H1 a=some (.ins C dx fs)∧fs.lookup m=none∧t σ H1 fun vs H2=>sp (x :: (vs++dvs)) H2 Q E
theorem px_meth {pl:Sem Bool}(he:PE X.nox o ta)(c:Cls X.K C)(hm:Meth X.K C m f)(F:FnOk X.prog X.w X.K X.mg X.base (CX1 X.prog X.w) k f fd ps sp)(fm:Frm X)(hr:Room k X.A)(hb:Binds X.K fd ps ds)(hd:Vals dvs ds)(ha:PA X.nox (e :: es) t)(hst:starEach (e :: es) X.env=(false,eval e X.env) :: starEach es X.env:=by rfl)(hpl:(backTo pos (starEach es X.env)).any (·.1)=false:=by rfl)(ht:eval (.Call (.Attribute o m apos) (e :: es) [] pos) X.env=(do
   let ov ← eval o X.env
   standAt apos.atName
   let (f,first) ← holding [ov] (getMethod ov m pl)
   callWith pos f first (backTo pos (starEach (e :: es) X.env)) (backToKw pos (keywordEach [] X.env))):=by rfl) :
  PX X (.Call (.Attribute o m apos) (e :: es) [] pos) (xMeth C m sp dvs ta t):=by
 intro pins s σ H Q E I h
 refine PySem.W.methodCall_KW (pl:=pl) (wpAny_mono (he pins s σ H _ (I.wish _) h) (fun u s1 h1=>?_) fun _ _ z=>False.elim z) ht
 obtain⟨x,H1,I1,rx,a,dx,fs,ex,ea,l,q⟩:=h1
 subst ex
 obtain rfl:u=Value.ref a:=rx
 refine getmeth_ok (X:=X.nox) I1 ea c hm l ?_
 refine PySem.W.callWith_K (first:=[.ref a]) (h₀:=X.base) I.ok.mod.kin hm.kp (wpAny_mono (ha pos pins s1 σ H1 _ I1 q) (fun us s2 h2=>?_) fun _ _ z=>False.elim z) hst hpl
 obtain⟨vs,H2,I2,r,q2⟩:=h2
 exact⟨I2.kIn,run_x (us:=.ref a :: us) (vs:=.ref a :: vs) F fm hr hb hd I2.unwish (.cons rfl r) q2⟩
def xExpr (te:TEX):TSX:=fun D E σ H=>te σ H (fun _ H1=>D.nx σ H1) (E σ)
theorem psx_expr (he:PX X e te)(hs:swapsWith e none pos.line X.env=pure false:=by rfl):PSX X (.Expr e pos) (xExpr te):=by
 intro pins s σ H D E I h
 exact wpAny_Expr_any (wpAny_mono (he pins s σ H _ _ I h) (fun v s1 ⟨x,H1,I1,r1,q1⟩=>⟨σ,H1,I1,q1⟩) fun _ _ z=>XP.at z) I.quiet hs
theorem psxs_one {st:Stmt}{t:TSX}(h1:PSX X st t):PSXs X [st] t:=by
 intro pins s σ H D E I h
 refine wpAny_execs_cons (wpAny_mono (h1 pins s σ H D E I h) (fun f s1 q=>?_) fun _ _ z=>z)
 cases f with
 |next=>exact wpAny_execs_nil q
 |ret v=>exact q
 |brk=>exact q
 |cont=>exact q
end
abbrev Cx.sup (X:Cx)(a:Addr):Cx:={ X with A:=X.A.mark (some (.ref a)),calm:=false,xe:=fun _ _=>False }
section
variable {X:Cx} {pins:List (Addr × Obj)} {σ:List (Option V)} {H:Hp} {s:Shared} {a:Addr}
theorem Cx.Ok.sup (ok:X.Ok)(a:Addr):(X.sup a).Ok:=
 ⟨ok.mod,ok.kind,ok.glob,ok.blt,ok.above,ok.inj,ok.has,ok.cab,fun z=>Bool.noConfusion z,ok.frames,ok.stk,ok.exf,ok.bs,ok.bsz,ok.noex,ok.exfs,ok.funs,ok.frf⟩
theorem Inv.sup (I:Inv X pins σ H s)(a:Addr):Inv (X.sup a) pins σ H s:=⟨I.ok.sup a,I.os,I.bare,I.base,I.loc,I.cell,I.free,I.freeC,I.pin,I.hok,I.len⟩
theorem Inv.unsup (ok:X.Ok)(I:Inv (X.sup a) pins σ H s):Inv X pins σ H s:=⟨ok,I.os,I.bare,I.base,I.loc,I.cell,I.free,I.freeC,I.pin,I.hok,I.len⟩
def excO (a:Addr)(C:Value)(d:Option Addr):HO:=.ext fun h=>∃o vs,h.get? a=some o∧o.cls=C∧o.dict=d∧o.data=.fields vs
theorem Lies.track {C:Value}{d:Option Addr}(L:Lies X pins σ H s a C d)(fm:Frm X):Inv X pins σ (upd H a (excO a C d)) s:=by
 obtain⟨I,h0,hp,hs,ht,F⟩:=L
 obtain⟨n,f,oe,vs,v,e1,e2,e3,e4,e5,t⟩:=F
 obtain⟨c1,c2,c3,c4⟩:=lies_ch (a:=a) (C:=C) (d:=d) I hp hs (b:=a) ⟨n,f,_,_,e1,e4⟩
 have tr:∀b u,H b=some u→upd H a (excO a C d) b=some u:=fun b u e=>by rw[upd_ne (ne_of_none e f)];exact e
 refine⟨I.ok,I.os,I.bare,⟨I.base.keep,I.base.slot,fun b o e n' hx=>?_,I.base.there,fun b xs e=>tr _ _ (I.base.tups b xs e),fun b o u e=>tr _ _ (I.base.frzs b o u e),fun b ps e=>?_⟩,I.loc,I.cell,?_,fun x c e=>?_,fun p hp'=>?_,fun b o e=>?_,I.len⟩
 ·have:b≠a:=fun z=>by rw[z,c1] at e;cases e
  rw[upd_ne this];exact I.base.free b o e n' hx
 ·obtain⟨more,z⟩:=I.base.tbls b ps e
  exact⟨more,tr _ _ z⟩
 ·rw[upd_ne (Ne.symm c2)];exact I.free
 ·rw[upd_ne (c3 x c e)];exact I.freeC x c e
 ·obtain⟨z1,z2,z3⟩:=I.pin p hp'
  exact⟨z1,by rw[upd_ne (c4 p hp')];exact z2,z3⟩
 ·by_cases hb:b=a
  ·subst hb
   rw[upd_same] at e;cases e
   refine⟨⟨oe,vs,e1,e2,e3,e4⟩,⟨oe,e1⟩,fun h1 h2 p k=>?_⟩
   obtain⟨o,vs',z1,z2⟩:=p
   exact⟨o,vs',k o z1,z2⟩
  ·rw[upd_ne hb] at e
   exact(I.hok b o e).stay (fun _ _ _ q=>q) (fun c q=>tr _ _ q) fun c xs q=>tr _ _ q
theorem forget_ok {A':Around}{E:Value→Shared→Prop}{j:Nat}{n:Str}{pos:Pos}{Q:Unit→Shared→Prop}(I:Inv X pins σ H s)(hN:X.N.Nodup)(hj:X.N[j]?=some n)(hl:X.env.scope.names.lookup n=some .local)(h:∀s',Inv X pins (σ.set j none) H s'→Q () s'):wpAny (model X.prog X.w) A' (do bindName X.env n .none;unbindBehindTheSuite X.env n pos) Q E s:=by
 obtain⟨m,hn,hlk⟩:=id I.loc
 have hcls:(X.env.scope.kind == .class || (X.env.scope.kind == .module && X.env.locals != X.env.globals))=false:=by rw[I.ok.kind];rfl
 have hiσ:j < σ.length:=by rw[I.len];exact(List.getElem?_eq_some_iff.mp hj).1
 have cne:=I.cne
 refine wpAny_nameGoes_keeps hl hn hcls fun h' v hn' hs=>?_
 obtain⟨oL,_,_,hoL,_⟩:=id hn
 refine h _ ⟨I.ok,I.os,I.bare,⟨fun b o e n hb hx=>?_,fun b o e n hb hx=>?_,I.base.free,fun b o e hx=>?_,I.base.tups,I.base.frzs,I.base.tbls⟩,⟨_,hn',fun i y v' e1 e2 e3=>?_⟩,fun y c e=>?_,I.free,I.freeC,fun p hp=>?_,fun b ob e=>?_,by simpa using I.len⟩
 ·exact(hs.2 b (Nat.ne_of_lt (Nat.lt_of_lt_of_le (Heap.lt_size e) I.ok.above))).trans (I.base.keep b o e n hb hx)
 ·obtain⟨sl,e1⟩:=I.base.slot b o e n hb hx
  exact⟨sl,(hs.2 b (Nat.ne_of_lt (Nat.lt_of_lt_of_le (Heap.lt_size e) I.ok.above))).trans e1⟩
 ·obtain⟨o',e1⟩:=I.base.there b o e hx
  exact⟨o',(hs.2 b (Nat.ne_of_lt (Nat.lt_of_lt_of_le (Heap.lt_size e) I.ok.above))).trans e1⟩
 ·by_cases hij:i=j
  ·subst hij
   rw[List.getElem?_set_self hiσ] at e2
   cases e2
  ·rw[List.getElem?_set_ne (Ne.symm hij)] at e2
   obtain⟨u',r',q⟩:=hlk i y v' e1 e2 e3
   refine⟨u',r',?_⟩
   rcases q with ⟨k,e⟩ | ⟨k,c,e,z⟩
   ·refine .inl ⟨k,?_⟩
    have:y≠n:=fun e=>hij (nodup_ix hN e1 (e ▸ hj))
    simp[this,e]
   ·exact .inr ⟨k,c,e,z.sameBut hs (cne y c e)⟩
 ·obtain⟨w',z⟩:=I.cell y c e
  exact⟨w',z.sameBut hs (cne y c e)⟩
 ·obtain⟨e,n,ne,nf,d⟩:=I.pin p hp
  exact⟨(hs.2 p.1 ne).trans e,n,ne,nf,d⟩
 ·refine(I.hok b ob e).stay (fun c w' hc q=>(hs.2 c ?_).trans q) (fun _ q=>q) fun _ _ q=>q
  rintro rfl
  rcases hc with rfl | hc
  ·rw[I.free] at e;cases e
  ·rw[I.free] at hc;cases hc
end
abbrev TH:=Addr→Value→Option Addr→Ends→St→Hp→Prop
def PH (X:Cx)(hs:List ExceptHandler)(t:TH):Prop:=
 ∀(pins:List (Addr × Obj)) (s:Shared) (σ:St) (H:Hp) (D:Ends) (a:Addr) (C:Value) (d:Option Addr),Lies X pins σ H s a C d→t a C d D σ H→wpAny (model X.prog X.w) X.A (handleBy (.ref a) X.env hs) (SP X pins D) X.xe s
section
variable {X:Cx} {pos np:Pos} {T:Str} {tc:Value} {b₀:Stmt} {suite:List Stmt} {rest:List ExceptHandler} {ts:TS} {tr:TH}
def hNever:TH:=fun _ _ _ _ _ _=>False
theorem ph_never {hs:List ExceptHandler}:PH X hs hNever:=fun _ _ _ _ _ _ _ _ _ h=>h.elim
def NameC (X:Cx)(T:Str)(c:Value):Prop:=X.mg T=some c∨(X.mg T=none∧bootBuiltins T=some c∧T≠"__name__")
theorem ld_cls {E:Value→Shared→Prop}{pins:List (Addr × Obj)}{s:Shared}{σ:St}{H:Hp}{Q:Value→Shared→Prop}(I:Inv X pins σ H s)(hg:Gl X T)(hc:NameC X T tc)(h:Q tc s)(hd:(T == ("__debug__":Str))=false:=by decide):wpAny (model X.prog X.w) X.A (eval (.Name T np) X.env) Q E s:=by
 rcases hc with e | ⟨e,hv,hn⟩
 ·exact ld_glob I hg e h hd
 ·exact ld_blt I hg e hv h hn hd
theorem Lies.ty {M:Model}{pins:List (Addr × Obj)}{s:Shared}{σ:St}{H:Hp}{a:Addr}{C:Value}{d:Option Addr}(L:Lies X pins σ H s a C d):PySem.W.Looks M s.heap (typeOf (.ref a)) C:=by
 obtain⟨I,h0,hp,hs,ht,n,f,oe,vs,v,e1,e2,_⟩:=L
 subst e2
 exact(PySem.W.Looks.ld e1).andThen .now
def hTestAs (K:PySem.W.Frag)(tc:Value)(j:Nat)(ts:TS)(tr:TH):TH:=fun a C d D σ H=>∃b,PySem.W.exmOne K C tc=some b∧
 if b=true then ts { nx:=fun σ' H'=>D.nx (σ'.set j none) H',rt:=D.rt,bk:=fun σ' H'=>D.bk (σ'.set j none) H',ct:=fun σ' H'=>D.ct (σ'.set j none) H' } (σ.set j (some (.ref a))) (upd H a (excO a C d)) else tr a C d D σ H
theorem ph_as {j:Nat}{n:Str}(fm:Frm X)(hN:X.N.Nodup)(hj:X.N[j]?=some n)(hl:X.env.scope.names.lookup n=some .local)(hg:Gl X T)(hc:NameC X T tc)(hs:∀a,PSs (X.sup a) (b₀ :: suite) ts)(hr:PH X rest tr)(hd:(T == ("__debug__":Str))=false:=by decide) :
  PH X (.ExceptHandler (some (.Name T np)) (some n) (b₀ :: suite) pos :: rest) (hTestAs X.K tc j ts tr):=by
 intro pins s σ H D a C d L h
 obtain⟨b,hb,h⟩:=h
 have I:=L.1
 refine wpAny_handleBy_cons (codeAny_handlers_test (ld_cls (X:=X.sup a) (I.sup a) hg hc ((PySem.W.exm_one I.kIn L.ty hb).here ?_) hd)) (by intro q;cases q)
 cases b with
 |false=>
  rw[if_neg Bool.false_ne_true] at h
  exact hr pins s σ H D a C d L h
 |true=>
  rw[if_pos rfl] at h
  refine codeAny_handlers_suite_as (land_ok (X:=X) L fun s' L'=>?_)
  refine store_ok (X:=X.sup a) ((L'.track fm).sup a) hN hj (.inl hl) (v:=.ref a) rfl (fun s2 I2=>?_) (.inr hl)
  refine wpAny_mono (hs a pins s2 _ _ _ I2 h) (fun f s3 q=>?_) fun _ _ z=>False.elim z
  cases f with
  |next=>
   obtain⟨σ',H',J,q⟩:=q
   exact forget_ok (J.unsup I.ok) hN hj hl fun s4 J4=>⟨_,H',J4,q⟩
  |brk=>
   obtain⟨σ',H',J,q⟩:=q
   exact forget_ok (J.unsup I.ok) hN hj hl fun s4 J4=>⟨_,H',J4,q⟩
  |cont=>
   obtain⟨σ',H',J,q⟩:=q
   exact forget_ok (J.unsup I.ok) hN hj hl fun s4 J4=>⟨_,H',J4,q⟩
  |ret u=>
   obtain⟨v,σ',H',J,r,q⟩:=q
   exact forget_ok (J.unsup I.ok) hN hj hl fun s4 J4=>⟨v,_,H',J4,r,q⟩
def tTry (tb:TSX)(to:TS)(th:TH):TS:=fun D σ H=>tb { D with nx:=to D } (fun σ' C d H'=>∀a,H' a=none→th a C d D σ' H') σ H
theorem ps_try {body orelse:List Stmt}{h₀:ExceptHandler}{hs:List ExceptHandler}{tb:TSX}{to:TS}{th:TH}(fm:Frm X)(hb:PSXs X body tb)(ho:PSs X orelse to)(hh:PH X (h₀ :: hs) th):PS X (.Try body (h₀ :: hs) orelse [] pos) (tTry tb to th):=by
 intro pins s σ H D I h
 refine wpAny_Try_except (wpAny_mono (hb pins s σ H _ _ I h) (fun f s1 q=>?_) fun e s1 q=>?_)
 ·cases f with
  |next=>
   obtain⟨σ',H',I',q⟩:=q
   exact ho pins s1 σ' H' D I' q
  |ret v=>exact q
  |brk=>exact q
  |cont=>exact q
 ·obtain⟨a,C,d,σ',H',rfl,L,q⟩:=q
  refine note_ok I.ok.frames fm L fun s2 L2=>?_
  exact hh pins s2 σ' H' D a C d L2 (q a L2.2.choose_spec.2.2.2.free)
end
structure ExcK (K:PySem.W.Frag) (C:Addr):Prop where
 ga:PySem.W.findIn K (.ref C) "__getattribute__"=some (some (.builtin "BaseException.__getattribute__"))
 gn:PySem.W.findIn K (.ref C) "__getattr__"=some none
 bx:PySem.W.mroIn K C (.type "BaseException")=some true
 ob:PySem.W.mroIn K C (.type "object")=some true
 ca:PySem.W.findIn K (.ref C) "__class__"=some (some (.builtin "object.__class__"))
 hn:PySem.W.specialIn K (.builtin "object.__class__") "__get__"=some (some (.builtin "getset_descriptor.__get__"))
 tk:PySem.W.takesIn K (.builtin "object.__class__")=some true
 cl:(PySem.W.clsIn K C).isSome=true
section
variable {prog:Program} {w:World} {A:Around} {E:Value→Shared→Prop} {s:Shared} {K:PySem.W.Frag} {x D:Addr} {ox:Obj} {odo:Option Obj} {name:Str}
theorem exc_check {nameV:Value}{Q:Unit→Shared→Prop}(k:ExcK K D)(X:K.In s.heap)(I:PySem.W.InstAt s.heap x ox D odo)(h:Q () s) :
  wpAny (model prog w) A (checkBuiltinCall "BaseException.__getattribute__" ⟨[.ref x,nameV],[]⟩) Q E s:=by
 have hk:builtinKind "BaseException.__getattribute__"=some .slot:=by decide +kernel
 have hsplit:splitId "BaseException.__getattribute__"=some ("BaseException","__getattribute__"):=by decide +kernel
 obtain⟨hh,g,d,t,os⟩:=s
 have L0:=I.type (M:=model prog w)
 have L1:=PySem.W.looks_mroIn (M:=model prog w) X k.bx
 have LI:PySem.W.Looks (model prog w) hh (isInstance (.ref x) (.type "BaseException")) true:=L0.andThen L1
 have ha:=PySem.F.args_bexc_ga (.ref x) nameV
 simp only[checkBuiltinCall,hk,hsplit]
 refine wpAny_bind (LI.at ?_)
 repeat (first | lk | wp_step)
 exact h
theorem exc_by {v:Value}{tk:Tok}{fill expr:Bool}{P:Value→Shared→Prop}(k:ExcK K D)(X:K.In s.heap)(I:PySem.W.InstAt s.heap x ox D odo)(hv:PySem.W.handedIn v=true)(hf:PySem.W.findObj K D odo name=some (.value v)∨∃g a,PySem.W.findObj K D odo name=some (.bind g a)∧∀(A':Around) (R:Result→Shared→Prop),R (.ok (.ret v)) s→codeAny (model prog w) A' (.call g ⟨[a,.ref x,.ref D],[]⟩) R s)(h:P v s) :
  wpAny (model prog w) A (getAttrBy (.ref x) (.str name tk) fill expr) P E s:=by
 obtain⟨hh,g,d,t,os⟩:=s
 have L0:=I.type (M:=model prog w)
 have L1:=PySem.W.looks_findIn (M:=model prog w) X k.ga
 have L2:=PySem.W.looks_findIn (M:=model prog w) X k.gn
 unfold getAttrBy
 refine wpAny_holding (wpAny_bind (L0.at (wpAny_bind (L1.at ?_))))
 show wpAny _ _ (getAttrByItsOwn (.ref x) (.str name tk) (.ref D) (.builtin "BaseException.__getattribute__") fill expr) _ _ _
 unfold getAttrByItsOwn hookBefore
 have f3:=PySem.F.attr_ValueError.ga.bind (.ref x)
 refine wpAny_bind (L2.at ?_)
 refine wpAny_bind (wpAny_attempt (wpAny_holding ?_))
 unfold callGetattribute boundAndCalled
 rw[if_neg (by cases expr<;>decide)]
 refine wpAny_bind (wpAny_of_eq f3 ?_)
 refine wpAny_call (codeAny_call_builtin PySem.F.attr_ValueError.ga.plain PySem.F.entry_bexc_ga (exc_check k X I ?_))
 unfold Builtin.«object.__getattribute__»
 refine wpAny_bind (wpAny_pure ?_)
 refine wpAny_bind (wpAny_pure ?_)
 refine wpAny_bind (L0.at ?_)
 rcases hf with hf | ⟨gg,a,hf,hc⟩
 ·refine wpAny_bind ((PySem.W.looks_find (M:=model prog w) X I hf).at ?_)
  refine wpAny_pure ?_
  show wpAny _ _ (handedOut v) _ _ _
  rw[PySem.W.handedOut_of hv]
  exact wpAny_pure h
 ·refine wpAny_bind ((PySem.W.looks_find (M:=model prog w) X I hf).at ?_)
  show wpAny _ _ (Builtin.ObjectAttr.bindTo gg a (.ref x) (.ref D)) _ _ _
  show wpAny _ _ (holding [a] (call gg [a,.ref x,.ref D]) >>= ret) _ _ _
  refine wpAny_bind (wpAny_holding (wpAny_call (hc _ _ ?_)))
  refine wpAny_pure ?_
  show wpAny _ _ (handedOut v) _ _ _
  rw[PySem.W.handedOut_of hv]
  exact wpAny_pure h
theorem exc_class {Q:Option Value→Shared→Prop}(k:ExcK K D)(X:K.In s.heap)(I:PySem.W.InstAt s.heap x ox D odo)(h:Q (some (.ref D)) { s with toks:=s.toks+1 }) :
  wpAny (model prog w) A (getAttr? (.ref x) "__class__") Q E s:=by
 have hf:PySem.W.findObj K D odo "__class__"=some (.bind (.builtin "getset_descriptor.__get__") (.builtin "object.__class__")):=by
  obtain⟨cd,hc⟩:=Option.isSome_iff_exists.mp k.cl
  unfold PySem.W.findObj
  rw[hc,Option.bind_some,k.ca,Option.bind_some]
  simp[k.hn,k.tk]
 unfold getAttr? getAttrBy?
 refine wpAny_bind (wpAny_mkText (wpAny_bind (wpAny_attempt (exc_by (s:={ s with toks:=s.toks+1 }) k X I rfl (.inr ⟨_,_,hf,fun A' R q=>PySem.W.class_get (s:={ s with toks:=s.toks+1 }) X I k.ob q⟩) ?_))))
 exact wpAny_pure h
theorem kitx_exc (k:ExcK K D):PySem.W.KitX K (.ref x) (.ref D) (fun h=>PySem.W.InstAt h x ox D odo) where
 ty:=fun _ _ _ I=>I.type
 it:=fun _ _ X _=>by
  obtain⟨cdD,hcD⟩:=Option.isSome_iff_exists.mp k.cl
  unfold PySem.W.clsIn at hcD
  split at hcD
  ·rename_i c' d' cd' sl' ho
   intro A' Q' E' s' kk q
   unfold isType loadHead
   exact wpAny_bind (wpAny_loadPart (kk _ _ (X _ _ ho)) (wpAny_pure q))
  ·cases hcD
 ne:=fun h tp dd its n sl X htp=>by
  obtain⟨cdD,hcD⟩:=Option.isSome_iff_exists.mp k.cl
  refine Bool.eq_false_iff.mpr fun q=>?_
  have e:D=tp:=Value.ref.inj (beq_iff_eq.mp q)
  subst e
  unfold PySem.W.clsIn at hcD
  split at hcD
  ·rename_i c' d' cd' sl' ho
   have z:=(X _ _ ho).symm.trans htp
   cases z
  ·cases hcD
 ca:=fun X I h=>exc_class k X I h
end
section
variable {X:Cx}
theorem exc_inst {pins:List (Addr × Obj)}{σ:St}{H:Hp}{s:Shared}{a C:Addr}(I:Inv X pins σ H s)(e:H a=some (excO a (.ref C) none)):∃ox,PySem.W.InstAt s.heap a ox C none:=by
 obtain⟨⟨o,vs,h1,h2,h3,h4⟩,_⟩:=(show ObjOk X.prog X.w H s.heap a (excO a (.ref C) none) from I.hok a _ e)
 refine⟨o,h1,h2,?_,?_⟩
 ·unfold PySem.W.notCls;rw[h4]
 ·rw[h3];trivial
theorem call_isiX:CallR X (.builtin "isinstance") (fun xs H Q=>∃a C c cv b,xs=[.ref a,c]∧H a=some (excO a (.ref C) none)∧ExcK X.K C∧RelV c cv∧(∀u,RelV c u→u=cv)∧PySem.W.kitOne X.K (.ref C) cv=some b∧Q (.bl b) H):=by
 intro pins s σ H xs us Q I r h
 obtain⟨a,C,c,cv,b,rfl,ha,k,rc,ru,e,q⟩:=h
 obtain⟨u,w',rfl,rx,rn⟩:=vals2 r
 cases (show u=Value.ref a from rx)
 cases ru w' rn
 obtain⟨ox,hi⟩:=exc_inst I ha
 exact PySem.W.kia_one (kitx_exc (ox:=ox) (odo:=none) k) I.kIn hi e (fun z=>nomatch z) fun tk=>⟨.bl b,H,I.tok tk,rfl,q⟩
theorem pe_cls {x:Str}{C:Addr}{pos:Pos}(hg:Gl X x)(hm:X.mg x=some (.ref C))(hd:(x == ("__debug__":Str))=false:=by decide):PE X (.Name x pos) (tC (.ref C)):=pe_glob hg hm rfl hd
theorem vals_refs:∀{cs:List Addr} {its:List Value},Vals (cs.map V.ref) its→its=cs.map Value.ref
 | [],_,.nil=>rfl
 |_ :: _,_,.cons r t=>by rw[show _=Value.ref _ from r,vals_refs t];rfl
theorem call_isiXT:CallR X (.builtin "isinstance") (fun xs H Q=>∃(a C tp:Addr) (cs:List Addr) (b:Bool),xs=[.ref a,.ref tp]∧H a=some (excO a (.ref C) none)∧ExcK X.K C∧H tp=some (.tup (cs.map V.ref))∧PySem.W.kitAny X.K (.ref C) (cs.map Value.ref)=some b∧Q (.bl b) H):=by
 intro pins s σ H xs us Q I r h
 obtain⟨a,C,tp,cs,b,rfl,ha,k,ht,e,q⟩:=h
 obtain⟨u,w',rfl,rx,rn⟩:=vals2 r
 cases (show u=Value.ref a from rx)
 cases (show w'=Value.ref tp from rn)
 obtain⟨ox,hi⟩:=exc_inst I ha
 obtain⟨its,rv,⟨o,h1,h2,n,h3⟩,_⟩:=I.tuple (SqT.of ht)
 have ei:=vals_refs rv
 subst ei
 obtain⟨oc,od,oda,osl⟩:=o
 dsimp only at h2 h3
 subst h2 h3
 exact PySem.W.kia_tup (kitx_exc (ox:=ox) (odo:=none) k) I.kIn hi h1 e (fun z=>nomatch z) fun tk=>⟨.bl b,H,I.tok tk,rfl,q⟩
end
def NW (K:PySem.W.Frag)(H:Hp)(x:V):Prop:=∃t,TyOf K H x t∧NotWhole t
def BadF (K:PySem.W.Frag)(H:Hp)(x y:V):Prop:=NW K H x∨(∃t,x=.int t)∧(NW K H y∨y=.int 0)
def spFracX (K:PySem.W.Frag)(CN:Addr):Sp:=fun vs H Q E=>∃x y,vs=[x,y]∧
 ((∃(t b:Int) (n:Nat),x=.int t∧y=.int b∧b≠0∧Mq.B n b∧n≤9000∧NewF H Q (Mq.red t b))∨(BadF K H x y∧E (.ref CN) none H))
def spUnder (K:PySem.W.Frag):Sp:=fun vs H Q _=>∃(a b:Addr) (p q:Mq.Q2) (n m:Nat),vs=[.ref a,.ref b]∧Fq K H a p∧Fq K H b q∧Mq.Bd n p∧Mq.Bd m q∧n+m+1≤9000∧Q (.bl (decide (p.1*q.2 < q.1*p.2))) H
def pickN (ns:List Int)(k:Nat):Int:=ns.getD k 0
def spPick (K:PySem.W.Frag):Sp:=fun vs H Q _=>∃(a:Addr) (ns:List Int) (j:Int) (k:Nat),vs=[.ref a,.int j]∧j=(k:Int)∧SqL K H a (ns.map V.int)∧ns.length≤63∧∀H',Same H H'→Q (.int (pickN ns k)) H'
theorem pick_at (ns:List Int)(k:Nat):atI (cutV (ns.map V.int) (some (k:Int)) (some ((k:Int)+1))++[V.int 0]) 0=some (.int (pickN ns k)):=by
 have e1:((k:Int)+1)=((k+1:Nat):Int):=by omega
 refine atI_nat (j:=0) ?_
 unfold cutV pickN
 rw[e1,HT.sIx_nat,HT.sIx_nat,List.length_map]
 by_cases h:k < ns.length
 ·rw[Nat.min_eq_left (by omega),Nat.min_eq_left (by omega)]
  have e2:k+1 - k=1:=by omega
  rw[e2]
  have e3:(ns.map V.int).drop k=.int ns[k] :: (ns.map V.int).drop (k+1):=by
   rw[List.drop_eq_getElem_cons (by simpa using h)]
   simp
  rw[e3]
  simp[List.getD,h]
 ·rw[Nat.min_eq_right (by omega),Nat.min_eq_right (by omega),Nat.sub_self,List.take_zero]
  simp[List.getD,h]
end L2
set_option maxHeartbeats 2000000
namespace L2
open PySem PySem.Spec PyProof.Rows Tx
section
variable {nl:Nat} {fr:List Nat} {g:TG} {tt:TT} {te:TE} {σ:St} {D:Addr} {H1:Hp} {Q:VK}
theorem comp_str {cs:List Nat}(Pv:Nat→List V→Hp→Prop)(h0:Pv 0 [] (upd H1 D (.lst [])))(hl:∀i ys H,Pv i ys H→H D=some (.lst ys))(hs:∀i ys c H,cs[i]?=some c→Pv i ys H→∀(C:Nat→List V→Hp→Prop),(∀ys H,Pv (i+1) ys H→C (i+1) ys H)→CompT nl fr g tt te σ D C i ys (.str ⟨#[c]⟩) H)(hd:∀ys H,Pv cs.length ys H→Q (.ref D) H) :
  CompW (Its (S cs)) nl fr g tt te σ D H1 Q:=by
 refine⟨fun i m ys H=>m=cs.length - i∧i≤cs.length∧Pv i ys H,⟨cs.length,by simp,Nat.zero_le _,h0⟩,?_⟩
 rintro i m ys H ⟨rfl,hi,p⟩
 refine⟨hl i ys H p,?_⟩
 by_cases hlt:i < cs.length
 ·refine .inr ⟨by show i < (S cs).cps.size;rw[S_size];exact hlt,fun x H' y=>?_⟩
  obtain⟨e,c,hc,y⟩:=y
  subst e y
  have hc':cs[i]?=some c:=by rw[← S_list cs];simpa using hc
  exact hs i ys c _ hc' p (fun j zs Hz=>∃m',m' < cs.length - i∧m'=cs.length - j∧j≤cs.length∧Pv j zs Hz) fun zs Hz z=>⟨cs.length - (i+1),by omega,rfl,hlt,z⟩
 ·have e:i=cs.length:=by omega
  subst e
  exact .inl ⟨by show (S cs).cps.size≤_;rw[S_size];exact Nat.le_refl _,hd ys H p⟩
end
def digB (c:Nat):Bool:=decide (48≤c∧c≤57)
def figB (cs:List Nat):Bool:=decide (1≤cs.length∧cs.length≤200) && cs.all digB
theorem figB_iff (cs:List Nat):figB cs=true↔Figs cs:=by
 unfold figB Figs digB NumText.AllDigits
 simp only[Bool.and_eq_true,decide_eq_true_eq,List.all_eq_true]
 exact⟨fun h=>⟨h.1.1,h.1.2,h.2⟩,fun h=>⟨⟨h.1,h.2.1⟩,h.2.2⟩⟩
theorem in_figs (c:Nat):(!(Builtin.Str.occurrences "0123456789" ⟨#[c]⟩ 0 ("0123456789":Str).length 1).isEmpty)=digB c:=by
 rw[StrLaws.found_one]
 unfold digB
 rw[Bool.eq_iff_iff,decide_eq_true_eq,decide_eq_true_eq]
 have e:("0123456789":Str).cps.toList=[48,49,50,51,52,53,54,55,56,57]:=by decide +kernel
 rw[e]
 simp only[List.mem_cons,List.not_mem_nil,or_false]
 omega
theorem itx_len {i:Int}{n:Nat}(h:Mq.B n i)(hn:n≤12900):(itx i).length≤4301:=by
 have h1:=lt_big h hn
 have h2:(dg i.natAbs).length≤4300:=(dg_len (by decide)).mpr h1
 unfold itx
 split
 ·rw[List.length_cons];omega
 ·omega
theorem b200 {i:Int}(h:i.natAbs < 10 ^ 200):Mq.B 700 i:=by
 have h1:(10:Nat) ^ 200≤2 ^ 700:=by
  have:((10:Nat) ^ 2) ^ 100≤(2 ^ 7) ^ 100:=Nat.pow_le_pow_left (by decide) _
  rw[← Nat.pow_mul,← Nat.pow_mul] at this
  exact this
 exact Nat.lt_of_lt_of_le h h1
def stk (cs:List Nat):Str:=if 47∈cs then "/" else Str.empty
theorem part_47 (cs:List Nat):∃tl,Txt.partition (S cs) "/"=(S (ahead 47 cs),stk cs,S tl)∧(47∈cs→tl=behind 47 cs):=by
 unfold stk
 rw[show ("/":Str)=⟨#[47]⟩ by decide +kernel]
 by_cases h:47∈cs
 ·rw[if_pos h]
  exact⟨_,part_yes h,fun _=>rfl⟩
 ·rw[if_neg h,ahead_self h]
  exact⟨[],part_no h,fun z=>absurd z h⟩
theorem below_len {cs:List Nat}(h:cs.length≤1000000):(belowOf cs).length≤1000000:=by
 unfold belowOf
 have:=(ahead_len 47 cs).2
 split
 ·omega
 ·simp
def spFigs:Sp:=fun vs H Q _=>∃cs,vs=[.str (S cs)]∧cs.length≤1000000∧∀H',Same H H'→Q (.bl (figB cs)) H'
def spNosign:Sp:=fun vs H Q _=>∃cs,vs=[.str (S cs)]∧cs.length≤1000000∧Q (.str (S (nosign cs))) H
def spShow (K:PySem.W.Frag):Sp:=fun vs H Q _=>∃(a:Addr) (p:Mq.Q2) (n:Nat),vs=[.ref a]∧Fq K H a p∧Mq.Bd n p∧n≤12900∧Q (.str (S (shw p))) H
def NoTx (K:PySem.W.Frag)(H:Hp)(x:V):Prop:=∃t,TyOf K H x t∧(t=.type "NoneType"∨t=.type "bool"∨t=.type "int"∨t=.type "tuple"∨t=.type "list")
def spRead (K:PySem.W.Frag)(CN:Addr):Sp:=fun vs H Q E=>∃x,vs=[x]∧
 ((∃cs,x=.str (S cs)∧cs.length≤1000000∧(∀p,Wr p cs→NewF H Q p)∧((¬∃p,Wr p cs)→∀H',Same H H'→E (.ref CN) none H'))∨(NoTx K H x∧E (.ref CN) none H))
end L2
namespace L2
open PySem PySem.Spec PyProof.Rows PySem.Builtin.Str PySem.SeqAt
variable {X:Cx}
def rSplit:V→List V→Hp→VK→Prop:=fun x vs H Q=>∃a b,x=.str a∧vs=[.str b]∧b.length≠0∧a.length+2≤sizeLine∧∀p,H p=none→Q (.ref p) (upd H p (.lst ((Txt.split a b).map V.str)))
theorem vals_strs:∀(l:List (Str × Tok)),Vals ((l.map (·.1)).map V.str) (strValues l)
 | []=>.nil
 | (a,t) :: l=>.cons ⟨t,rfl⟩ (vals_strs l)
theorem mt_split:MtR X "str.split" rSplit:=by
 intro pins s σ H x vs v us Q I rx rv h
 obtain⟨a,b,rfl,rfl,hb,hz,q⟩:=h
 obtain⟨t,rfl⟩:=rx
 obtain⟨u,rfl,t',rfl⟩:=vals1 rv
 have hb':(b.length == 0)=false:=by simpa using hb
 have hle:=split_le a b
 have fin:∀(l:List (Str × Tok)) (k:Nat),l.map (·.1)=Txt.split a b→EP X pins σ Q (.ref s.heap.objs.size) { s with heap:=s.heap.push { cls:=.type "list",data:=.seq (strValues l).toArray },toks:=k }:=fun l k e=>
  ⟨.ref s.heap.objs.size,_,I.laid (t':=k) (fun b o e=>Heap.get?_push_of_some _ e) (Nat.le_refl _) (show ObjOk X.prog X.w _ _ _ (.lst ((Txt.split a b).map V.str)) from
   ⟨by rw[List.length_map];omega,_,_,(by rw[← e];exact vals_strs l),Heap.get?_push_size _ rfl⟩),rfl,q _ (I.hok.fresh (Nat.le_refl _))⟩
 cases h1:(decide (a.length < b.length) || decide (strKind a < strKind b))
 ·cases hf:(occurrences a b 0 a.length (a.length+1)).isEmpty
  ·have es:Txt.split a b=partsBetween a (occurrences a b 0 a.length (a.length+1)) b.length:=(if_neg (ne_true_of_eq_false h1)).trans (if_neg (ne_true_of_eq_false hf))
   refine call_meets F.slot_str_split (typeIs_str _ _ _) F.entry_str_split (F.args_str_split_2 _ _) (meets_str_split_sep a b t t' h1 hb' hf (by omega) (by rw[← es];omega)) ?_
   show wants _ _ _ { s with toks:=_,heap:=s.heap.push { cls:=.type "list",data:=.seq (strsFrom s.toks (partsBetween a (occurrences a b 0 a.length (a.length+1)) b.length)).toArray } }
   rw[strsFrom_eq]
   exact fin (numbered s.toks _) _ ((numbered_texts _ _).trans es.symm)
  ·exact call_meets F.slot_str_split (typeIs_str _ _ _) F.entry_str_split (F.args_str_split_2 _ _) (meets_str_split_not_found a b t t' h1 hb' hf)
    (fin [(a,t)] s.toks ((if_neg (ne_true_of_eq_false h1)).trans (if_pos hf)).symm)
 ·exact call_meets F.slot_str_split (typeIs_str _ _ _) F.entry_str_split (F.args_str_split_2 _ _) (meets_str_split_cannot_occur a b t t' h1)
   (fin [(a,t)] s.toks (if_pos h1).symm)
theorem strs_are:∀{ns:List Str} {us:List Value},Vals (ns.map V.str) us→StrsAre us ns
 | [],_,.nil=>.nil
 |n :: ns,_,.cons ⟨t,e⟩ q=>by subst e;exact .cons _ _ (strs_are q)
theorem isStr_at (k:Str):∀{vs:List Value} {ns:List Str},StrsAre vs ns→∀(j:Nat) (h1:j < vs.length) (h2:j < ns.length),isStrOf k vs[j]=(ns[j] == k)
 |_,_,.cons n t _,0,_,_=>rfl
 |_,_,.cons n t r,j+1,h1,h2=>isStr_at k r j (Nat.lt_of_succ_lt_succ h1) (Nat.lt_of_succ_lt_succ h2)
theorem StrsAre_len:∀{vs:List Value} {ns:List Str},StrsAre vs ns→vs.length=ns.length
 |_,_,.nil=>rfl
 |_,_,.cons n t r=>by rw[List.length_cons,List.length_cons,StrsAre_len r]
def rIndexS (K:PySem.W.Frag):V→List V→Hp→VK→Prop:=fun x vs H Q=>∃(p:Addr) (ns:List Str) (k:Str) (j:Nat),x=.ref p∧vs=[.str k]∧SqL K H p (ns.map V.str)∧ns[j]?=some k∧(∀i,i < j→ns[i]?≠some k)∧j≤1000∧Q (.int (j:Nat)) H
theorem mt_indexS:MtR X "list.index" (rIndexS X.K):=by
 intro pins s σ H x xs v us Q I rx rv h
 obtain⟨p,ns,k,j,rfl,rfl,hq,hk,hno,hj,q⟩:=h
 cases rx
 obtain⟨u,rfl,t,rfl⟩:=vals1 rv
 obtain⟨its,r,pl,hz⟩:=I.list hq
 have hi:=strs_are r
 have hlen:=StrsAre_len hi
 obtain⟨hjn,hjk⟩:=List.getElem?_eq_some_iff.mp hk
 obtain⟨⟨cls,dd,data,sl⟩,ho,hc,n,hd⟩:=id pl.isList
 simp only at hc hd
 subst hc hd
 refine call_meets PySem.F.slot_list_index ⟨_,ho,rfl⟩ PySem.F.entry_list_index (PySem.F.args_list_index_2 _ _)
  (list_indexAt p its.toArray n dd sl (.str k t) (isStrOf k) j (by simpa[hlen] using hjn) (by omega) ?_ ?_) ⟨ho,fun y hy=>(eq_isStrOf k t hi y (by simpa using hy)).at _ _,⟨.int _,H,I.tok _,⟨_,rfl⟩,q⟩⟩
 ·show isStrOf k its[j]=true
  rw[isStr_at k hi _ (by omega) hjn,hjk]
  simp
 ·intro i hjs hlt
  show isStrOf k its[i]=false
  have hi2:i < ns.length:=by simp at hjs;omega
  rw[isStr_at k hi i (by simpa using hjs) hi2]
  have:=hno i hlt
  rw[List.getElem?_eq_getElem hi2] at this
  simpa using this
theorem mt_indexSK {X:Cx}{K:PySem.W.Frag}(h:X.K=K):MtR X "list.index" (rIndexS K):=by subst h;exact mt_indexS
theorem app_sep {c:Nat}:∀{x y A B:List Nat},c∉x→c∉y→x++c :: A=y++c :: B→x=y∧A=B
 | [],[],_,_,_,_,e=>⟨rfl,by simpa using e⟩
 | [],b :: y,_,_,_,h2,e=>by
  have:c=b:=by simpa using congrArg List.head? e
  exact absurd (List.mem_cons.mpr (.inl this)) h2
 |a :: x,[],_,_,h1,_,e=>by
  have:a=c:=by simpa using congrArg List.head? e
  exact absurd (List.mem_cons.mpr (.inl this.symm)) h1
 |a :: x,b :: y,A,B,h1,h2,e=>by
  have e':a=b∧x++c :: A=y++c :: B:=by simpa using e
  obtain⟨r1,r2⟩:=app_sep (fun z=>h1 (List.mem_cons_of_mem _ z)) (fun z=>h2 (List.mem_cons_of_mem _ z)) e'.2
  exact⟨by rw[e'.1,r1],r2⟩
def jnc (c:Nat):List (List Nat)→List Nat
 | []=>[]
 | [x]=>x
 |x :: y :: r=>x++c :: jnc c (y :: r)
theorem jnc_inj {c:Nat}:∀{xs ys:List (List Nat)},xs≠[]→ys≠[]→(∀x∈xs,c∉x)→(∀y∈ys,c∉y)→jnc c xs=jnc c ys→xs=ys
 | [],_,h,_,_,_,_=>absurd rfl h
 |_ :: _,[],_,h,_,_,_=>absurd rfl h
 | [x],[y],_,_,_,_,e=>by rw[show x=y from e]
 | [x],y :: z :: r,_,_,h1,_,e=>by
  have e:x=y++c :: jnc c (z :: r):=e
  exact absurd (by rw[e];simp) (h1 x (by simp))
 |x :: z :: r,[y],_,_,_,h2,e=>by
  have e:x++c :: jnc c (z :: r)=y:=e
  exact absurd (by rw[← e];simp) (h2 y (by simp))
 |x :: z :: r,y :: w :: q,_,_,h1,h2,e=>by
  have e:x++c :: jnc c (z :: r)=y++c :: jnc c (w :: q):=e
  obtain⟨r1,r2⟩:=app_sep (h1 x (by simp)) (h2 y (by simp)) e
  rw[r1,jnc_inj (xs:=z :: r) (ys:=w :: q) (by simp) (by simp) (fun a ha=>h1 a (List.mem_cons_of_mem _ ha)) (fun a ha=>h2 a (List.mem_cons_of_mem _ ha)) r2]
theorem join_jnc (c:Nat):∀xs:List Str,(Str.join ⟨#[c]⟩ xs).cps.toList=jnc c (xs.map fun x=>x.cps.toList)
 | []=>rfl
 | [x]=>rfl
 |x :: y :: r=>by
  have ih:=join_jnc c (y :: r)
  show ((x++⟨#[c]⟩++Str.join ⟨#[c]⟩ (y :: r):Str)).cps.toList=x.cps.toList++c :: jnc c ((y :: r).map fun x=>x.cps.toList)
  rw[← ih]
  show ((x.cps++#[c])++(Str.join ⟨#[c]⟩ (y :: r)).cps).toList=_
  simp
theorem split_is {c:Nat}{xs:List (List Nat)}(h0:xs≠[])(h:∀x∈xs,c∉x):Txt.split (Tx.S (jnc c xs)) ⟨#[c]⟩=xs.map Tx.S:=by
 have j:=StrLaws.join_split (Tx.S (jnc c xs)) ⟨#[c]⟩
 have f:=StrLaws.split_free (Tx.S (jnc c xs)) c
 have p:=split_pos (Tx.S (jnc c xs)) ⟨#[c]⟩
 generalize Txt.split (Tx.S (jnc c xs)) ⟨#[c]⟩=ys at j f p ⊢
 have e:=congrArg (fun s:Str=>s.cps.toList) j
 simp only[join_jnc,Tx.S_list] at e
 have:=jnc_inj (c:=c) (xs:=ys.map fun x=>x.cps.toList) (ys:=xs) (fun z=>by rw[List.map_eq_nil_iff] at z;rw[z] at p;simp at p) h0 (fun x hx=>by
  obtain⟨y,hy,rfl⟩:=List.mem_map.mp hx
  exact f y hy) h e
 rw[← this,List.map_map]
 conv=>lhs;rw[← List.map_id ys]
 exact List.map_congr_left fun y _=>Tx.S_self y
end L2
namespace L2
open PySem PySem.Spec PyProof.Rows
section
variable {X:Cx}
def rInsert:V→List V→Hp→VK→Prop:=fun x vs H Q=>∃(l:Addr) (xs:List V) (k:Nat) (i:Int) (y:V),x=.ref l∧vs=[.int i,y]∧i=(k:Int)∧k≤xs.length∧H l=some (.lst xs)∧xs.length < sizeLine∧Q .non (upd H l (.lst (xs.take k++y :: xs.drop k)))
theorem mt_insert:MtM X "list.insert" rInsert:=by
 intro pins s σ H x vs v us Q I rx rv h
 obtain⟨l,xs,k,i,y,rfl,rfl,hik,hk,hH,hz,q⟩:=h
 cases rx
 obtain⟨u1,u2,rfl,⟨t,rfl⟩,ru⟩:=vals2 rv
 obtain⟨z,its,n,r,hl,e⟩:=I.lstM hH
 have hs:sizeLine=16777216:=sizeLine_eq
 have hfit:¬(!Builtin.List.listFitsIndex i)=true:=by
  rw[fitsIndex_both (by omega) (by omega)]
  exact Bool.false_ne_true
 have hM:=AutoSeq1.list_insert_list_int_val_1 l its.toArray n i t u2 hfit (by rw[List.size_toArray];omega)
 refine call_meets F.slot_list_insert ⟨_,e,rfl⟩ F.entry_list_insert (F.args_list_insert_3 (Value.ref l) (Value.int i t) u2) hM ⟨e,?_⟩
 refine⟨.non,_,I.lset (its':=its.take k++u2 :: its.drop k) hH e ?_ ((r.take k).append (.cons ru (r.drop k))) ?_,rfl,q⟩
 ·have ek:(if i < 0 then (i+(its.toArray.size:Int)).toNat else min i.toNat its.toArray.size)=k:=by
   rw[if_neg (by omega),List.size_toArray]
   omega
  show (its.toArray.extract 0 (if i < 0 then (i+(its.toArray.size:Int)).toNat else min i.toNat its.toArray.size)).push u2++its.toArray.extract (if i < 0 then (i+(its.toArray.size:Int)).toNat else min i.toNat its.toArray.size)=_
  rw[ek]
  apply Array.ext'
  simp[List.take_of_length_le]
 ·rw[List.length_append,List.length_cons,List.length_take,List.length_drop]
  omega
end
inductive TyQ (K:PySem.W.Frag) (H:Hp):V→Value→Prop where
 |of {x:V} {t:Value} (h:TyOf K H x t):TyQ K H x t
 |tup {a:Addr} {xs:List V} (h:SqT K H a xs):TyQ K H (.ref a) (.type "tuple")
 |lst {a:Addr} {xs:List V} (h:SqL K H a xs):TyQ K H (.ref a) (.type "list")
section
variable {X:Cx} {pins:List (Addr × Obj)} {σ:St} {H:Hp} {s:Shared} {A:Around} {E:Value→Shared→Prop} {Q:Value→Shared→Prop} {c:Value} {b:Bool}
theorem isinst_okQ {x:V}{u t:Value}(I:Inv X pins σ H s)(rx:RelV x u)(ty:TyQ X.K H x t)(e:PySem.W.kitOne X.K t c=some b)(h:∀tk,Q (.bool b) { s with toks:=tk }) :
  wpAny (model X.prog X.w) A (call (.builtin "isinstance") [u,c]) Q E s:=by
 cases ty with
 |of ty=>exact isinst_ok I rx ty e h
 | @tup a xs ht=>
  cases (show u=Value.ref a from rx)
  obtain⟨its,_,p,_⟩:=I.tuple ht
  obtain⟨o,h1,h2,_⟩:=p
  exact PySem.W.kia_one PySem.W.kitx_tuple I.kIn ⟨o,h1,h2⟩ e (fun z=>nomatch z) h
 | @lst a xs ht=>
  cases (show u=Value.ref a from rx)
  obtain⟨its,_,p,_⟩:=I.list ht
  obtain⟨o,h1,h2,_⟩:=p.isList
  exact PySem.W.kia_one PySem.W.kitx_list I.kIn ⟨_,h1,h2⟩ e (fun z=>nomatch z) h
end
section
variable {X:Cx}
theorem call_isiQ:CallR X (.builtin "isinstance") (fun xs H Q=>∃x n t b,xs=[x,.ty n]∧TyQ X.K H x t∧PySem.W.kitOne X.K t (.type n)=some b∧Q (.bl b) H):=by
 intro pins s σ H vs us Q I rv h
 obtain⟨x,n,t,b,rfl,ty,e,q⟩:=h
 obtain⟨u,u2,rfl,r1,r2⟩:=vals2 rv
 cases (show u2=Value.type n from r2)
 exact isinst_okQ I r1 ty e fun tk=>⟨.bl b,H,I.tok tk,rfl,q⟩
theorem pe_isiQ {i:Nat}{x T:Str}{T':String}{p1 p2 p3 pos:Pos}(hN:X.N[i]?=some x)(hv:Vis X.env.scope x)(b:X.mg "isinstance"=none)(b2:X.mg T=none)(g1:Gl X "isinstance")(g2:Gl X T)(hT:bootBuiltins T=some (.type T'))(hd:(x == ("__debug__":Str))=false:=by decide)(hcd:(x == ("__classdict__":Str))=false:=by decide)(hTn:T≠"__name__":=by decide)(hTd:(T == ("__debug__":Str))=false:=by decide)(he:starEach [.Name x p2,.Name T p3] X.env=(false,eval (.Name x p2) X.env) :: starEach [.Name T p3] X.env:=by rfl)(he2:starEach [.Name T p3] X.env=(false,eval (.Name T p3) X.env) :: starEach [] X.env:=by rfl)(hpl:(backTo pos (starEach [.Name T p3] X.env)).any (·.1)=false:=by rfl) :
  PE X (.Call (.Name "isinstance" p1) [.Name x p2,.Name T p3] [] pos) (fun σ H Q=>∃v t b,σ[i]?=some (some v)∧TyQ X.K H v t∧PySem.W.kitOne X.K t (.type T')=some b∧Q (.bl b) H):=by
 have h:=pe_callB (X:=X) (pos:=pos) (p:=p1) call_isiQ g1 b PyProof.Rows.boot_isinstance (pa_cons (pe_var (i:=i) (pos:=p2) hN hv hd hcd) (pa_cons (pe_bltn (v:=.ty T') (pos:=p3) g2 b2 hT rfl hTn hTd) pa_nil he2) he) (by decide) (by decide) he hpl
 intro pins s σ H Q I q
 obtain⟨v,t,bb,h1,h2,h3,h4⟩:=q
 exact h pins s σ H Q I ⟨v,h1,v,T',t,bb,rfl,h2,h3,h4⟩
end
theorem SqT.upd {K:PySem.W.Frag}{H:Hp}{a l:Addr}{xs ys:List V}{o:HO}(h:SqT K H a xs)(hl:H l=some (.lst ys)):SqT K (L2.upd H l o) a xs:=by
 rcases h with (h | ⟨u,h⟩) | h
 ·exact .inl (.inl (by rw[upd_ne (ne_of h hl (fun z=>by cases z))];exact h))
 ·exact .inl (.inr ⟨u,by rw[upd_ne (ne_of h hl (fun z=>by cases z))];exact h⟩)
 ·exact .inr h
theorem B_of {n:Nat}{i:Int}(lo:-(2 ^ n:Int) < i)(hi:i < 2 ^ n):Mq.B n i:=by
 unfold Mq.B
 have e:((2 ^ n:Nat):Int)=2 ^ n:=by simp
 omega
section
variable {X:Cx}
theorem call_isiO:CallR X (.builtin "isinstance") (fun xs H Q=>∃x C t b,xs=[x,.ref C]∧TyQ X.K H x t∧PySem.W.kitOne X.K t (.ref C)=some b∧Q (.bl b) H):=by
 intro pins s σ H xs us Q I r h
 obtain⟨x,C,t,b,rfl,ty,e,q⟩:=h
 obtain⟨u,w',rfl,rx,rn⟩:=vals2 r
 cases (show w'=Value.ref C from rn)
 exact isinst_okQ I rx ty e fun tk=>⟨.bl b,H,I.tok tk,rfl,q⟩
end
def tMethD {ι:Type}(C:ι→Addr)(m:Str)(sp:ι→Sp)(dvs:List V)(E:XK)(ta:TE)(t:TA):TE:=fun σ H Q=>ta σ H fun x H1=>∃i a dx fs,x=.ref a∧H1 a=some (.ins (C i) dx fs)∧fs.lookup m=none∧
 t σ H1 fun vs H2=>sp i (x :: (vs++dvs)) H2 Q E
section
variable {X:Cx} {ι:Type} {C f:ι→Addr} {fd:ι→FuncData} {sp:ι→Sp} {m:Str} {CX:CXT} {k:Nat} {ps:List Str} {ds:List Value} {dvs:List V} {E:XK} {o e:Expr} {es:List Expr} {ta:TE} {t:TA} {apos pos:Pos}
theorem pe_methD {pl:Sem Bool}(he:PE X o ta)(c:∀i,Cls X.K (C i))(hm:∀i,Meth X.K (C i) m (f i))(F:∀i,FnOk X.prog X.w X.K X.mg X.base CX k (f i) (fd i) ps (sp i))(hr:Room k X.A)(hb:∀i,Binds X.K (fd i) ps ds)(hd:Vals dvs ds)(hx:Passes CX X E)(ha:PA X (e :: es) t)(hst:starEach (e :: es) X.env=(false,eval e X.env) :: starEach es X.env:=by rfl)(hpl:(backTo pos (starEach es X.env)).any (·.1)=false:=by rfl)(ht:eval (.Call (.Attribute o m apos) (e :: es) [] pos) X.env=(do
   let ov ← eval o X.env
   standAt apos.atName
   let (f,first) ← holding [ov] (getMethod ov m pl)
   callWith pos f first (backTo pos (starEach (e :: es) X.env)) (backToKw pos (keywordEach [] X.env))):=by rfl) :
  PE X (.Call (.Attribute o m apos) (e :: es) [] pos) (tMethD C m sp dvs E ta t):=by
 intro pins s σ H Q I h
 refine PySem.W.methodCall_KW (pl:=pl) (thn (he pins s σ H _ I h) fun u s1 ⟨x,H1,I1,rx,i,a,dx,fs,ex,ea,l,q⟩=>?_) ht
 subst ex
 obtain rfl:u=Value.ref a:=rx
 refine getmeth_ok I1 ea (c i) (hm i) l ?_
 refine PySem.W.callWith_K (first:=[.ref a]) (h₀:=X.base) I.ok.mod.kin (hm i).kp (thn (ha pos pins s1 σ H1 _ I1 q) fun us s2 ⟨vs,H2,I2,r,q2⟩=>⟨I2.kIn,?_⟩) hst hpl
 exact run_fn (us:=.ref a :: us) (vs:=.ref a :: vs) (F i) hr (hb i) hd hx I2 (.cons rfl r) q2
theorem pe_methD0 {pl:Sem Bool}(he:PE X o ta)(c:∀i,Cls X.K (C i))(hm:∀i,Meth X.K (C i) m (f i))(F:∀i,FnOk X.prog X.w X.K X.mg X.base CX k (f i) (fd i) ps (sp i))(hr:Room k X.A)(hb:∀i,Binds X.K (fd i) ps ds)(hd:Vals dvs ds)(hx:Passes CX X E)(ht:eval (.Call (.Attribute o m apos) [] [] pos) X.env=(do
   let ov ← eval o X.env
   standAt apos.atName
   let (f,first) ← holding [ov] (getMethod ov m pl)
   callWith pos f first (backTo pos (starEach [] X.env)) (backToKw pos (keywordEach [] X.env))):=by rfl) :
  PE X (.Call (.Attribute o m apos) [] [] pos) (tMethD C m sp dvs E ta tNil):=by
 intro pins s σ H Q I h
 refine PySem.W.methodCall_KW (pl:=pl) (thn (he pins s σ H _ I h) fun u s1 ⟨x,H1,I1,rx,i,a,dx,fs,ex,ea,l,q⟩=>?_) ht
 subst ex
 obtain rfl:u=Value.ref a:=rx
 refine getmeth_ok I1 ea (c i) (hm i) l ?_
 exact PySem.W.callWith_K0 (first:=[.ref a]) I1.kIn (hm i).kp (run_fn (us:=[.ref a]) (vs:=[.ref a]) (F i) hr (hb i) hd hx I1 (.cons rfl .nil) q)
end
inductive Kd where
 |pc | pu | ho
 deriving DecidableEq
def Kd.wd:Kd→Str
 | .pc=>"piece"
 | .pu=>"push"
 | .ho=>"hold"
def Kd.cn:Kd→Str
 | .pc=>"Piece"
 | .pu=>"Push"
 | .ho=>"Hold"
theorem Kd.wd_inj {k j:Kd}(h:k.wd=j.wd):k=j:=by
 cases k<;>cases j<;>first | rfl | exact absurd h (by decide +kernel)
theorem fsg:¬(("start":Str) = "goal"):=by decide +kernel
theorem fsz:¬(("start":Str) = "size"):=by decide +kernel
theorem fgz:¬(("goal":Str) = "size"):=by decide +kernel
def rflds (s g z:V):List (Str × V):=putF "size" z (putF "goal" g (putF "start" s []))
theorem rflds_start (s g z:V):(rflds s g z).lookup ("start":Str)=some s:=by
 unfold rflds
 rw[lookup_putF,if_neg fsz,lookup_putF,if_neg fsg,lookup_putF,if_pos rfl]
theorem rflds_goal (s g z:V):(rflds s g z).lookup ("goal":Str)=some g:=by
 unfold rflds
 rw[lookup_putF,if_neg fgz,lookup_putF,if_pos rfl]
theorem rflds_size (s g z:V):(rflds s g z).lookup ("size":Str)=some z:=by
 unfold rflds
 rw[lookup_putF,if_pos rfl]
theorem rflds_no (s g z:V){m:Str}(h1:¬m = "start")(h2:¬m = "goal")(h3:¬m = "size"):(rflds s g z).lookup m=none:=by
 unfold rflds
 rw[lookup_putF,if_neg h3,lookup_putF,if_neg h2,lookup_putF,if_neg h1]
 rfl
def Rw (CK:Kd→Addr)(H:Hp)(x:Addr)(k:Kd)(s g z:V):Prop:=∃dx,H x=some (.ins (CK k) dx (rflds s g z))
structure RT (K:PySem.W.Frag) (mg:Str→Option Value) (CR:Addr) (CK:Kd→Addr):Prop where
 cl:∀k,Cls K (CK k)
 nS:∀k,NoAttr K (CK k) "start"
 nG:∀k,NoAttr K (CK k) "goal"
 nZ:∀k,NoAttr K (CK k) "size"
 t1:∀k,PySem.W.findIn K (.ref (CK k)) "__class__"=some (some (.builtin "object.__class__"))
 t2:PySem.W.specialIn K (.builtin "object.__class__") "__get__"=some (some (.builtin "getset_descriptor.__get__"))
 t3:PySem.W.takesIn K (.builtin "object.__class__")=some true
 t4:∀k,PySem.W.mroIn K (CK k) (.type "object")=some true
 isR:∀k,PySem.W.kitOne K (.ref (CK k)) (.ref CR)=some true
 isK:∀k j,PySem.W.kitOne K (.ref (CK k)) (.ref (CK j))=some (decide (k=j))
 mR:mg "Row"=some (.ref CR)
 mK:∀k,mg (Kd.cn k)=some (.ref (CK k))
section
variable {K:PySem.W.Frag} {mg:Str→Option Value} {CR:Addr} {CK:Kd→Addr} {H:Hp} {x:Addr} {k:Kd} {s g z:V}
theorem Rw.new {C x dx:Addr}{fs:List (Str × V)}(h1:H x=none)(h2:H dx=none)(ne:dx≠x):Same H (L2.upd (L2.upd H dx (.own x)) x (.ins C dx fs)):=fun b o e=>by
 rw[upd_ne (ne_of_none e h1),upd_ne (ne_of_none e h2)];exact e
end
def spRInit (CK:Kd→Addr):Sp:=fun vs H Q _=>∃(x dx:Addr) (k:Kd) (s g z:V),vs=[.ref x,s,g,z]∧H x=some (.ins (CK k) dx [])∧Q .non (upd H x (.ins (CK k) dx (rflds s g z)))
def spWord (k:Kd):Sp:=fun vs H Q _=>∃x,vs=[x]∧Q (.str k.wd) H
def spRTold (CK:Kd→Addr):Sp:=fun vs H Q _=>∃(x:Addr) (k:Kd) (s g z:V),vs=[.ref x]∧Rw CK H x k s g z∧∀t,H t=none→Q (.ref t) (upd H t (.tup [.str k.wd,s,g,z]))
def NewR (CK:Kd→Addr)(H:Hp)(Q:VK)(k:Kd)(s g z:V):Prop:=∀x H',Same H H'→H x=none→Rw CK H' x k s g z→Q (.ref x) H'
theorem rd_eqS {K:PySem.W.Frag}{H:Hp}{x y:V}{d:PyData}{neg:Bool}{Q:VK}(h1:DatV K H x d)(h2:DatV K H y d)(hl:d.canLay0=true)(hd:d.depth≤16)(z:Q (.bl (!neg)) H):rDat K neg x y H Q:=by
 refine⟨d,d,h1,h2,hl,hl,by omega,?_⟩
 have e:PyData.eqv d d=true:=PySem.SeqAt.eqv_refl _ hl
 rw[e]
 cases neg<;>exact z
def rd4 (w:Str)(i j:Int)(p:Mq.Q2):PyData:=.tuple [.str w,.int i,.int j,qd p]
theorem rd4_lay {w:Str}(h:(PyData.str w).canLay0=true)(i j:Int)(p:Mq.Q2):(rd4 w i j p).canLay0=true:=by
 show ((PyData.str w).canLay0 && ((PyData.int i).canLay0 && ((PyData.int j).canLay0 && ((qd p).canLay0 && true))))=true
 rw[h];rfl
theorem Kd.lay (k:Kd):(PyData.str k.wd).canLay0=true:=by cases k<;>decide +kernel
theorem ifT {c:Bool}{A B:Prop}(h:c=true)(x:A):if c=true then A else B:=by rw[if_pos h];exact x
theorem ifF {c:Bool}{A B:Prop}(h:c=false)(x:B):if c=true then A else B:=by rw[if_neg (by rw[h];decide)];exact x
theorem rd4_dat {K:PySem.W.Frag}{H:Hp}{t a:Addr}{w:Str}{i j:Int}{p:Mq.Q2}(h:SqT K H t [.str w,.int i,.int j,.ref a])(f:Fq K H a p):DatV K H (.ref t) (rd4 w i j p):=.tup h (.cons (.str _) (.cons (.int _) (.cons (.int _) (.cons f.dat .nil))))
theorem dec_wd (k j:Kd):decide (V.str k.wd=V.str j.wd)=decide (k=j):=by
 by_cases h:k=j
 ·subst h;simp
 ·rw[decide_eq_false h]
  exact decide_eq_false fun z=>h (Kd.wd_inj (V.str.inj z))
end L2
namespace L2
theorem all3 {p:Kd→Prop}(a:p .pc)(b:p .pu)(c:p .ho):∀k,p k:=fun k=>by cases k<;>assumption
theorem kit_self (K:PySem.W.Frag)(t:PySem.Value):PySem.W.kitOne K t t=some true:=by unfold PySem.W.kitOne;rw[if_pos (beq_self_eq_true _)]
def kd3 {α:Type}(a b c:α):Kd→α
 | .pc=>a
 | .pu=>b
 | .ho=>c
end L2
set_option maxHeartbeats 1000000
namespace L2
open PySem PySem.Spec PyProof.Rows
section
variable {κ:Type} [DecidableEq κ]
def valV (kvs:List (κ × V))(k:κ):Option V:=(kvs.find? fun kv=>decide (kv.1=k)).map (·.2)
def putK (kvs:List (κ × V))(k:κ)(v:V):List (κ × V):=
 if (kvs.any fun kv=>decide (kv.1=k))=true then kvs.map (fun kv=>if kv.1=k then (kv.1,v) else kv) else kvs++[(k,v)]
theorem valV_pos {p:κ × V}{r:List (κ × V)}{k:κ}(e:p.1=k):valV (p :: r) k=some p.2:=by simp[valV,List.find?_cons,e]
theorem valV_neg {p:κ × V}{r:List (κ × V)}{k:κ}(e:¬p.1=k):valV (p :: r) k=valV r k:=by simp[valV,List.find?_cons,e]
theorem valV_any (k:κ):∀kvs:List (κ × V),(kvs.any fun kv=>decide (kv.1=k))=(valV kvs k).isSome
 | []=>rfl
 |p :: r=>by
  rw[List.any_cons]
  by_cases e:p.1=k
  ·simp only[valV_pos e,decide_eq_true e,Bool.true_or,Option.isSome_some]
  ·rw[valV_neg e,decide_eq_false e,Bool.false_or];exact valV_any k r
theorem valV_map (k j:κ)(y:V):∀kvs:List (κ × V),valV (kvs.map fun kv=>if kv.1=k then (kv.1,y) else kv) j=(valV kvs j).map fun x=>if j=k then y else x
 | []=>rfl
 |p :: r=>by
  have ih:=valV_map k j y r
  rw[List.map_cons]
  by_cases h:p.1=k
  ·rw[if_pos h]
   by_cases e:p.1=j
   ·rw[valV_pos (p:=(p.1,y)) e,valV_pos e,Option.map_some,if_pos (e.symm.trans h)]
   ·rw[valV_neg (p:=(p.1,y)) e,valV_neg e,ih]
  ·rw[if_neg h]
   by_cases e:p.1=j
   ·rw[valV_pos (p:=p) e,valV_pos e,Option.map_some,if_neg (fun z=>h (e.trans z))]
   ·rw[valV_neg (p:=p) e,valV_neg e,ih]
theorem valV_snoc (k j:κ)(y:V):∀kvs:List (κ × V),valV kvs k=none→valV (kvs++[(k,y)]) j=if j=k then some y else valV kvs j
 | [],_=>by
  by_cases e:k=j
  ·rw[if_pos e.symm];exact valV_pos (p:=(k,y)) e
  ·rw[if_neg (fun z=>e z.symm)];exact valV_neg (p:=(k,y)) e
 |p :: r,hn=>by
  rw[List.cons_append]
  have hk:¬p.1=k:=fun z=>by rw[valV_pos z] at hn;cases hn
  rw[valV_neg hk] at hn
  have ih:=valV_snoc k j y r hn
  by_cases e:p.1=j
  ·rw[valV_pos e,valV_pos e,if_neg (fun z=>hk (e.trans z))]
  ·rw[valV_neg e,valV_neg e,ih]
theorem valV_put (kvs:List (κ × V))(k j:κ)(y:V):valV (putK kvs k y) j=if j=k then some y else valV kvs j:=by
 unfold putK
 by_cases a:(kvs.any fun kv=>decide (kv.1=k))=true
 ·rw[if_pos a,valV_map]
  rw[valV_any] at a
  by_cases e:j=k
  ·obtain⟨x,hx⟩:=Option.isSome_iff_exists.mp a
   rw[if_pos e,e,hx,Option.map_some,if_pos rfl]
  ·rw[if_neg e]
   cases valV kvs j with
   |none=>rfl
   |some x=>rw[Option.map_some,if_neg e]
 ·rw[if_neg a]
  refine valV_snoc k j y kvs ?_
  rw[valV_any] at a
  cases q:valV kvs k with
  |none=>rfl
  |some x=>rw[q] at a;exact(a rfl).elim
theorem length_putK (kvs:List (κ × V))(k:κ)(v:V):(putK kvs k v).length≤kvs.length+1:=by
 unfold putK
 split
 ·rw[List.length_map];omega
 ·rw[List.length_append,List.length_cons,List.length_nil];omega
theorem RelO.isSome_eq {o:Option V}{u:Option Value}(r:RelO o u):o.isSome=u.isSome:=by
 cases o with
 |none=>cases u with
  |none=>rfl
  |some _=>exact(show False from r).elim
 |some _=>cases u with
  |none=>exact(show False from r).elim
  |some _=>rfl
theorem RelO.getD {o:Option V}{u:Option Value}{d:V}{d':Value}(r:RelO o u)(rd:RelV d d'):RelV (o.getD d) (u.getD d'):=by
 cases o with
 |none=>cases u with
  |none=>exact rd
  |some _=>exact(show False from r).elim
 |some _=>cases u with
  |none=>exact(show False from r).elim
  |some _=>exact r
theorem KV.val {kvs:List (κ × V)}{vs:List (κ × Value)}(r:KV kvs vs)(k:κ):RelO (valV kvs k) (valueAt vs k):=by
 unfold KV at r
 induction r with
 |nil=>exact True.intro
 | @cons p q ps qs h t ih=>
  obtain⟨h1,h2⟩:=h
  by_cases e:p.1=k
  ·have e':q.1=k:=h1.symm.trans e
   have b:valueAt (q :: qs) k=some q.2:=by simp[valueAt,List.find?_cons,e']
   rw[valV_pos e,b];exact h2
  ·have e':¬q.1=k:=fun z=>e (h1.trans z)
   have b:valueAt (q :: qs) k=valueAt qs k:=by simp[valueAt,List.find?_cons,e']
   rw[valV_neg e,b];exact ih
theorem KV.any {kvs:List (κ × V)}{vs:List (κ × Value)}(r:KV kvs vs)(k:κ):(kvs.any fun kv=>decide (kv.1=k))=vs.any fun kv=>decide (kv.1=k):=by
 unfold KV at r
 induction r with
 |nil=>rfl
 |cons h t ih=>rw[List.any_cons,List.any_cons,ih,h.1]
theorem KV.repl {kvs:List (κ × V)}{vs:List (κ × Value)}(r:KV kvs vs)(k:κ){y:V}{u:Value}(ry:RelV y u) :
  KV (kvs.map fun kv=>if kv.1=k then (kv.1,y) else kv) (vs.map fun kv=>if kv.1=k then (kv.1,u) else kv):=by
 unfold KV at r ⊢
 induction r with
 |nil=>exact .nil
 | @cons p q ps qs h t ih=>
  rw[List.map_cons,List.map_cons]
  refine .cons ?_ ih
  obtain⟨h1,h2⟩:=h
  by_cases e:p.1=k
  ·rw[if_pos e,if_pos (h1.symm.trans e)];exact⟨h1,ry⟩
  ·rw[if_neg e,if_neg (fun z=>e (h1.trans z))];exact⟨h1,h2⟩
theorem KV.put {kvs:List (κ × V)}{vs:List (κ × Value)}(r:KV kvs vs)(k:κ){y:V}{u:Value}(ry:RelV y u):KV (putK kvs k y) (stored vs k u):=by
 unfold putK stored
 rw[r.any k]
 by_cases e:(vs.any fun kv=>decide (kv.1=k))=true
 ·rw[if_pos e,if_pos e];exact r.repl k ry
 ·rw[if_neg e,if_neg e];exact Paired.snoc r ⟨rfl,ry⟩
theorem KV.length {kvs:List (κ × V)}{vs:List (κ × Value)}(r:KV kvs vs):kvs.length=vs.length:=Paired.length r
end
theorem kV_is {P:Program}{w:World}{k:Key}{u:Value}(r:RelV (kV k) u):(mixKind P w).is k u=true:=by
 cases k with
 |inl i=>obtain⟨t,e⟩:=(show ∃t,u=Value.int i t from r);subst e;exact mixKind_int P w i t
 |inr x=>obtain⟨t,e⟩:=(show ∃t,u=Value.str x t from r);subst e;exact mixKind_str P w x t
theorem items_are {P:Program}{w:World}:∀{ks:List Key} {us:List Value},Vals (ks.map kV) us→ItemsAre (mixKind P w) ks us
 | [],_,r=>by rw[List.map_nil] at r;cases r;exact .nil
 |k :: ks,_,r=>by
  rw[List.map_cons] at r
  cases r with
  |cons h t=>exact .cons (kV_is h) (items_are t)
abbrev KT (H:Hp):List (List Key × V)→List (List Key × Addr × Value)→Prop:=Paired fun p q=>p.1=q.1∧H q.2.1=some (.tup (p.1.map kV))∧RelV p.2 q.2.2
theorem KT.val {H:Hp}{kvs:List (List Key × V)}{xs:List (List Key × Addr × Value)}(r:KT H kvs xs)(k:List Key):RelO (valV kvs k) ((atKey xs k).map (·.2)):=by
 induction r with
 |nil=>exact True.intro
 | @cons p q ps qs h t ih=>
  obtain⟨h1,_,h2⟩:=h
  by_cases e:p.1=k
  ·have e':q.1=k:=h1.symm.trans e
   have b:atKey (q :: qs) k=some q.2:=by simp[atKey,List.find?_cons,e']
   rw[valV_pos e,b];exact h2
  ·have e':¬q.1=k:=fun z=>e (h1.trans z)
   have b:atKey (q :: qs) k=atKey qs k:=by simp[atKey,List.find?_cons,e']
   rw[valV_neg e,b];exact ih
theorem KT.repl {H:Hp}{kvs:List (List Key × V)}{xs:List (List Key × Addr × Value)}(r:KT H kvs xs)(k:List Key){y:V}{u:Value}(ry:RelV y u) :
  KT H (kvs.map fun kv=>if kv.1=k then (kv.1,y) else kv) (xs.map (putAt k u)):=by
 induction r with
 |nil=>exact .nil
 | @cons p q ps qs h t ih=>
  rw[List.map_cons,List.map_cons]
  refine .cons ?_ ih
  obtain⟨h1,h2,h3⟩:=h
  unfold putAt
  by_cases e:p.1=k
  ·rw[if_pos e,if_pos (h1.symm.trans e)];exact⟨h1,h2,ry⟩
  ·rw[if_neg e,if_neg (fun z=>e (h1.trans z))];exact⟨h1,h2,h3⟩
theorem KT.put {H:Hp}{kvs:List (List Key × V)}{xs:List (List Key × Addr × Value)}(r:KT H kvs xs)(k:List Key){b:Addr}{y:V}{u:Value}(hb:H b=some (.tup (k.map kV)))(ry:RelV y u) :
  KT H (putK kvs k y) (storedH xs k b u):=by
 have e:(kvs.any fun kv=>decide (kv.1=k))=(atKey xs k).isSome:=by
  rw[valV_any,(r.val k).isSome_eq,Option.isSome_map]
 unfold putK storedH
 rw[e]
 by_cases q:(atKey xs k).isSome=true
 ·rw[if_pos q,if_pos q];exact r.repl k ry
 ·rw[if_neg q,if_neg q];exact Paired.snoc r ⟨rfl,hb,ry⟩
theorem KT.keeps {H H':Hp}{kvs:List (List Key × V)}{xs:List (List Key × Addr × Value)}(r:KT H kvs xs)(ht:∀b ys,H b=some (.tup ys)→H' b=some (.tup ys)):KT H' kvs xs:=
 Paired.mapP r fun _ _ z=>⟨z.1,ht _ _ z.2.1,z.2.2⟩
section
variable {P:Program} {w:World} {H:Hp} {h:Heap} {a:Addr}
theorem rd_of {u:HO}(ok:HOk P w H h)(e:Rd H a u):ObjOk P w H h a u:=e.ok ok
theorem dk_rd {kvs:List (Key × V)}(ok:HOk P w H h)(e:Rd H a (.dK kvs)):kvs.length≤sizeLine∧(a == sysModules)=false∧∃vs,KV kvs vs∧h.DictOf (mixKind P w) a vs:=
 show ObjOk P w H h a (.dK kvs) from rd_of ok e
theorem dk_of {kvs:List (Key × V)}(ok:HOk P w H h)(e:H a=some (.dK kvs)):kvs.length≤sizeLine∧(a == sysModules)=false∧∃vs,KV kvs vs∧h.DictOf (mixKind P w) a vs:=dk_rd ok (.inl e)
theorem key_of {ks:List Key}(ok:HOk P w H h)(e:H a=some (.tup (ks.map kV))):(tupleKind (mixKind P w)).is h ks a:=by
 obtain⟨_,its,r,o,h1,h2,n,h3⟩:=(show ObjOk P w H h a (.tup (ks.map kV)) from ok a _ e)
 exact⟨o,its.toArray,n,h1,h2,h3,by simpa using items_are r⟩
theorem dt_rd {kvs:List (List Key × V)}(ok:HOk P w H h)(e:Rd H a (.dT kvs)):kvs.length≤sizeLine∧(a == sysModules)=false∧
  ∃xs,KT H kvs xs∧h.DictOfH (tupleKind (mixKind P w)) a xs:=by
 obtain⟨z,y,xs,r,o,es,ep,h1,h2,h3,h4,h5⟩:=(show ObjOk P w H h a (.dT kvs) from rd_of ok e)
 refine⟨z,y,xs,r,o,es,ep,h1,h2,h3,h4,fun x hx=>?_,h5⟩
 have all:∀{l:List (List Key × V)} {m:List (List Key × Addr × Value)},KT H l m→∀x∈m,(tupleKind (mixKind P w)).is h x.1 x.2.1:=by
  intro l m q
  induction q with
  |nil=>intro x hx;exact nomatch hx
  | @cons p q ps qs hq t ih=>
   intro x hx
   rcases List.mem_cons.mp hx with e | hx
   ·subst e
    exact key_of ok (by rw[← hq.1];exact hq.2.1)
   ·exact ih x hx
 exact all r x hx
theorem dt_of {kvs:List (List Key × V)}(ok:HOk P w H h)(e:H a=some (.dT kvs)):kvs.length≤sizeLine∧(a == sysModules)=false∧
  ∃xs,KT H kvs xs∧h.DictOfH (tupleKind (mixKind P w)) a xs:=dt_rd ok (.inl e)
end
def DGet (H:Hp)(a:Addr)(y:V)(r:Option V):Prop:=
 (∃kvs k,Rd H a (.dK kvs)∧y=kV k∧r=valV kvs k)∨∃kvs k b,Rd H a (.dT kvs)∧y=.ref b∧H b=some (.tup (k.map kV))∧r=valV kvs k
def DPut (H:Hp)(a:Addr)(y v:V)(H':Hp):Prop:=
 (∃kvs k,H a=some (.dK kvs)∧y=kV k∧kvs.length < sizeLine∧H'=upd H a (.dK (putK kvs k v)))∨
 ∃kvs k b,H a=some (.dT kvs)∧y=.ref b∧H b=some (.tup (k.map kV))∧kvs.length < sizeLine∧H'=upd H a (.dT (putK kvs k v))
theorem DGet.k {H:Hp}{a:Addr}{kvs:List (Key × V)}{k:Key}(e:H a=some (.dK kvs)):DGet H a (kV k) (valV kvs k):=.inl ⟨kvs,k,.inl e,rfl,rfl⟩
theorem DPut.k {H:Hp}{a:Addr}{kvs:List (Key × V)}{k:Key}{v:V}(e:H a=some (.dK kvs))(hl:kvs.length < sizeLine):DPut H a (kV k) v (upd H a (.dK (putK kvs k v))):=.inl ⟨kvs,k,e,rfl,hl,rfl⟩
section
variable {X:Cx} {pins:List (Addr × Obj)} {σ:St} {H:Hp} {s:Shared} {a:Addr} {y v:V} {u r:Value} {o:Option V} {A:Around} {E:Value→Shared→Prop}
theorem Inv.big (I:Inv X pins σ H s):sysModules < s.heap.objs.size:=by
 have h:mainGlobals < s.heap.objs.size:=(I.mod.glob.keeps I.bk).lt
 exact Nat.lt_trans (by decide) h
theorem d_getItem {Q:Value→Shared→Prop}(hu:A.units+1 < cLine)(I:Inv X pins σ H s)(g:DGet H a y (some v))(ry:RelV y u)(h:∀w' s',Inv X pins σ H s'→RelV v w'→Q w' s') :
  wpAny (model X.prog X.w) A (getItem (.ref a) u) Q E s:=by
 rcases g with ⟨kvs,k,e,ey,l⟩ | ⟨kvs,k,b,e,ey,eb,l⟩
 ·subst ey
  obtain⟨z,hd,vs,rel,dd⟩:=dk_rd I.hok e
  obtain⟨w',hw,rw'⟩:=RelO.some_of (v:=v) (o:=valueAt vs k) (by rw[l];exact rel.val k)
  exact wpAny_getItem_of (kV_is ry) dd.mapOf hw (h w' _ (I.tok _) rw')
 ·subst ey
  cases (show u=Value.ref b from ry)
  obtain⟨z,hd,xs,rel,dd⟩:=dt_rd I.hok e
  obtain⟨w',hw,rw'⟩:=RelO.some_of (v:=v) (o:=(atKey xs k).map (·.2)) (by rw[l];exact rel.val k)
  obtain⟨p,hp,hp2⟩:=Option.map_eq_some_iff.mp hw
  refine wpAny_getItem_heap (tupleKind_room_in1 hu) (key_of I.hok eb) dd hp ?_
  rw[hp2]
  exact h w' _ (I.tok _) rw'
theorem d_in {Q:Value→Shared→Prop}(hu:A.units+1 < cLine)(I:Inv X pins σ H s)(g:DGet H a y o)(ry:RelV y u)(h:∀s',Inv X pins σ H s'→Q (.bool o.isSome) s') :
  wpAny (model X.prog X.w) A (compareOp .In u (.ref a)) Q E s:=by
 rcases g with ⟨kvs,k,e,ey,l⟩ | ⟨kvs,k,b,e,ey,eb,l⟩
 ·subst ey
  obtain⟨z,hd,vs,rel,dd⟩:=dk_rd I.hok e
  refine wpAny_in_of (kV_is ry) hd dd.mapOf ?_
  rw[← (rel.val k).isSome_eq,← l]
  exact h _ (I.tok _)
 ·subst ey
  cases (show u=Value.ref b from ry)
  obtain⟨z,hd,xs,rel,dd⟩:=dt_rd I.hok e
  refine wpAny_in_heap (tupleKind_room_in1 hu) (key_of I.hok eb) hd dd ?_
  have q:=(rel.val k).isSome_eq
  rw[Option.isSome_map] at q
  rw[← q,← l]
  exact h _ (I.tok _)
theorem d_notIn {Q:Value→Shared→Prop}(hu:A.units+1 < cLine)(I:Inv X pins σ H s)(g:DGet H a y o)(ry:RelV y u)(h:∀s',Inv X pins σ H s'→Q (.bool (!o.isSome)) s') :
  wpAny (model X.prog X.w) A (compareOp .NotIn u (.ref a)) Q E s:=by
 rcases g with ⟨kvs,k,e,ey,l⟩ | ⟨kvs,k,b,e,ey,eb,l⟩
 ·subst ey
  obtain⟨z,hd,vs,rel,dd⟩:=dk_rd I.hok e
  refine wpAny_notIn_of (kV_is ry) hd dd.mapOf ?_
  rw[← (rel.val k).isSome_eq,← l]
  exact h _ (I.tok _)
 ·subst ey
  cases (show u=Value.ref b from ry)
  obtain⟨z,hd,xs,rel,dd⟩:=dt_rd I.hok e
  refine wpAny_notIn_heap (tupleKind_room_in1 hu) (key_of I.hok eb) hd dd ?_
  have q:=(rel.val k).isSome_eq
  rw[Option.isSome_map] at q
  rw[← q,← l]
  exact h _ (I.tok _)
theorem d_write {h':Heap}{t':Nat}{ob:HO}(I:Inv X pins σ H s)(mu:Mut (H a))(hs:Heap.SameBut a s.heap h')(he:∃q,h'.get? a=some q)(new:ObjOk X.prog X.w (upd H a ob) h' a ob) :
  Inv X pins σ (upd H a ob) { s with heap:=h',toks:=t' }:=
 I.write (x:=a) (e:=a) mu (.inl rfl) (fun b q hb z=>(hs.2 b hb).trans z) he new
theorem dk_new {P:Program}{w:World}{H':Hp}{h':Heap}{kvs:List (Key × V)}{vs:List (Key × Value)}(z:kvs.length≤sizeLine)(hd:(a == sysModules)=false)(rel:KV kvs vs)(dd:h'.DictOf (mixKind P w) a vs) :
  ObjOk P w H' h' a (.dK kvs):=⟨z,hd,vs,rel,dd⟩
theorem d_setItem {H':Hp}{Q:Unit→Shared→Prop}(hu:A.units+1 < cLine)(I:Inv X pins σ H s)(g:DPut H a y v H')(ry:RelV y u)(rv:RelV v r)(h:∀s',Inv X pins σ H' s'→Q () s') :
  wpAny (model X.prog X.w) A (setItem (.ref a) u r) Q E s:=by
 rcases g with ⟨kvs,k,e,ey,l,eH⟩ | ⟨kvs,k,b,e,ey,eb,l,eH⟩
 ·subst ey eH
  obtain⟨z,hd,vs,rel,dd⟩:=dk_of I.hok e
  have hz:vs.length≤sizeLine:=by rw[← rel.length];exact z
  have hl:(putK kvs k v).length≤sizeLine:=by have:=length_putK kvs k v;omega
  refine wpAny_setItem_pairs (hsz:=hz) (kV_is ry) dd fun h' dd' hs=>h _ ?_
  have he:∃q,h'.get? a=some q:=let ⟨q,_,_,hq,_⟩:=dd';⟨q,hq⟩
  exact d_write I (by rw[e];exact True.intro) hs he (dk_new hl hd (rel.put k rv) dd')
 ·subst ey eH
  cases (show u=Value.ref b from ry)
  obtain⟨z,hd,xs,rel,dd⟩:=dt_of I.hok e
  have hz:xs.length≤sizeLine:=by rw[← Paired.length rel];exact z
  have hl:(putK kvs k v).length≤sizeLine:=by have:=length_putK kvs k v;omega
  refine wpAny_setItem_heap (hsz:=hz) (tupleKind_room_in1 hu) (key_of I.hok eb) dd fun h' dd' hs=>h _ ?_
  obtain⟨q,es,ep,hq,h2,h3,h4,_,h5⟩:=dd'
  refine d_write I (by rw[e];exact True.intro) hs ⟨q,hq⟩ ⟨hl,hd,_,(rel.put k eb rv).keeps fun c ys ec=>?_,q,es,ep,hq,h2,h3,h4,h5⟩
  rw[upd_ne (ne_of ec e (fun z=>nomatch z))]
  exact ec
end
section
variable {X:Cx} {pins:List (Addr × Obj)} {σ:St} {H:Hp} {s:Shared} {a:Addr} {kvs:List (Key × V)} {k:Key} {u:Value} {A:Around} {E:Value→Shared→Prop}
theorem d_len {Q:Value→Shared→Prop}(I:Inv X pins σ H s)(e:Rd H a (.dK kvs))(h:∀t s',Inv X pins σ H s'→Q (.int kvs.length t) s'):wpAny (model X.prog X.w) A (call (.builtin "len") [.ref a]) Q E s:=by
 obtain⟨z,hd,vs,rel,dd⟩:=dk_rd I.hok e
 refine call_len_dict hd dd (by rw[← rel.length];rw[sizeLine_eq] at z;omega) ?_
 rw[← rel.length]
 exact h _ _ (I.tok _)
end
def NoSl (i:Expr):Prop:=∀ov iv,subscripted i false ov iv=operate [ov,iv] (getItem ov iv)
theorem subD_of {prog:Program}{w:World}{A:Around}{E:Value→Shared→Prop}{s:Shared}{env:Env}{value slice:Expr}{pos:Pos}{T id:String}{Q:Value→Shared→Prop}(hl:typeLookup (.type T) "__getitem__"=pure (some (.builtin id)))(hs:NoSl slice)(h:wpAny (model prog w) A (eval value env) (fun o s₁=>wpAny (model prog w) A (eval slice env) (fun i s₂=>s₂.TypeIs o T∧wpAny (model prog w) A (getItem o i) Q E s₂) E s₁) E s) :
  wpAny (model prog w) A (eval (.Subscript value slice pos) env) Q E s:=by
 refine Subscript_ (wpAny_mono h (fun o s₁ h₁=>wpAny_mono h₁ (fun i s₂ h₂=>?_) fun _ _ x=>x) fun _ _ x=>x)
 obtain⟨hT,h₂⟩:=h₂
 unfold subscriptTail
 refine wpAny_bind ?_
 rw[getitemInPython_of_ne hT.not_modules]
 refine wpAny_bind (wpAny_specialOf hT hl ?_)
 have fin:wpAny (model prog w) A (subscripted slice false o i) (fun r s₃=>wpAny (model prog w) A (letTemporaryGo value o r >>= fun _=>pure r) Q E s₃) E s₂:=by
  rw[hs o i]
  exact wpAny_operating (wpAny_mono h₂ (fun r s₃ h₃=>wpAny_bind (wpAny_letTemporaryGo (wpAny_pure h₃))) fun _ _ x=>x)
 first
  |exact wpAny_pure (wpAny_bind fin)
  |exact wpAny_bind (wpAny_pure (wpAny_bind fin))
  |exact wpAny_bind fin
theorem dict_typeIs {X:Cx}{pins:List (Addr × Obj)}{σ:St}{H:Hp}{s:Shared}{a:Addr}{y:V}{o:Option V}(I:Inv X pins σ H s)(g:DGet H a y o):s.TypeIs (.ref a) "dict":=by
 rcases g with ⟨kvs,k,e,_,_⟩ | ⟨kvs,k,b,e,_,_,_⟩
 ·obtain⟨_,_,vs,_,dd⟩:=dk_rd I.hok e
  exact dd.typeIs
 ·obtain⟨_,_,xs,_,dd⟩:=dt_rd I.hok e
  exact dd.typeIs
def tDGet (td ty:TE):TE:=fun σ H Q=>td σ H fun x H1=>ty σ H1 fun y H2=>∃a v,x=.ref a∧DGet H2 a y (some v)∧Q v H2
def tDIn (ty td:TE):TE:=fun σ H Q=>ty σ H fun y H1=>td σ H1 fun x H2=>∃a o,x=.ref a∧DGet H2 a y o∧Q (.bl o.isSome) H2
def tDNotIn (ty td:TE):TE:=fun σ H Q=>ty σ H fun y H1=>td σ H1 fun x H2=>∃a o,x=.ref a∧DGet H2 a y o∧Q (.bl (!o.isSome)) H2
def sDPut (td ty tv:TE):TS:=fun D σ H=>tv σ H fun v H1=>td σ H1 fun x H2=>ty σ H2 fun y H3=>∃a H4,x=.ref a∧DPut H3 a y v H4∧D.nx σ H4
section
variable {X:Cx} {o i e value:Expr} {pos pos' tpos:Pos} {td ty tv:TE}
theorem pe_dget (hu:X.A.units+1 < cLine)(ho:PE X o td)(hi:PE X i ty)(hs:NoSl i):PE X (.Subscript o i pos) (tDGet td ty):=by
 intro pins s σ H Q I h
 refine subD_of PySem.F.slot_dict_getitem.lookup hs (thn (ho pins s σ H _ I h) fun u s1 ⟨x,H1,I1,rx,q1⟩=>thn (hi pins s1 σ H1 _ I1 q1) fun iv s2 ⟨y,H2,I2,ry,a,v,ex,g,q2⟩=>?_)
 subst ex
 obtain rfl:u=Value.ref a:=rx
 exact⟨dict_typeIs I2 g,d_getItem hu I2 g ry fun w' s3 I3 rw'=>⟨v,H2,I3,rw',q2⟩⟩
theorem pc_din (hu:X.A.units+1 < cLine)(hi:PE X i ty)(ho:PE X o td):PC X .In i o (tDIn ty td):=by
 intro pins s σ H Q I h
 refine thn (hi pins s σ H _ I h) fun iv s1 ⟨y,H1,I1,ry,q1⟩=>thn (ho pins s1 σ H1 _ I1 q1) fun u s2 ⟨x,H2,I2,rx,a,ov,ex,g,q2⟩=>?_
 subst ex
 obtain rfl:u=Value.ref a:=rx
 exact d_in hu I2 g ry fun s3 I3=>⟨.bl ov.isSome,H2,I3,rfl,q2⟩
theorem pc_dnotin (hu:X.A.units+1 < cLine)(hi:PE X i ty)(ho:PE X o td):PC X .NotIn i o (tDNotIn ty td):=by
 intro pins s σ H Q I h
 refine thn (hi pins s σ H _ I h) fun iv s1 ⟨y,H1,I1,ry,q1⟩=>thn (ho pins s1 σ H1 _ I1 q1) fun u s2 ⟨x,H2,I2,rx,a,ov,ex,g,q2⟩=>?_
 subst ex
 obtain rfl:u=Value.ref a:=rx
 exact d_notIn hu I2 g ry fun s3 I3=>⟨.bl (!ov.isSome),H2,I3,rfl,q2⟩
theorem ps_dput (hu:X.A.units+1 < cLine)(ho:PE X o td)(hi:PE X i ty)(hv:PE X value tv)(hs:swapsWith value (some (.Subscript o i pos')) pos.line X.env=pure false) :
  PS X (.Assign [.Subscript o i pos'] value pos) (sDPut td ty tv):=by
 intro pins s σ H D I h
 refine wpAny_Assign_Subscript (thn (hv pins s σ H _ I h) fun r s1 ⟨v,H1,I1,rv,q1⟩=>thn (ho pins s1 σ H1 _ I1 q1) fun u s2 ⟨x,H2,I2,rx,q2⟩=>thn (hi pins s2 σ H2 _ I2 q2) fun iv s3 ⟨y,H3,I3,ry,a,H4,ex,g,q3⟩=>?_) hs
 subst ex
 obtain rfl:u=Value.ref a:=rx
 exact d_setItem hu I3 g ry rv fun s4 I4=>⟨σ,H4,I4,q3⟩
end
theorem dk_empty {P:Program}{w:World}{H:Hp}(h:Heap)(hb:sysModules < h.objs.size):ObjOk P w H (h.push { cls:=.type "dict",data:=.dict #[] }) h.objs.size (.dK []):=
 ⟨Nat.zero_le _,beq_eq_false_iff_ne.mpr (Ne.symm (Nat.ne_of_lt hb)),[],.nil,Heap.DictOf.new h⟩
def tDNewK:TE:=fun _ H Q=>∀p,H p=none→Q (.ref p) (upd H p (.dK []))
section
variable {X:Cx} {pos:Pos}
theorem pe_dnewK:PE X (.Dict [] [] pos) tDNewK:=fun pins s σ H Q I h=>
 wpAny_Dict_empty ⟨.ref s.heap.objs.size,_,I.laid (a:=s.heap.objs.size) (o:=.dK []) (t':=s.toks) (fun _ _ q=>Heap.get?_push_of_some _ q) (Nat.le_refl _) (dk_empty s.heap I.big),rfl,h _ (I.hok.fresh (Nat.le_refl _))⟩
end
abbrev VV:List (V × V)→List (Value × Value)→Prop:=Paired fun p q=>RelV p.1 q.1∧RelV p.2 q.2
structure M2 (X:Cx) (o:Expr) (m:Str) (apos:Pos) (e f:Expr) (cpos:Pos):Prop where
 base:attributeBase o m X.env (eval o X.env)=eval o X.env
 few:((backTo cpos (starEach [e,f] X.env)).all (fun x=>!x.1) && (backToKw cpos (keywordEach [] X.env)).all (fun x=>x.1.isSome)
  && decide (([e,f]:List Expr).length+([]:List Keyword).length+(if ([]:List Keyword).isEmpty then 0 else 1) < 30))=true
 line:(apos.endLine == cpos.line)=true
 trees:backTo cpos (starEach [e,f] X.env)=[(false,eval e X.env),(false,eval f X.env)]
def IsD (H:Hp)(a:Addr):Prop:=(∃kvs,Rd H a (.dK kvs))∨∃kvs,Rd H a (.dT kvs)
theorem isD_at {X:Cx}{pins:List (Addr × Obj)}{σ:St}{H:Hp}{s:Shared}{a:Addr}(I:Inv X pins σ H s)(d:IsD H a) :
  s.TypeIs (.ref a) "dict"∧(∀b,Value.ref a=.ref b→∃ob,s.heap.get? b=some ob∧ob.dict=none)∧(a == sysModules)=false:=by
 rcases d with ⟨kvs,e⟩ | ⟨kvs,e⟩
 ·obtain⟨_,hd,vs,_,dd⟩:=dk_rd I.hok e
  refine⟨dd.typeIs,fun b q=>?_,hd⟩
  cases q
  obtain⟨ob,_,_,h1,h2,_⟩:=dd
  exact⟨ob,h1,h2.2.1⟩
 ·obtain⟨_,hd,xs,_,dd⟩:=dt_rd I.hok e
  refine⟨dd.typeIs,fun b q=>?_,hd⟩
  cases q
  obtain⟨ob,_,_,h1,h2,_⟩:=dd
  exact⟨ob,h1,h2.2.1⟩
section
variable {X:Cx} {pins:List (Addr × Obj)} {σ:St} {H:Hp} {s:Shared} {a:Addr} {y d:V} {u r:Value} {o:Option V} {A:Around} {E:Value→Shared→Prop}
theorem d_get2 {Q:Value→Shared→Prop}(hu:A.units+1 < cLine)(I:Inv X pins σ H s)(g:DGet H a y o)(ry:RelV y u)(rd:RelV d r)(h:∀w' s',Inv X pins σ H s'→RelV (o.getD d) w'→Q w' s') :
  wpAny (model X.prog X.w) A (call (.builtin "dict.get") [.ref a,u,r]) Q E s:=by
 rcases g with ⟨kvs,k,e,ey,l⟩ | ⟨kvs,k,b,e,ey,eb,l⟩
 ·subst ey
  obtain⟨z,hd,vs,rel,dd⟩:=dk_rd I.hok e
  refine call_meetsIn PySem.F.slot_dict_get dd.typeIs PySem.F.entry_dict_get (PySem.F.args_dict_get_3 _ _ _) (meets_dict_get_default (mixKind X.prog X.w) a (kV_is ry) hd r) ⟨_,dd.mapOf,h _ _ (I.tok _) ?_⟩
  rw[l]
  exact(rel.val k).getD rd
 ·subst ey
  cases (show u=Value.ref b from ry)
  obtain⟨z,hd,xs,rel,dd⟩:=dt_rd I.hok e
  refine call_meetsIn PySem.F.slot_dict_get dd.typeIs PySem.F.entry_dict_get (PySem.F.args_dict_get_3 _ _ _) (meetsH_dict_get_default (tupleKind (mixKind X.prog X.w)) a b hd r) ⟨tupleKind_room_in1 hu,k,xs,key_of I.hok eb,dd,h _ _ (I.tok _) ?_⟩
  rw[l]
  exact(rel.val k).getD rd
end
def tDGet2 (td ty tx:TE):TE:=fun σ H Q=>td σ H fun x H1=>∃a,x=.ref a∧IsD H1 a∧ty σ H1 fun y H2=>tx σ H2 fun z H3=>∃o,DGet H3 a y o∧Q (o.getD z) H3
section
variable {X:Cx} {o e f:Expr} {apos cpos:Pos} {td ty tx:TE}
theorem pe_dget2 (hu:X.A.units+1 < cLine)(ho:PE X o td)(he:PE X e ty)(hf:PE X f tx)(m:M2 X o "get" apos e f cpos):PE X (.Call (.Attribute o "get" apos) [e,f] [] cpos) (tDGet2 td ty tx):=by
 intro pins s σ H Q I h
 refine wpAny_Call_method m.base m.few m.line PySem.F.plainAttrs_dict PySem.F.slot_dict_get PySem.F.type_dict_get (thn (ho pins s σ H _ I h) fun u s1 ⟨x,H1,I1,rx,a,ex,d,q1⟩=>?_)
 subst ex
 obtain rfl:u=Value.ref a:=rx
 obtain⟨t1,t2,_⟩:=isD_at I1 d
 refine⟨t1,t2,?_⟩
 rw[m.trees]
 refine Calls.callWith_builtin rfl (Calls.evalArgs_plain (Calls.spliced_cons (thn (he pins s1 σ H1 _ I1 q1) fun iv s2 ⟨y,H2,I2,ry,q2⟩=>
  Calls.spliced_cons (thn (hf pins s2 σ H2 _ I2 q2) fun fv s3 ⟨z,H3,I3,rz,ov,g,q3⟩=>Calls.spliced_nil ?_))))
 exact d_get2 hu I3 g ry rz fun w' s4 I4 rw'=>⟨_,H3,I4,rw',q3⟩
end
section
variable {X:Cx}
theorem call_lenD:CallR X (.builtin "len") (fun xs H Q=>∃a kvs,xs=[V.ref a]∧H a=some (.dK kvs)∧Q (.int kvs.length) H):=by
 intro pins s σ H xs us Q I r h
 obtain⟨a,kvs,rfl,ha,q⟩:=h
 obtain⟨u,rfl,ru⟩:=vals1 r
 cases ru
 exact d_len I (.inl ha) fun t s' I'=>⟨.int kvs.length,H,I',⟨t,rfl⟩,q⟩
end
end L2
set_option maxHeartbeats 2000000
namespace L2
open PySem PySem.Spec PyProof.Rows
theorem NewR.same {CK:Kd→Addr}{H H1:Hp}{Q:VK}{k:Kd}{s g z:V}(h:NewR CK H Q k s g z)(e:Same H H1):NewR CK H1 Q k s g z:=fun x H' s' n r=>h x H' (e.trans s') (e.free n) r
def spAtL (K:PySem.W.Frag)(CK:Kd→Addr):Sp:=fun vs H Q _=>∃(x l:Addr) (k:Kd) (i j:Int) (z v w:V) (xs:List V),vs=[.ref x,.ref l]∧Rw CK H x k (.int i) (.int j) z∧SqL K H l xs∧atI xs i=some v∧atI xs j=some w∧NewR CK H Q k v w z
theorem Fq.mod {K:PySem.W.Frag}{a:Addr}{d:Option Addr}{n:Nat}{sl:Array (Option Value)}{i j:Int}{t u:Tok}(l:K.lookup a=some ⟨.type "tuple",d,.seq #[.int i t,.int j u] n,sl⟩)(H:Hp):Fq K H a (i,j):=
 .inr ⟨_,_,_,l,rfl,rfl,(by show 2≤sizeLine;decide),.cons ⟨_,rfl⟩ (.cons ⟨_,rfl⟩ .nil)⟩
abbrev RD:=Kd × Int × Int × Mq.Q2
inductive Rts (K:PySem.W.Frag) (H:Hp):List V→List RD→Prop where
 |nil:Rts K H [] []
 |cons {t z:Addr} {k:Kd} {i j:Int} {p:Mq.Q2} {xs:List V} {ds:List RD} (h:SqT K H t [.str k.wd,.int i,.int j,.ref z]) (f:Fq K H z p) (q:Rts K H xs ds):Rts K H (.ref t :: xs) ((k,i,j,p) :: ds)
section
variable {K:PySem.W.Frag} {H H':Hp}
theorem Rts.same (e:Same H H'):∀{xs:List V} {ds:List RD},Rts K H xs ds→Rts K H' xs ds
 |_,_,.nil=>.nil
 |_,_,.cons h f q=>.cons (e.seqT h) (e.fq f) (Rts.same e q)
theorem Rts.length:∀{xs:List V} {ds:List RD},Rts K H xs ds→xs.length=ds.length
 |_,_,.nil=>rfl
 |_,_,.cons _ _ q=>by simp[Rts.length q]
theorem Rts.app:∀{xs ys:List V} {ds es:List RD},Rts K H xs ds→Rts K H ys es→Rts K H (xs++ys) (ds++es)
 |_,_,_,_,.nil,r=>r
 |_,_,_,_,.cons h f q,r=>.cons h f (Rts.app q r)
theorem Rts.at:∀{xs:List V} {ds:List RD} {q:Nat} {d:RD},Rts K H xs ds→ds[q]?=some d→∃t z,xs[q]?=some (.ref t)∧SqT K H t [.str d.1.wd,.int d.2.1,.int d.2.2.1,.ref z]∧Fq K H z d.2.2.2
 |_,_,_,_,.nil,h=>by simp at h
 |_,_,0,_,.cons h f _,e=>by simp at e;subst e;exact⟨_,_,rfl,h,f⟩
 |_,_,i+1,_,.cons _ _ q,e=>by simpa using Rts.at q (by simpa using e)
theorem Rts.upd {l:Addr}{ys:List V}{o:HO}(hl:H l=some (.lst ys)):∀{xs:List V} {ds:List RD},Rts K H xs ds→Rts K (L2.upd H l o) xs ds
 |_,_,.nil=>.nil
 |_,_,.cons h f q=>.cons (h.upd hl) (f.upd hl) (Rts.upd hl q)
def rdd (d:RD):PyData:=rd4 d.1.wd d.2.1 d.2.2.1 d.2.2.2
theorem Rts.dat:∀{xs:List V} {ds:List RD},Rts K H xs ds→DatVs K H xs (ds.map rdd)
 |_,_,.nil=>.nil
 |_,_,.cons h f q=>.cons (rd4_dat h f) (Rts.dat q)
theorem rdds_lay:∀ds:List RD,PyData.canLayAll0 (ds.map rdd)=true
 | []=>rfl
 |d :: r=>by
  show ((rdd d).canLay0 && PyData.canLayAll0 (r.map rdd))=true
  rw[rdds_lay r,show (rdd d).canLay0=true from rd4_lay (Kd.lay _) _ _ _];rfl
theorem rdds_depth:∀ds:List RD,PyData.depthAll (ds.map rdd)≤3
 | []=>by simp[PyData.depthAll]
 |d :: r=>by
  have b:=rdds_depth r
  have a:(rdd d).depth≤3:=by simp[rdd,rd4,qd,PyData.depth,PyData.depthAll]
  simp only[List.map_cons,PyData.depthAll]
  omega
theorem rd_eqR {a b:Addr}{xs ys:List V}{ds:List RD}{neg:Bool}{Q:VK}(h1:SqL K H a xs)(h2:SqL K H b ys)(f1:Rts K H xs ds)(f2:Rts K H ys ds)(z:Q (.bl (!neg)) H):rDat K neg (.ref a) (.ref b) H Q:=
 rd_eqS (d:=.list (ds.map rdd)) (.lst h1 f1.dat) (.lst h2 f2.dat) (rdds_lay ds) (by have:=rdds_depth ds;simp only[PyData.depth];omega) z
end
def SameX (l:Addr)(H H':Hp):Prop:=∀b o,H b=some o→b≠l→H' b=some o
theorem Same.x {l:Addr}{H H':Hp}(s:Same H H'):SameX l H H':=fun b o h _=>s b o h
theorem SameX.write {l:Addr}{H H1:Hp}{o:HO}(a:SameX l H H1):SameX l H (upd H1 l o):=fun c u h n=>by rw[upd_ne n];exact a c u h n
section
variable {K:PySem.W.Frag} {H H':Hp} {l:Addr}
theorem SameX.seqT {a:Addr}{xs ys:List V}(hl:H l=some (.lst ys))(e:SameX l H H')(h:SqT K H a xs):SqT K H' a xs:=by
 rcases h with (h | ⟨u,h⟩) | h
 ·exact .inl (.inl (e _ _ h (ne_of h hl (fun z=>by cases z))))
 ·exact .inl (.inr ⟨u,e _ _ h (ne_of h hl (fun z=>by cases z))⟩)
 ·exact .inr h
theorem SameX.rts {ys:List V}(hl:H l=some (.lst ys))(e:SameX l H H'):∀{xs:List V} {ds:List RD},Rts K H xs ds→Rts K H' xs ds
 |_,_,.nil=>.nil
 |_,_,.cons h f q=>.cons (e.seqT hl h) (e.seqT hl f) (SameX.rts hl e q)
end
theorem fpk:¬(("point_count":Str) = "kept"):=by decide +kernel
def nflds (m:Int)(l:Addr):List (Str × V):=putF "kept" (.ref l) (putF "point_count" (.int m) [])
theorem nflds_pc (m:Int)(l:Addr):(nflds m l).lookup ("point_count":Str)=some (.int m):=by
 unfold nflds
 rw[lookup_putF,if_neg fpk,lookup_putF,if_pos rfl]
theorem nflds_kept (m:Int)(l:Addr):(nflds m l).lookup ("kept":Str)=some (.ref l):=by
 unfold nflds
 rw[lookup_putF,if_pos rfl]
theorem nflds_no (m:Int)(l:Addr){x:Str}(h1:¬x = "point_count")(h2:¬x = "kept"):(nflds m l).lookup x=none:=by
 unfold nflds
 rw[lookup_putF,if_neg h2,lookup_putF,if_neg h1]
 rfl
def RdOk (m:Int)(d:RD):Prop:=0≤d.2.1∧d.2.1 < m∧0≤d.2.2.1∧d.2.2.1 < m∧Mq.Low d.2.2.2∧(d.1=.pc→0 < d.2.2.2.1)∧Mq.Bd 100 d.2.2.2
structure NetAt (CN:Addr) (K:PySem.W.Frag) (H:Hp) (n l:Addr) (m:Int) (ds:List RD):Prop where
 ob:∃dx,H n=some (.ins CN dx (nflds m l))
 ls:∃ts,H l=some (.lst ts)∧Rts K H ts ds
theorem NetAt.same {CN:Addr}{K:PySem.W.Frag}{H H':Hp}{n l:Addr}{m:Int}{ds:List RD}(e:Same H H')(h:NetAt CN K H n l m ds):NetAt CN K H' n l m ds:=
 let ⟨⟨dx,a⟩,ts,b,c⟩:=h;⟨⟨dx,e _ _ a⟩,ts,e _ _ b,c.same e⟩
structure NT (K:PySem.W.Frag) (mg:Str→Option Value) (CN:Addr):Prop where
 cl:Cls K CN
 nP:NoAttr K CN "point_count"
 nK:NoAttr K CN "kept"
 t1:PySem.W.findIn K (.ref CN) "__class__"=some (some (.builtin "object.__class__"))
 t2:PySem.W.specialIn K (.builtin "object.__class__") "__get__"=some (some (.builtin "getset_descriptor.__get__"))
 t3:PySem.W.takesIn K (.builtin "object.__class__")=some true
 t4:PySem.W.mroIn K CN (.type "object")=some true
 mN:mg "Net"=some (.ref CN)
def spRowOfG (K:PySem.W.Frag)(CK:Kd→Addr):Sp:=fun vs H Q _=>∃(t:Addr) (v s g z:V),vs=[.ref t]∧SqT K H t [v,s,g,z]∧∃k:Kd,v=.str k.wd∧NewR CK H Q k s g z
def spNB:Sp:=fun vs H Q _=>∃i b:Int,vs=[.int i,.int b]∧0≤i∧i < b∧Q (.bl true) H
def spRS (K:PySem.W.Frag):Sp:=fun vs H Q _=>∃(k:Kd) (z:Addr) (p:Mq.Q2),vs=[.str k.wd,.ref z]∧Fq K H z p∧Mq.Low p∧(k=.pc→0 < p.1)∧Mq.Bd 100 p∧Q .non H
def spMany (CN:Addr)(K:PySem.W.Frag):Sp:=fun vs H Q _=>∃(n l:Addr) (m:Int) (ds:List RD),vs=[.ref n]∧NetAt CN K H n l m ds∧Q (.int m) H
def spNTold (CN:Addr)(K:PySem.W.Frag):Sp:=fun vs H Q _=>∃(n l:Addr) (m:Int) (ds:List RD),vs=[.ref n]∧NetAt CN K H n l m ds∧∀a ts H',Same H H'→H a=none→H' a=some (.lst ts)→Rts K H' ts ds→Q (.ref a) H'
def spAdd (CN:Addr)(K:PySem.W.Frag)(CK:Kd→Addr):Sp:=fun vs H Q _=>∃(n l x z:Addr) (m:Int) (ds:List RD) (k:Kd) (i j:Int) (p:Mq.Q2),vs=[.ref n,.ref x]∧NetAt CN K H n l m ds∧Rw CK H x k (.int i) (.int j) (.ref z)∧Fq K H z p∧RdOk m (k,i,j,p)∧ds.length < 40∧
 ∀H',SameX l H H'→NetAt CN K H' n l m (ds++[(k,i,j,p)])→Q (.int ds.length) H'
theorem cut1 {a1 u:TS}{D:Ends}{σ:St}{H:Hp}(P:St→Hp→Prop)(h1:∀X:St→Hp→Prop,(∀σ' H',P σ' H'→X σ' H')→(a1) { D with nx:=X } σ H)(h2:∀σ' H',P σ' H'→u D σ' H'):(tSeq a1 (u)) D σ H:=h1 _ h2
theorem cut2 {a1 a2 u:TS}{D:Ends}{σ:St}{H:Hp}(P:St→Hp→Prop)(h1:∀X:St→Hp→Prop,(∀σ' H',P σ' H'→X σ' H')→(tSeq a1 (a2)) { D with nx:=X } σ H)(h2:∀σ' H',P σ' H'→u D σ' H'):(tSeq a1 (tSeq a2 (u))) D σ H:=h1 _ h2
theorem cut3 {a1 a2 a3 u:TS}{D:Ends}{σ:St}{H:Hp}(P:St→Hp→Prop)(h1:∀X:St→Hp→Prop,(∀σ' H',P σ' H'→X σ' H')→(tSeq a1 (tSeq a2 (a3))) { D with nx:=X } σ H)(h2:∀σ' H',P σ' H'→u D σ' H'):(tSeq a1 (tSeq a2 (tSeq a3 (u)))) D σ H:=h1 _ h2
theorem cut4 {a1 a2 a3 a4 u:TS}{D:Ends}{σ:St}{H:Hp}(P:St→Hp→Prop)(h1:∀X:St→Hp→Prop,(∀σ' H',P σ' H'→X σ' H')→(tSeq a1 (tSeq a2 (tSeq a3 (a4)))) { D with nx:=X } σ H)(h2:∀σ' H',P σ' H'→u D σ' H'):(tSeq a1 (tSeq a2 (tSeq a3 (tSeq a4 (u))))) D σ H:=h1 _ h2
end L2
namespace Mq
abbrev z0:Q2:=(0,1)
abbrev Row:=Nat × Nat × Q2
end Mq
namespace L2
open PySem PySem.Spec PyProof.Rows
abbrev compEnv1 (scope:Scope)(cl:List (Str × Addr))(x0:Str)(C:Addr)(env:Env):Env:={ compEnvC scope cl C env with cells:=(x0,C+1) :: cl }
abbrev compCx1 (X:Cx)(scope:Scope)(cl:List (Str × Addr))(x0:Str)(Nc:List Str)(C:Addr)(s3:Shared)(H3:Hp)(fp:List Addr)(pins:List (Addr × Obj)):Cx:=
 { X with N:=Nc,s₀:=s3,H₀:=H3,env:=compEnv1 scope cl x0 C X.env,outer:=X.stack,ex:=fp,fn:=fun x=>x == x0,pn:=X.pn++pins,xe:=fun _ _=>False }
end L2
set_option maxHeartbeats 4000000
namespace Mq
abbrev Mat:=Nat→Nat→Rat
end Mq
set_option maxHeartbeats 1000000
set_option maxHeartbeats 2000000
namespace PySem
open Sem (wp)
section
variable {prog:Program} {w:World} {A:Around} {E:Value→Shared→Prop} {h:Heap} {g:Array GenState} {d:Drawn} {t:Nat} {os:OsState}
variable {nm q:Str} {C N f:Addr} {bs bm bmB:List Value} {hdct:Bool} {sn:List Str} {sub:List Value} {ab:Bool} {col:Option Bool} {dd:Option Addr} {k0 k1 k2 k3 k5:Option Value} {B Bn newId nid initId inN:String} {bmN:List Value}
abbrev newExcHeap (h:Heap)(C:Addr)(rest:List Value):Heap:=(h.push { cls:=.type "tuple",data:=.seq rest.toArray }).push { cls:=.ref C,data:=.fields #[.ref h.objs.size,.none,.none,.none,.bool false,.none] }
end
end PySem
set_option maxHeartbeats 4000000
set_option maxHeartbeats 2000000
set_option maxHeartbeats 4000000
set_option maxHeartbeats 1000000
set_option maxHeartbeats 4000000
set_option maxHeartbeats 1000000
set_option maxHeartbeats 4000000
namespace Shp
open PySem L2
abbrev bq (n m:Nat):Nat:=(n+4)*(m+1)+7
end Shp
namespace L2
open PySem PyProof.Rows
theorem FnOk.calm {P:Program}{w:World}{K:PySem.W.Frag}{mg:Str→Option Value}{base:Heap}{k:Nat}{f:Addr}{fd:FuncData}{ps:List Str}{sp:Sp}(F:FnOk P w K mg base (CX1 P w) k f fd ps sp) :
  FnOk P w K mg base CX0 k f fd ps (fun vs H Q _=>sp vs H Q (fun _ _ _=>False)):=
 ⟨fun vs H Q E q=>F.len vs H Q _ q,fun A outer s H args us vs Q E hr he hb hv hs=>codeAny_mono (F.run A outer s H args us vs Q _ hr he hb hv hs) fun r s' h=>by
  cases r with
  |ok fl=>cases fl<;>exact h
  |error e=>
   obtain⟨a,C,d,H',_,_,_,_,_,_,z⟩:=h
   exact z.elim⟩
end L2
set_option maxHeartbeats 2000000
namespace L2
open PySem PySem.Spec PyProof.Rows
theorem FnOk.weak {P:Program}{w:World}{K:PySem.W.Frag}{mg:Str→Option Value}{base:Heap}{CX:CXT}{k:Nat}{f:Addr}{fd:FuncData}{ps:List Str}{sp sp':Sp}(F:FnOk P w K mg base CX k f fd ps sp)(h:∀vs H Q E,sp' vs H Q E→sp vs H Q E):FnOk P w K mg base CX k f fd ps sp':=
 ⟨fun vs H Q E q=>F.len vs H Q E (h _ _ _ _ q),fun A outer s H args us vs Q E hr he hb hv hs=>F.run A outer s H args us vs Q E hr he hb hv (h _ _ _ _ hs)⟩
abbrev PtOk (m i j:Int):Prop:=0≤i∧i < m∧0≤j∧j < m
def BadM (K:PySem.W.Frag)(H:Hp)(v:V):Prop:=(∃m:Int,v=.int m∧(m < 1∨20 < m))∨∃t,TyOf K H v t∧NotWhole t
def spNInitX (CN:Addr)(K:PySem.W.Frag)(CP:Addr):Sp:=fun vs H Q E=>∃(n dx:Addr) (v:V),vs=[.ref n,v]∧H n=some (.ins CN dx [])∧((∃m:Int,v=.int m∧1≤m∧m≤20∧∀l H',H l=none→(∀b o,H b=some o→b≠n→H' b=some o)→H' n=some (.ins CN dx (nflds m l))→H' l=some (.lst [])→Q .non H')∨(BadM K H v∧E (.ref CP) none H))
inductive Zv (K:PySem.W.Frag) (H:Hp):V→Option Mq.Q2→Prop where
 |fr {u:Addr} {p:Mq.Q2} (h:Fq K H u p) (l:Mq.Low p):Zv K H (.ref u) (some p)
 |ty {v:V} {t:Value} (h:TyQ K H v t) (n:PySem.W.kitOne K t (.type "tuple")=some false):Zv K H v none
 |len {u:Addr} {x y z:V} (h:SqT K H u [x,y,z]):Zv K H (.ref u) none
 |n0 {u:Addr} {x y:V} {t:Value} (h:SqT K H u [x,y]) (ty:TyOf K H x t) (n:NotWhole t):Zv K H (.ref u) none
 |n1 {u:Addr} {i:Int} {y:V} {t:Value} (h:SqT K H u [.int i,y]) (ty:TyOf K H y t) (n:NotWhole t):Zv K H (.ref u) none
 |fb {u:Addr} {p:Mq.Q2} (h:Fq K H u p) (c:p.2 < 1∨(1≤p.2∧Mq.gc p.1 p.2≠1)):Zv K H (.ref u) none
def okz (k:Kd)(o:Option Mq.Q2):Bool:=match o with
 |none=>false
 |some p=>match k with
  | .pc=>decide (0 < p.1)
  |_=>true
abbrev Bz (o:Option Mq.Q2):Prop:=∀p,o=some p→Mq.Bd 100 p
def spIsFV (K:PySem.W.Frag):Sp:=fun vs H Q _=>∃(v:V) (o:Option Mq.Q2),vs=[v]∧Zv K H v o∧Q (.bl o.isSome) H
def spPSV (K:PySem.W.Frag):Sp:=fun vs H Q _=>∃(v:V) (o:Option Mq.Q2),vs=[v]∧Zv K H v o∧Bz o∧Q (.bl (okz .pc o)) H
def spRSV (K:PySem.W.Frag)(CZ:Addr):Sp:=fun vs H Q E=>∃(k:Kd) (v:V) (o:Option Mq.Q2),vs=[.str k.wd,v]∧Zv K H v o∧Bz o∧(okz k o=true→Q .non H)∧(okz k o=false→E (.ref CZ) none H)
end L2
namespace L2
open PySem
def pfl (l:Addr)(e:Int)(t p:Addr):List (Str × V):=[("labels",.ref l),("end_count",.int e),("entries",.ref t),("put_names",.ref p)]
def yfl (g d:Addr)(o q:V):List (Str × V):=[("ground",.ref g),("parts",.ref d),("opened",o),("opened_plan",q)]
theorem pfl_make (l:Addr)(e:Int)(t p:Addr):putF "put_names" (.ref p) (putF "entries" (.ref t) (putF "end_count" (.int e) (putF "labels" (.ref l) [])))=pfl l e t p:=by with_unfolding_all rfl
theorem pfl_en (l:Addr)(e:Int)(t p t':Addr):putF "entries" (.ref t') (pfl l e t p)=pfl l e t' p:=by with_unfolding_all rfl
theorem pfl_pn (l:Addr)(e:Int)(t p p':Addr):putF "put_names" (.ref p') (pfl l e t p)=pfl l e t p':=by with_unfolding_all rfl
theorem pfl_l (l:Addr)(e:Int)(t p:Addr):(pfl l e t p).lookup ("labels":Str)=some (.ref l):=by with_unfolding_all rfl
theorem pfl_e (l:Addr)(e:Int)(t p:Addr):(pfl l e t p).lookup ("end_count":Str)=some (.int e):=by with_unfolding_all rfl
theorem pfl_t (l:Addr)(e:Int)(t p:Addr):(pfl l e t p).lookup ("entries":Str)=some (.ref t):=by with_unfolding_all rfl
theorem pfl_p (l:Addr)(e:Int)(t p:Addr):(pfl l e t p).lookup ("put_names":Str)=some (.ref p):=by with_unfolding_all rfl
theorem yfl_make (g d:Addr)(o q:V):putF "opened_plan" q (putF "opened" o (putF "parts" (.ref d) (putF "ground" (.ref g) [])))=yfl g d o q:=by with_unfolding_all rfl
theorem yfl_gr (g d g':Addr)(o q:V):putF "ground" (.ref g') (yfl g d o q)=yfl g' d o q:=by with_unfolding_all rfl
theorem yfl_g (g d:Addr)(o q:V):(yfl g d o q).lookup ("ground":Str)=some (.ref g):=by with_unfolding_all rfl
theorem yfl_d (g d:Addr)(o q:V):(yfl g d o q).lookup ("parts":Str)=some (.ref d):=by with_unfolding_all rfl
theorem yfl_o (g d:Addr)(o q:V):(yfl g d o q).lookup ("opened":Str)=some o:=by with_unfolding_all rfl
theorem yfl_q (g d:Addr)(o q:V):(yfl g d o q).lookup ("opened_plan":Str)=some q:=by with_unfolding_all rfl
structure PlT (K:PySem.W.Frag) (mg:Str→Option Value) (CP:Addr):Prop where
 cl:Cls K CP
 nl:NoAttr K CP "labels"
 ne:NoAttr K CP "end_count"
 nt:NoAttr K CP "entries"
 np:NoAttr K CP "put_names"
 mP:mg "Plan"=some (.ref CP)
structure YaT (K:PySem.W.Frag) (mg:Str→Option Value) (CY:Addr):Prop where
 cl:Cls K CY
 ng:NoAttr K CY "ground"
 nd:NoAttr K CY "parts"
 no:NoAttr K CY "opened"
 nq:NoAttr K CY "opened_plan"
 mY:mg "Yard"=some (.ref CY)
structure PlAt (CP:Addr) (H:Hp) (g l:Addr) (e:Int) (t p:Addr) (ls:List Str) (es ps:List V):Prop where
 ob:∃dg,H g=some (.ins CP dg (pfl l e t p))
 hl:H l=some (.lst (ls.map V.str))
 ht:H t=some (.lst es)
 hp:H p=some (.lst ps)
 lt:l≠t
 lp:l≠p
 tp:t≠p
theorem PlAt.same {CP:Addr}{H H':Hp}{g l t p:Addr}{e:Int}{ls:List Str}{es ps:List V}(s:Same H H')(h:PlAt CP H g l e t p ls es ps):PlAt CP H' g l e t p ls es ps:=
 let ⟨⟨dg,o⟩,a,b,c,x,y,z⟩:=h;⟨⟨dg,s _ _ o⟩,s _ _ a,s _ _ b,s _ _ c,x,y,z⟩
end L2
set_option maxHeartbeats 4000000
namespace K84
open PySem L2 Tx
def top (i:Nat):Stmt:=PySem.Challenge.pw_ohmyard_k84_parts_refused.main.body.getD i (.Pass ⟨0,0,0,0⟩)
section
variable {P:Program} {w:World} {K:PySem.W.Frag} {mg:Str→Option Value} {base:Heap} {f g1 g2 g3 g4 g5 g6 g7 g8:Addr} {fd gd1 gd2 gd3 gd4 gd5 gd6 gd7 gd8:FuncData} {CX:CXT}
abbrev sWhole:Stmt:=top 12
theorem scWhole:FnScope ["thing"] ["thing"] (defScope sWhole):=⟨rfl,rfl,rfl,by decide +kernel,rfl,by decide +kernel,by decide +kernel⟩
theorem ok_whole {dV:Value}(F:FunD K "is_whole" "is_whole" sWhole dV f fd)(b:Bl mg):FnOk P w K mg base CX 1 f fd ["thing"] (spWhole K):=by
 refine F.ok scWhole (fun vs H Q E h=>?_) (fun cdv A outer s H vs Q E hr h=>?_)
 ·obtain⟨x,rfl,_⟩:=h
  rfl
 obtain⟨x,rfl,h⟩:=h
 refine⟨_,pss_one (ps_ret (pe_and (pe_isiQ (i:=0) rfl (Or.inl rfl) b.isi b.int rfl rfl PyProof.Rows.boot_int) (pe_one (pe_not (pe_isiQ (i:=0) rfl (Or.inl rfl) b.isi b.bool rfl rfl PyProof.Rows.boot_bool))))),?_⟩
 rcases h with ⟨i,rfl,q⟩ | ⟨t,ty,nw,q⟩
 ·exact⟨_,_,_,rfl,.of (.int i),rfl,_,rfl,iteT ⟨_,_,false,rfl,.of (.int i),(by with_unfolding_all rfl),_,rfl,q⟩⟩
 ·rcases nw with rfl | rfl | rfl | rfl | rfl
  ·exact⟨_,_,true,rfl,.of ty,(by with_unfolding_all rfl),_,rfl,iteT ⟨_,_,_,rfl,.of ty,rfl,_,rfl,q⟩⟩
  all_goals exact⟨_,_,false,rfl,.of ty,(by with_unfolding_all rfl),_,rfl,iteF q⟩
abbrev sGc:Stmt:=top 14
theorem scGc:FnScope ["one","other","rest"] ["one","other"] (defScope sGc):=⟨rfl,rfl,rfl,by decide +kernel,rfl,by decide +kernel,by decide +kernel⟩
theorem ok_gc {dV:Value}(F:FunD K "greatest_common" "greatest_common" sGc dV f fd)(b:Bl mg):FnOk P w K mg base CX 1 f fd ["one","other"] spGc:=by
 refine F.ok scGc (fun vs H Q E h=>?_) (fun cdv A outer s H vs Q E hr h=>?_)
 ·obtain⟨x,y,rfl,_⟩:=h
  rfl
 obtain⟨x,y,rfl,q⟩:=h
 refine⟨_,pss_cons (ps_while PassesOwn.never (pt_cmpR op_ne (pv 1) pe_int (nomark _)) (pss_cons (ps_set (i:=2) scGc.nd rfl (Or.inl rfl) (pe_op op_modN (pv 0) (pv 1)))
  (pss_cons (ps_set (i:=0) scGc.nd rfl (Or.inl rfl) (pv 1)) (pss_one (ps_set (i:=1) scGc.nd rfl (Or.inl rfl) (pv 2))))))
  (pss_one (ps_ret (pe_callB call_abs rfl b.abs PyProof.Rows.boot_abs (pa_cons (pv 0) pa_nil)))),?_⟩
 refine while_by (fun σ H'=>H'=H∧∃u v z,σ=[some (.int u),some (.int v),z]∧Mq.gc u v=Mq.gc x y) (fun σ _=>match σ with | [_,some (.int v),_]=>v.natAbs | _=>0) ⟨rfl,x,y,none,rfl,rfl⟩ ?_ ?_
 ·rintro σ H' ⟨rfl,u,v,z,rfl,e⟩
  refine⟨_,rfl,rfl,_,rfl,?_⟩
  refine ite2 (fun c=>?_) (fun c=>?_)
  ·have hv:v≠0:=by intro q;subst q;simp at c
   refine⟨_,rfl,_,rfl,_,_,rfl,rfl,hv,_,rfl,_,rfl,⟨rfl,v,Int.fmod u v,_,rfl,(Mq.gc_step u v).trans e⟩,Mq.fmod_less hv⟩
  ·have hv:v=0:=by
    simp at c
    exact c
   subst hv
   refine⟨_,rfl,_,rfl,?_⟩
   rw[← Mq.gc_zero,e]
   exact q
 ·rintro σ H Q Q' m ⟨v,h1,h2,k,h3,h4⟩
  exact⟨v,h1,h2,k,h3,m _ _ h4⟩
abbrev sUnder:Stmt:=top 16
theorem scUnder:FnScope ["one","other"] ["one","other"] (defScope sUnder):=⟨rfl,rfl,rfl,by decide +kernel,rfl,by decide +kernel,by decide +kernel⟩
theorem ok_under {dV:Value}(F:FunD K "under" "under" sUnder dV f fd):FnOk P w K mg base CX 1 f fd ["one","other"] (spUnder K):=by
 refine F.ok scUnder (fun vs H Q E h=>?_) (fun cdv A outer s H vs Q E hr h=>?_)
 ·obtain⟨a,b,p,q,n,m,rfl,_⟩:=h
  rfl
 obtain⟨a,b,p,q,n,m,rfl,ha,hb,bp,bq,hn,z⟩:=h
 refine⟨_,pss_one (ps_ret (pe_cmpR op_lt (pe_op op_mulB (pe_ix ix_tup (pv 0) pe_int (fun _ _=>rfl)) (pe_ix ix_tup (pv 1) pe_int (fun _ _=>rfl))) (pe_op op_mulB (pe_ix ix_tup (pv 1) pe_int (fun _ _=>rfl)) (pe_ix ix_tup (pv 0) pe_int (fun _ _=>rfl))) (nomark _))),?_⟩
 exact rd_ix0 rfl ha (rd_ix1 rfl hb (rd_mulB bp.a bq.b (by omega) (by omega) (rd_ix0 rfl hb (rd_ix1 rfl ha (rd_mulB bq.a bp.b (by omega) (by omega) ⟨_,_,rfl,rfl,z⟩)))))
abbrev sFrac:Stmt:=top 15
theorem scFrac:FnScope ["top","bottom","shared"] ["top","bottom"] (defScope sFrac):=⟨rfl,rfl,rfl,by decide +kernel,rfl,by decide +kernel,by decide +kernel⟩
theorem ok_frac {dV:Value}{CN:Addr}(F:FunD K "fraction" "fraction" sFrac dV f fd)(G1:FnOk P w K mg base CX0 1 g1 gd1 ["thing"] (spWhole K))(b1:Binds K gd1 ["thing"] [])(k1:PySem.W.keepIn K (.ref g1)=true)(m1:mg "is_whole"=some (.ref g1))(G2:FnOk P w K mg base CX0 1 g2 gd2 ["one","other"] spGc)(b2:Binds K gd2 ["one","other"] [])(k2:PySem.W.keepIn K (.ref g2)=true)(m2:mg "greatest_common"=some (.ref g2))(mN:mg "NoNumber"=some (.ref CN))(xN:ExcC K CN) :
  FnOk P w K mg base (CX1 P w) 2 f fd ["top","bottom"] (spFracX K CN):=by
 refine F.okX scFrac (fun vs H Q E h=>?_) (fun cdv A outer s H vs Q E hr h=>?_)
 ·obtain⟨x,y,rfl,_⟩:=h
  rfl
 obtain⟨x,y,rfl,h⟩:=h
 refine⟨_,pss_cons (ps_if (PW.pt (pw_or (pt_not (pt_val (pe_call G1 hr rfl m1 k1 b1 .nil pass0 (pa_cons (pv 0) pa_nil)))) (pw_or (pt_not (pt_val (pe_call G1 hr rfl m1 k1 b1 .nil pass0 (pa_cons (pv 1) pa_nil)))) (pw_or1 (pt_cmpR op_eq (pv 1) pe_int (nomark _)))))) (pss_one (ps_raise frm_cxOf xe_cxOf rfl rfl mN xN (pa_cons pe_str pa_nil))) pss_nil)
  (pss_cons (ps_set (i:=2) scFrac.nd rfl (Or.inl rfl) (pe_call G2 hr rfl m2 k2 b2 .nil pass0 (pa_cons (pv 0) (pa_cons (pv 1) pa_nil))))
  (pss_cons (ps_if (pt_cmpR op_lt (pv 1) pe_int (nomark _)) (pss_one (ps_set (i:=2) scFrac.nd rfl (Or.inl rfl) (pe_un un_neg (pv 2)))) pss_nil)
  (pss_one (ps_ret (pe_tup (pa_cons (pe_op op_fdivB (pv 0) (pv 2)) (pa_cons (pe_op op_fdivB (pv 1) (pv 2)) pa_nil))))))),?_⟩
 have one:([V.str "a fraction is made of two whole numbers, the second not 0"]:List V).length≤sizeLine:=by show 1≤sizeLine;decide
 rcases h with ⟨t,b,n,rfl,rfl,hb,hB,hn,q⟩ | ⟨h,q⟩
 ·have hd:=Mq.dvr_ne (t:=t) hb
  have hdB:Mq.B n (Mq.dvr t b):=hB.le (Mq.dvr_le hb)
  have c0:decide (V.int b=V.int 0)=false:=decide_eq_false (fun z=>hb (by cases z;rfl))
  refine⟨_,rfl,_,rfl,.inl ⟨t,rfl,_,rfl,iteF ⟨_,rfl,_,rfl,.inl ⟨b,rfl,_,rfl,iteF ⟨_,rfl,rfl,_,rfl,?_⟩⟩⟩⟩⟩
  rw[c0]
  refine iteF ⟨_,rfl,_,rfl,t,b,rfl,?_⟩
  refine⟨_,rfl,_,_,rfl,rfl,_,rfl,?_⟩
  refine ite2 (fun c=>?_) (fun c=>?_)
  ·have hlt:b < 0:=of_decide_eq_true c
   have e:Mq.dvr t b=-Mq.gc t b:=by unfold Mq.dvr;rw[if_pos hlt]
   rw[e] at hd hdB
   have q':NewF H Q (t.fdiv (-Mq.gc t b),b.fdiv (-Mq.gc t b)):=by
    have z:=q
    unfold Mq.red at z
    rw[e] at z
    exact z
   refine⟨_,rfl,_,rfl,?_⟩
   refine⟨_,rfl,_,rfl,?_⟩
   refine rd_fdivB hd hdB hn ⟨_,rfl,_,rfl,rd_fdivB hd hdB hn ⟨by show 2≤sizeLine;decide,fun p hp=>?_⟩⟩
   exact q' p _ (same_new hp _) upd_same
  ·have hlt:¬b < 0:=fun z=>c (decide_eq_true z)
   have e:Mq.dvr t b=Mq.gc t b:=by unfold Mq.dvr;rw[if_neg hlt]
   rw[e] at hd hdB
   have q':NewF H Q (t.fdiv (Mq.gc t b),b.fdiv (Mq.gc t b)):=by
    have z:=q
    unfold Mq.red at z
    rw[e] at z
    exact z
   refine⟨_,rfl,_,rfl,?_⟩
   refine rd_fdivB hd hdB hn ⟨_,rfl,_,rfl,rd_fdivB hd hdB hn ⟨by show 2≤sizeLine;decide,fun p hp=>?_⟩⟩
   exact q' p _ (same_new hp _) upd_same
 ·rcases h with ⟨t,ty,nw⟩ | ⟨⟨t,rfl⟩,⟨t',ty,nw⟩ | rfl⟩
  ·exact⟨_,rfl,_,rfl,.inr ⟨t,ty,nw,_,rfl,iteT ⟨one,q⟩⟩⟩
  ·exact⟨_,rfl,_,rfl,.inl ⟨t,rfl,_,rfl,iteF ⟨_,rfl,_,rfl,.inr ⟨t',ty,nw,_,rfl,iteT ⟨one,q⟩⟩⟩⟩⟩
  ·exact⟨_,rfl,_,rfl,.inl ⟨t,rfl,_,rfl,iteF ⟨_,rfl,_,rfl,.inl ⟨0,rfl,_,rfl,iteF ⟨_,rfl,rfl,_,rfl,iteT ⟨one,q⟩⟩⟩⟩⟩⟩
abbrev sShow:Stmt:=top 20
theorem scShow:FnScope ["one"] ["one"] (defScope sShow):=⟨rfl,rfl,rfl,by decide +kernel,rfl,by decide +kernel,by decide +kernel⟩
theorem ok_show {dV:Value}(F:FunD K "show" "show" sShow dV f fd)(ms:mg "str"=none)(nd:PySem.W.nsIn K cStatics "sys.int_max_str_digits"=some none):FnOk P w K mg base CX 1 f fd ["one"] (spShow K):=by
 refine F.ok scShow (fun vs H Q E h=>?_) (fun cdv A outer s H vs Q E hr h=>?_)
 ·obtain⟨a,p,n,rfl,_⟩:=h
  rfl
 obtain⟨a,p,n,rfl,hF,hB,hn,q⟩:=h
 refine⟨_,pss_cons (ps_if (pt_cmpR op_eq (pe_ix ix_tup (pv 0) pe_int (fun _ _=>rfl)) pe_int (nomark _)) (pss_one (ps_ret (pe_callTy (call_strB rfl nd) rfl ms PyProof.Rows.boot_str (pa_cons (pe_ix ix_tup (pv 0) pe_int (fun _ _=>rfl)) pa_nil)))) pss_nil)
  (pss_one (ps_ret (pe_op op_add_str (pe_op op_add_str (pe_callTy (call_strB rfl nd) rfl ms PyProof.Rows.boot_str (pa_cons (pe_ix ix_tup (pv 0) pe_int (fun _ _=>rfl)) pa_nil)) pe_str) (pe_callTy (call_strB rfl nd) rfl ms PyProof.Rows.boot_str (pa_cons (pe_ix ix_tup (pv 0) pe_int (fun _ _=>rfl)) pa_nil))))),?_⟩
 have hz:sizeLine=16777216:=sizeLine_eq
 have l1:=itx_len hB.a hn
 have l2:=itx_len hB.b hn
 refine rd_ix1 rfl hF ⟨rfl,_,rfl,?_⟩
 by_cases e:p.2=1
 ·rw[decide_eq_true (show V.int p.2=V.int 1 by rw[e])]
  refine iteT (rd_ix0 rfl hF ⟨p.1,n,rfl,hB.a,hn,?_⟩)
  rw[str_int]
  unfold shw at q
  rw[if_pos e] at q
  exact q
 ·rw[decide_eq_false (fun z=>e (by injection z))]
  refine iteF (rd_ix0 rfl hF ⟨p.1,n,rfl,hB.a,hn,⟨_,_,rfl,rfl,?_,?_⟩⟩)
  ·rw[str_int,S_len]
   have:("/":Str).length=1:=by decide
   omega
  ·refine rd_ix1 rfl hF ⟨p.2,n,rfl,hB.b,hn,_,_,rfl,rfl,?_,?_⟩
   ·rw[str_int,str_int,show ("/":Str)=S [47] by decide +kernel,S_app,S_len,S_len,List.length_append]
    simp only[List.length_cons,List.length_nil]
    omega
   ·rw[str_int,str_int,show ("/":Str)=S [47] by decide +kernel,S_app,S_app]
    unfold shw at q
    rw[if_neg e] at q
    rw[List.append_assoc]
    exact q
abbrev sNosign:Stmt:=top 22
theorem scNosign:FnScope ["text"] ["text"] (defScope sNosign):=⟨rfl,rfl,rfl,by decide +kernel,rfl,by decide +kernel,by decide +kernel⟩
theorem ok_nosign {dV:Value}(F:FunD K "without_sign" "without_sign" sNosign dV f fd):FnOk P w K mg base CX 1 f fd ["text"] spNosign:=by
 refine F.ok scNosign (fun vs H Q E h=>?_) (fun cdv A outer s H vs Q E hr h=>?_)
 ·obtain⟨cs,rfl,_⟩:=h
  rfl
 obtain⟨cs,rfl,hl,q⟩:=h
 refine⟨_,pss_cons (ps_if (pt_val (pe_bm PySem.F.plainAttrs_str PySem.F.slot_str_startswith PySem.F.type_str_startswith mt_startswith (pv 0) (pa_cons pe_str pa_nil))) (pss_one (ps_ret (pe_slice sl_str (pv 0) (po_some pe_int) po_none))) pss_nil)
  (pss_one (ps_ret (pv 0))),?_⟩
 have hz:sizeLine=16777216:=sizeLine_eq
 refine⟨_,rfl,rfl,_,_,rfl,rfl,_,rfl,?_⟩
 rw[show ("-":Str)=⟨#[45]⟩ by decide +kernel,starts_one]
 unfold nosign at q
 by_cases e:cs.head?=some 45
 ·rw[decide_eq_true e]
  rw[if_pos e] at q
  refine iteT ⟨_,rfl,_,rfl,_,rfl,by rw[S_len];omega,?_⟩
  rw[show (1:Int)=((1:Nat):Int) from rfl,slice_from,List.drop_one]
  exact q
 ·rw[decide_eq_false e]
  rw[if_neg e] at q
  exact iteF ⟨_,rfl,q⟩
abbrev sFigs:Stmt:=top 23
theorem scFigs:FnScope ["text"] ["text"] (defScope sFigs):=⟨rfl,rfl,rfl,by decide +kernel,rfl,by decide +kernel,by decide +kernel⟩
theorem ndFigs:(["sign"]:List Str).Nodup:=by decide +kernel
theorem ok_figs {dV:Value}{tF tM:Tok}(F:FunD K "are_figures" "are_figures" sFigs dV f fd)(ml:mg "len"=none)(ma:mg "all"=none)(mF:mg "FIGURES"=some (.str "0123456789" tF))(mM:mg "MOST_FIGURES"=some (.int 200 tM)):FnOk P w K mg base CX 1 f fd ["text"] spFigs:=by
 refine F.ok scFigs (fun vs H Q E h=>?_) (fun cdv A outer s H vs Q E hr h=>?_)
 ·obtain⟨cs,rfl,_⟩:=h
  rfl
 obtain⟨cs,rfl,hl,q⟩:=h
 refine⟨_,pss_cons (ps_if (PW.pt (pw_or (pt_cmpR op_lt (pe_callB call_len_str rfl ml PySem.boot_len (pa_cons (pv 0) pa_nil)) pe_int (nomark _)) (pw_or1 (pt_cmpR op_gt (pe_callB call_len_str rfl ml PySem.boot_len (pa_cons (pv 0) pa_nil)) (pe_glob (v:=.int 200) rfl mM ⟨_,rfl⟩) (nomark _))))) (pss_one (ps_ret pe_bl)) pss_nil)
  (pss_one (ps_ret (pe_callB (call_all rfl) rfl ma PyProof.Rows.boot_all (pa_cons (pe_comp (nl:=1) (fr:=[]) (Nc:=["sign"]) (cl:=[]) rfl
    ⟨rfl,rfl,by decide +kernel,by decide +kernel,fun x c h=>(nomatch h),has_of rfl,rfl,fun i n h=>by rw[show 1+i=i+1 by omega] at h;cases h⟩
    (pi_str (pv 0)) (fun C s3 H3 fp pins=>pg_name (i:=0) ndFigs rfl (Or.inl rfl)) (fun _ _ _ _ _=>pif_nil)
    (fun C s3 H3 fp pins=>pe_cmpR op_in_str (pv 0) (pe_glob (v:=.str "0123456789") rfl mF ⟨_,rfl⟩) rfl)) pa_nil)))),?_⟩
 have hz:sizeLine=16777216:=sizeLine_eq
 refine⟨_,rfl,_,rfl,by rw[S_len];omega,_,_,rfl,rfl,_,rfl,?_⟩
 rw[S_len]
 have no:¬(1≤cs.length∧cs.length≤200)→Q (.bl false) H:=fun c=>by
  have:=q H (Same.refl H)
  unfold figB at this
  rw[decide_eq_false c,Bool.false_and] at this
  exact this
 refine ite2 (fun c=>?_) (fun c=>?_)
 ·have c':=of_decide_eq_true c
  exact no (by omega)
 have c1:1≤cs.length:=by
  simp only[decide_eq_true_eq] at c
  omega
 refine⟨_,rfl,_,rfl,by rw[S_len];omega,_,_,rfl,rfl,_,rfl,?_⟩
 rw[S_len]
 refine ite2 (fun c=>?_) (fun c=>?_)
 ·have c':=of_decide_eq_true c
  exact no (by omega)
 have c2:cs.length≤200:=by
  simp only[decide_eq_true_eq] at c
  omega
 refine⟨_,rfl,_,rfl,fun D hD=>?_⟩
 have sD:=same_new hD (.lst [])
 refine comp_str (fun i ys H'=>Same H H'∧H' D=some (.lst ys)∧ys=(cs.take i).map (fun c=>V.bl (digB c))) ⟨sD,upd_same,rfl⟩ (fun i ys H' h=>h.2.1) ?_ ?_
 ·rintro i ys c H1 hc ⟨s1,e1,rfl⟩ C hC
  refine⟨keep1.1,keep1.2,iteT ?_⟩
  refine⟨_,rfl,_,_,rfl,rfl,?_⟩
  rw[in_figs]
  have hi:i < cs.length:=(List.getElem?_eq_some_iff.mp hc).1
  refine⟨e1,by simp only[List.length_map,List.length_take];omega,hC _ _ ⟨s1.change hD,upd_same,?_⟩⟩
  rw[List.take_succ,hc,List.map_append]
  rfl
 ·rintro ys H1 ⟨s1,e1,rfl⟩
  refine⟨D,cs.map digB,rfl,?_,?_⟩
  ·rw[List.take_length] at e1
   rw[List.map_map]
   exact SqL.of e1
  ·have:=q H1 s1
   unfold figB at this
   rw[decide_eq_true ⟨c1,c2⟩,Bool.true_and] at this
   rw[List.all_map]
   exact this
abbrev sRead:Stmt:=top 21
abbrev NRead:List Str:=["text","parts","above","below","one"]
theorem scRead:FnScope NRead ["text"] (defScope sRead):=⟨rfl,rfl,rfl,by decide +kernel,rfl,by decide +kernel,by decide +kernel⟩
theorem ok_read {dV:Value}{CN:Addr}(F:FunD K "read" "read" sRead dV f fd)(b:Bl mg)(ms:mg "str"=none)(G1:FnOk P w K mg base CX0 1 g1 gd1 ["text"] spNosign)(b1:Binds K gd1 ["text"] [])(k1:PySem.W.keepIn K (.ref g1)=true)(m1:mg "without_sign"=some (.ref g1))(G2:FnOk P w K mg base CX0 1 g2 gd2 ["text"] spFigs)(b2:Binds K gd2 ["text"] [])(k2:PySem.W.keepIn K (.ref g2)=true)(m2:mg "are_figures"=some (.ref g2))(G3:FnOk P w K mg base (CX1 P w) 2 g3 gd3 ["top","bottom"] (spFracX K CN))(b3:Binds K gd3 ["top","bottom"] [])(k3:PySem.W.keepIn K (.ref g3)=true)(m3:mg "fraction"=some (.ref g3))(G4:FnOk P w K mg base CX0 1 g4 gd4 ["one"] (spShow K))(b4:Binds K gd4 ["one"] [])(k4:PySem.W.keepIn K (.ref g4)=true)(m4:mg "show"=some (.ref g4))(mN:mg "NoNumber"=some (.ref CN))(xN:ExcC K CN):FnOk P w K mg base (CX1 P w) 3 f fd ["text"] (spRead K CN):=by
 refine F.okX scRead (fun vs H Q E h=>?_) (fun cdv A outer s H vs Q E hr h=>?_)
 ·obtain⟨x,rfl,_⟩:=h
  rfl
 obtain⟨x,rfl,h⟩:=h
 have r1:=hr.mono (show 1≤2 by omega)
 refine⟨_,pss_cons (ps_if (pt_not (pt_val (pe_isi (i:=0) rfl (Or.inl rfl) b.isi ms rfl rfl PyProof.Rows.boot_str))) (pss_one (ps_raise frm_cxOf xe_cxOf rfl rfl mN xN (pa_cons pe_str pa_nil))) pss_nil)
  (pss_cons (ps_set (i:=1) scRead.nd rfl (Or.inl rfl) (pe_bm PySem.F.plainAttrs_str PySem.F.slot_str_partition PySem.F.type_str_partition mt_partition (pv 0) (pa_cons pe_str pa_nil)))
  (pss_cons (ps_set (i:=2) scRead.nd rfl (Or.inl rfl) (pe_ix ix_tup (pv 1) pe_int (fun _ _=>rfl)))
  (pss_cons (ps_set (i:=3) scRead.nd rfl (Or.inl rfl) (pe_ifExp (pt_cmpR op_eq (pe_ix ix_tup (pv 1) pe_int (fun _ _=>rfl)) pe_str (nomark _)) (pe_ix ix_tup (pv 1) pe_int (fun _ _=>rfl)) pe_str))
  (pss_cons (ps_if (PW.pt (pw_or (pt_not (pt_val (pe_call G2 r1 rfl m2 k2 b2 .nil pass0 (pa_cons (pe_call G1 r1 rfl m1 k1 b1 .nil pass0 (pa_cons (pv 2) pa_nil)) pa_nil)))) (pw_or1 (pt_not (pt_val (pe_call G2 r1 rfl m2 k2 b2 .nil pass0 (pa_cons (pv 3) pa_nil))))))) (pss_one (ps_raise frm_cxOf xe_cxOf rfl rfl mN xN (pa_cons pe_str pa_nil))) pss_nil)
  (pss_cons (ps_set (i:=4) scRead.nd rfl (Or.inl rfl) (pe_call G3 hr rfl m3 k3 b3 .nil (passes_cx frm_cxOf xe_cxOf) (pa_cons (pe_callTy call_intT rfl b.int PyProof.Rows.boot_int (pa_cons (pv 2) pa_nil)) (pa_cons (pe_callTy call_intT rfl b.int PyProof.Rows.boot_int (pa_cons (pv 3) pa_nil)) pa_nil))))
  (pss_cons (ps_if (pt_cmpR op_ne (pe_call G4 r1 rfl m4 k4 b4 .nil pass0 (pa_cons (pv 4) pa_nil)) (pv 0) (nomark _)) (pss_one (ps_raise frm_cxOf xe_cxOf rfl rfl mN xN (pa_cons pe_str pa_nil))) pss_nil)
  (pss_one (ps_ret (pv 4))))))))),?_⟩
 have hz:sizeLine=16777216:=sizeLine_eq
 have one:∀y:Str,([V.str y]:List V).length≤sizeLine:=fun _=>by show 1≤sizeLine;decide
 rcases h with ⟨cs,rfl,hl,qy,qn⟩ | ⟨⟨t,ty,nw⟩,q⟩
 rotate_left
 ·rcases nw with rfl | rfl | rfl | rfl | rfl
  all_goals exact⟨_,_,false,rfl,ty,(by with_unfolding_all rfl),_,rfl,iteT ⟨one _,q⟩⟩
 obtain⟨tl,hp,ht⟩:=part_47 cs
 refine⟨_,_,true,rfl,.str _,(by with_unfolding_all rfl),_,rfl,iteF ?_⟩
 refine⟨_,rfl,rfl,_,_,rfl,rfl,by decide,by rw[S_len];omega,fun D hD=>?_⟩
 rw[hp]
 have sD:=same_new hD (.tup [.str (S (ahead 47 cs)),.str (stk cs),.str (S tl)])
 have eD:upd H D (.tup [.str (S (ahead 47 cs)),.str (stk cs),.str (S tl)]) D=some (.tup [.str (S (ahead 47 cs)),.str (stk cs),.str (S tl)]):=upd_same
 dsimp only
 generalize upd H D (.tup [.str (S (ahead 47 cs)),.str (stk cs),.str (S tl)])=H1 at sD eD ⊢
 refine⟨_,rfl,D,_,_,_,rfl,rfl,SqT.of eD,rfl,?_⟩
 refine⟨_,rfl,D,_,_,_,rfl,rfl,SqT.of eD,rfl,rfl,_,rfl,?_⟩
 have bel:∀{R:VK},R (.str (S (belowOf cs))) H1→(if decide (V.str (stk cs)=V.str "/")=true then tOp (rIxT K) (tVar 1) (tC (.int 2)) (List.set (List.set (L2.start NRead [V.str (S cs)]) 1 (some (V.ref D))) 2 (some (V.str (S (ahead 47 cs))))) H1 R else R (.str "1") H1):=fun {R} z=>by
  unfold belowOf at z
  unfold stk
  by_cases h:47∈cs
  ·rw[if_pos h] at z ⊢
   rw[decide_eq_true rfl]
   rw[← ht h] at z
   refine iteT ⟨_,rfl,D,_,_,_,rfl,rfl,SqT.of eD,rfl,z⟩
  ·rw[if_neg h] at z ⊢
   rw[decide_eq_false (by intro q;injection q with q;exact absurd q (by decide +kernel))]
   refine iteF ?_
   rw[show ("1":Str)=S [49] by decide +kernel]
   exact z
 refine bel ?_
 have la:=(ahead_len 47 cs).1
 have lb:=below_len hl
 refine⟨_,rfl,_,rfl,by omega,_,rfl,?_,fun H2 s2=>?_⟩
 ·unfold nosign;split
  ·rw[List.length_tail];omega
  ·omega
 refine⟨_,rfl,?_⟩
 have no:¬Fine cs→∀H',Same H H'→E (.ref CN) none H':=fun h=>qn fun ⟨p,z⟩=>h (wr_fine z).1
 by_cases f1:figB (nosign (ahead 47 cs))=true
 rotate_left
 ·rw[Bool.eq_false_iff.mpr f1]
  exact iteT ⟨one _,no (fun z=>f1 ((figB_iff _).mpr z.1)) _ (sD.trans s2)⟩
 rw[f1]
 refine iteF ⟨_,rfl,_,rfl,lb,fun H3 s3=>⟨_,rfl,?_⟩⟩
 by_cases f2:figB (belowOf cs)=true
 rotate_left
 ·rw[Bool.eq_false_iff.mpr f2]
  exact iteT ⟨one _,no (fun z=>f2 ((figB_iff _).mpr z.2)) _ (sD.trans (s2.trans s3))⟩
 rw[f2]
 have hf:Fine cs:=⟨(figB_iff _).mp f1,(figB_iff _).mp f2⟩
 obtain⟨ia,ja⟩:=ival_text hf.1
 obtain⟨ib,jb⟩:=ival_text (cs:=belowOf cs) (by rw[nosign_fig hf.2];exact hf.2)
 have bb:(ival (belowOf cs)).natAbs < 10 ^ 200:=ival_lt (by rw[nosign_fig hf.2];exact hf.2)
 have ba:=ival_lt hf.1
 have sA:=sD.trans (s2.trans s3)
 refine iteF ⟨_,rfl,_,_,rfl,ia,ja,_,rfl,_,_,rfl,ib,jb,?_⟩
 refine⟨_,_,rfl,?_⟩
 by_cases h0:ival (belowOf cs)=0
 ·refine .inr ⟨.inr ⟨⟨_,rfl⟩,.inr (by rw[h0])⟩,?_⟩
  refine qn (fun ⟨p,z⟩=>?_) _ sA
  have:=(wr_fine z).2.2
  have:=low_pos z.low
  omega
 refine .inl ⟨_,_,700,rfl,rfl,h0,b200 bb,by omega,fun r H4 s4 e4=>?_⟩
 have hl2:=Mq.red_le (t:=ival (ahead 47 cs)) h0
 refine⟨_,rfl,r,_,700,rfl,Fq.of e4,⟨b200 (Nat.lt_of_le_of_lt hl2.1 ba),b200 (Nat.lt_of_le_of_lt hl2.2 bb)⟩,by omega,_,rfl,rfl,_,rfl,?_⟩
 by_cases e:shw (Mq.red (ival (ahead 47 cs)) (ival (belowOf cs)))=cs
 ·rw[decide_eq_true (show V.str (S (shw (Mq.red (ival (ahead 47 cs)) (ival (belowOf cs)))))=V.str (S cs) by rw[e])]
  exact iteF ⟨_,rfl,qy _ (fine_wr hf h0 e) r H4 (sA.trans s4) e4⟩
 ·rw[decide_eq_false (fun z=>e (S_inj.mp (by injection z)))]
  refine iteT ⟨one _,qn (fun ⟨p,z⟩=>?_) _ (sA.trans s4)⟩
  apply e
  rw[red_wr z]
  exact z.txt.symm
variable {CR:Addr} {CK:Kd→Addr} {fW fJ fT fS:Kd→Addr} {fdW fdJ fdT fdS:Kd→FuncData}
abbrev sRInit:Stmt:=inClass (top 25) 0
theorem scRInit:FnScope ["self","start","goal","size"] ["self","start","goal","size"] (defScope sRInit):=⟨rfl,rfl,rfl,by decide +kernel,rfl,by decide +kernel,by decide +kernel⟩
theorem ok_rinit {dV:Value}(F:FunD K "__init__" "Row.__init__" sRInit dV f fd)(T:RT K mg CR CK):FnOk P w K mg base CX 1 f fd ["self","start","goal","size"] (spRInit CK):=by
 refine F.ok scRInit (fun vs H Q E h=>?_) (fun cdv A outer s H vs Q E hr h=>?_)
 ·obtain⟨x,dx,k,s,g,z,rfl,_⟩:=h
  rfl
 obtain⟨x,dx,k,s,g,z,rfl,hx,q⟩:=h
 refine⟨_,(pss_cons (ps_fld (pv 0) (pv 1) rfl) (pss_cons (ps_fld (pv 0) (pv 2) rfl) (pss_one (ps_fld (pv 0) (pv 3) rfl)))),?_⟩
 have l1:=length_putF ("start":Str) s []
 have l2:=length_putF ("goal":Str) g (putF "start" s [])
 simp only[List.length_nil] at l1
 refine⟨_,rfl,_,rfl,x,CK k,dx,[],rfl,hx,T.cl k,T.nS k,(by show 0 < 1000;decide),?_⟩
 refine⟨_,rfl,_,rfl,x,CK k,dx,_,rfl,upd_same,T.cl k,T.nG k,by omega,?_⟩
 refine⟨_,rfl,_,rfl,x,CK k,dx,_,rfl,upd_same,T.cl k,T.nZ k,by omega,?_⟩
 rw[upd_upd,upd_upd]
 exact q
abbrev sWord_pc:Stmt:=inClass (top 26) 0
theorem scWord_pc:FnScope ["self"] ["self"] (defScope sWord_pc):=⟨rfl,rfl,rfl,by decide +kernel,rfl,by decide +kernel,by decide +kernel⟩
theorem ok_word_pc {dV:Value}(F:FunD K "word" "Piece.word" sWord_pc dV f fd):FnOk P w K mg base CX 1 f fd ["self"] (spWord .pc):=by
 refine F.ok scWord_pc (fun vs H Q E h=>?_) (fun cdv A outer s H vs Q E hr h=>?_)
 ·obtain⟨x,rfl,_⟩:=h
  rfl
 obtain⟨x,rfl,q⟩:=h
 exact⟨_,(pss_one (ps_ret pe_str)),q⟩
abbrev sWord_pu:Stmt:=inClass (top 27) 0
theorem scWord_pu:FnScope ["self"] ["self"] (defScope sWord_pu):=⟨rfl,rfl,rfl,by decide +kernel,rfl,by decide +kernel,by decide +kernel⟩
theorem ok_word_pu {dV:Value}(F:FunD K "word" "Push.word" sWord_pu dV f fd):FnOk P w K mg base CX 1 f fd ["self"] (spWord .pu):=by
 refine F.ok scWord_pu (fun vs H Q E h=>?_) (fun cdv A outer s H vs Q E hr h=>?_)
 ·obtain⟨x,rfl,_⟩:=h
  rfl
 obtain⟨x,rfl,q⟩:=h
 exact⟨_,(pss_one (ps_ret pe_str)),q⟩
abbrev sWord_ho:Stmt:=inClass (top 28) 0
theorem scWord_ho:FnScope ["self"] ["self"] (defScope sWord_ho):=⟨rfl,rfl,rfl,by decide +kernel,rfl,by decide +kernel,by decide +kernel⟩
theorem ok_word_ho {dV:Value}(F:FunD K "word" "Hold.word" sWord_ho dV f fd):FnOk P w K mg base CX 1 f fd ["self"] (spWord .ho):=by
 refine F.ok scWord_ho (fun vs H Q E h=>?_) (fun cdv A outer s H vs Q E hr h=>?_)
 ·obtain⟨x,rfl,_⟩:=h
  rfl
 obtain⟨x,rfl,q⟩:=h
 exact⟨_,(pss_one (ps_ret pe_str)),q⟩
abbrev sRTold:Stmt:=inClass (top 25) 1
theorem scRTold:FnScope ["self"] ["self"] (defScope sRTold):=⟨rfl,rfl,rfl,by decide +kernel,rfl,by decide +kernel,by decide +kernel⟩
theorem ok_rtold {dV:Value}(F:FunD K "told" "Row.told" sRTold dV f fd)(T:RT K mg CR CK)(GW:∀k,FnOk P w K mg base CX0 1 (fW k) (fdW k) ["self"] (spWord k))(bW:∀k,Binds K (fdW k) ["self"] [])(mW:∀k,Meth K (CK k) "word" (fW k)):FnOk P w K mg base CX 2 f fd ["self"] (spRTold CK):=by
 refine F.ok scRTold (fun vs H Q E h=>?_) (fun cdv A outer s H vs Q E hr h=>?_)
 ·obtain⟨x,k,s,g,z,rfl,_⟩:=h
  rfl
 obtain⟨x,k,s,g,z,rfl,⟨dx,hx⟩,q⟩:=h
 refine⟨_,(pss_one (ps_ret (pe_tup (pa_cons (pe_methD0 (pv 0) T.cl mW GW hr bW .nil pass0) (pa_cons (pe_fld (pv 0) rfl) (pa_cons (pe_fld (pv 0) rfl) (pa_cons (pe_fld (pv 0) rfl) pa_nil))))))),?_⟩
 refine⟨_,rfl,k,x,dx,_,rfl,hx,(rflds_no _ _ _ (by decide +kernel) (by decide +kernel) (by decide +kernel)),_,rfl,?_⟩
 refine⟨_,rfl,x,CK k,dx,_,_,rfl,hx,T.cl k,T.nS k,rflds_start _ _ _,?_⟩
 refine⟨_,rfl,x,CK k,dx,_,_,rfl,hx,T.cl k,T.nG k,rflds_goal _ _ _,?_⟩
 refine⟨_,rfl,x,CK k,dx,_,_,rfl,hx,T.cl k,T.nZ k,rflds_size _ _ _,?_⟩
 exact⟨by show 4≤sizeLine;decide,q⟩
abbrev sRowOf:Stmt:=top 29
theorem scRowOf:FnScope ["told","word"] ["told"] (defScope sRowOf):=⟨rfl,rfl,rfl,by decide +kernel,rfl,by decide +kernel,by decide +kernel⟩
theorem ok_rowof {dV:Value}{gI:Addr}{gdI:FuncData}(F:FunD K "row_of" "row_of" sRowOf dV f fd)(T:RT K mg CR CK)(b:Bl mg)(ms:mg "str"=none)(GI:FnOk P w K mg base CX0 1 gI gdI ["self","start","goal","size"] (spRInit CK))(bI:Binds K gdI ["self","start","goal","size"] [])(MK:∀k,Mk K (CK k) gI):FnOk P w K mg base CX 3 f fd ["told"] (spRowOfG K CK):=by
 refine F.ok scRowOf (fun vs H Q E h=>?_) (fun cdv A outer s H vs Q E hr h=>?_)
 ·obtain⟨t,v,s,g,z,rfl,_⟩:=h
  rfl
 obtain⟨t,v,s,g,z,rfl,hT,k,rfl,q⟩:=h
 refine⟨_,(pss_cons (ps_set (i:=1) scRowOf.nd rfl (Or.inl rfl) (pe_ix ix_tup (pv 0) pe_int (fun _ _=>rfl)))
  (pss_cons (ps_if (PW.pt (pw_and (pt_val (pe_isiQ (i:=1) rfl (Or.inl rfl) b.isi ms rfl rfl PyProof.Rows.boot_str)) (pw_and1 (pt_cmpR op_eq (pv 1) pe_str (nomark _))))) (pss_one (ps_ret (pe_make (MK .pc) GI hr rfl (T.mK .pc) bI .nil pass0 (pa_cons (pe_ix ix_tup (pv 0) pe_int (fun _ _=>rfl)) (pa_cons (pe_ix ix_tup (pv 0) pe_int (fun _ _=>rfl)) (pa_cons (pe_ix ix_tup (pv 0) pe_int (fun _ _=>rfl)) pa_nil)))))) pss_nil)
  (pss_cons (ps_if (PW.pt (pw_and (pt_val (pe_isiQ (i:=1) rfl (Or.inl rfl) b.isi ms rfl rfl PyProof.Rows.boot_str)) (pw_and1 (pt_cmpR op_eq (pv 1) pe_str (nomark _))))) (pss_one (ps_ret (pe_make (MK .pu) GI hr rfl (T.mK .pu) bI .nil pass0 (pa_cons (pe_ix ix_tup (pv 0) pe_int (fun _ _=>rfl)) (pa_cons (pe_ix ix_tup (pv 0) pe_int (fun _ _=>rfl)) (pa_cons (pe_ix ix_tup (pv 0) pe_int (fun _ _=>rfl)) pa_nil)))))) pss_nil)
  (pss_cons (ps_if (PW.pt (pw_and (pt_val (pe_isiQ (i:=1) rfl (Or.inl rfl) b.isi ms rfl rfl PyProof.Rows.boot_str)) (pw_and1 (pt_cmpR op_eq (pv 1) pe_str (nomark _))))) (pss_one (ps_ret (pe_make (MK .ho) GI hr rfl (T.mK .ho) bI .nil pass0 (pa_cons (pe_ix ix_tup (pv 0) pe_int (fun _ _=>rfl)) (pa_cons (pe_ix ix_tup (pv 0) pe_int (fun _ _=>rfl)) (pa_cons (pe_ix ix_tup (pv 0) pe_int (fun _ _=>rfl)) pa_nil)))))) pss_nil)
  (pss_one ps_never))))),?_⟩
 cases k
 ·refine cut2 (fun _ _=>False) (fun X _=>?_) (fun _ _ h=>h.elim)
  refine⟨_,rfl,t,_,0,_,rfl,rfl,hT,rfl,?_⟩
  exact⟨_,_,true,rfl,.of (.str _),rfl,_,rfl,iteT ⟨_,rfl,rfl,_,rfl,ifT (dec_wd .pc .pc) ⟨_,rfl,t,_,1,s,rfl,rfl,hT,rfl,_,rfl,t,_,2,g,rfl,rfl,hT,rfl,_,rfl,t,_,3,z,rfl,rfl,hT,rfl,fun x dx h1 h2 ne=>⟨x,dx,.pc,s,g,z,rfl,upd_same,rfl,by rw[upd_upd];exact q x _ (Rw.new h1 h2 ne) h1 ⟨dx,upd_same⟩⟩⟩⟩⟩
 ·refine cut3 (fun _ _=>False) (fun X _=>?_) (fun _ _ h=>h.elim)
  refine⟨_,rfl,t,_,0,_,rfl,rfl,hT,rfl,?_⟩
  exact⟨_,_,true,rfl,.of (.str _),rfl,_,rfl,iteT ⟨_,rfl,rfl,_,rfl,ifF (dec_wd .pu .pc) (⟨_,_,true,rfl,.of (.str _),rfl,_,rfl,iteT ⟨_,rfl,rfl,_,rfl,ifT (dec_wd .pu .pu) ⟨_,rfl,t,_,1,s,rfl,rfl,hT,rfl,_,rfl,t,_,2,g,rfl,rfl,hT,rfl,_,rfl,t,_,3,z,rfl,rfl,hT,rfl,fun x dx h1 h2 ne=>⟨x,dx,.pu,s,g,z,rfl,upd_same,rfl,by rw[upd_upd];exact q x _ (Rw.new h1 h2 ne) h1 ⟨dx,upd_same⟩⟩⟩⟩⟩)⟩⟩
 ·refine cut4 (fun _ _=>False) (fun X _=>?_) (fun _ _ h=>h.elim)
  refine⟨_,rfl,t,_,0,_,rfl,rfl,hT,rfl,?_⟩
  exact⟨_,_,true,rfl,.of (.str _),rfl,_,rfl,iteT ⟨_,rfl,rfl,_,rfl,ifF (dec_wd .ho .pc) (⟨_,_,true,rfl,.of (.str _),rfl,_,rfl,iteT ⟨_,rfl,rfl,_,rfl,ifF (dec_wd .ho .pu) (⟨_,_,true,rfl,.of (.str _),rfl,_,rfl,iteT ⟨_,rfl,rfl,_,rfl,ifT (dec_wd .ho .ho) ⟨_,rfl,t,_,1,s,rfl,rfl,hT,rfl,_,rfl,t,_,2,g,rfl,rfl,hT,rfl,_,rfl,t,_,3,z,rfl,rfl,hT,rfl,fun x dx h1 h2 ne=>⟨x,dx,.ho,s,g,z,rfl,upd_same,rfl,by rw[upd_upd];exact q x _ (Rw.new h1 h2 ne) h1 ⟨dx,upd_same⟩⟩⟩⟩⟩)⟩⟩)⟩⟩
abbrev sIsF:Stmt:=top 13
theorem scIsF:FnScope ["thing"] ["thing"] (defScope sIsF):=⟨rfl,rfl,rfl,by decide +kernel,rfl,by decide +kernel,by decide +kernel⟩
theorem ok_isf {dV:Value}(F:FunD K "is_fraction" "is_fraction" sIsF dV f fd)(b:Bl mg)(ml:mg "len"=none)(mt:mg "tuple"=none)(G1:FnOk P w K mg base CX0 1 g1 gd1 ["thing"] (spWhole K))(b1:Binds K gd1 ["thing"] [])(k1:PySem.W.keepIn K (.ref g1)=true)(m1:mg "is_whole"=some (.ref g1))(G2:FnOk P w K mg base CX0 1 g2 gd2 ["one","other"] spGc)(b2:Binds K gd2 ["one","other"] [])(k2:PySem.W.keepIn K (.ref g2)=true)(m2:mg "greatest_common"=some (.ref g2)) :
  FnOk P w K mg base CX 2 f fd ["thing"] (spIsFV K):=by
 refine F.ok scIsF (fun vs H Q E h=>?_) (fun cdv A outer s H vs Q E hr h=>?_)
 ·obtain⟨v,o,rfl,hz,q⟩:=h
  rfl
 obtain⟨v,o,rfl,hz,q⟩:=h
 refine⟨_,(pss_cons (ps_if (PW.pt (pw_or (pt_not (pt_val (pe_isiQ (i:=0) rfl (Or.inl rfl) b.isi mt rfl rfl PyProof.Rows.boot_tuple))) (pw_or1 (pt_cmpR op_ne (pe_callB call_len_seq rfl ml PySem.boot_len (pa_cons (pv 0) pa_nil)) pe_int (nomark _))))) (pss_one (ps_ret pe_bl)) pss_nil)
  (pss_cons (ps_if (PW.pt (pw_or (pt_not (pt_val (pe_call G1 hr rfl m1 k1 b1 .nil pass0 (pa_cons (pe_ix ix_tup (pv 0) pe_int (fun _ _=>rfl)) pa_nil)))) (pw_or1 (pt_not (pt_val (pe_call G1 hr rfl m1 k1 b1 .nil pass0 (pa_cons (pe_ix ix_tup (pv 0) pe_int (fun _ _=>rfl)) pa_nil))))))) (pss_one (ps_ret pe_bl)) pss_nil)
  (pss_one (ps_ret (pe_and (pe_cmpR op_ge (pe_ix ix_tup (pv 0) pe_int (fun _ _=>rfl)) pe_int (nomark _)) (pe_one (pe_cmpR op_eq (pe_call G2 hr rfl m2 k2 b2 .nil pass0 (pa_cons (pe_ix ix_tup (pv 0) pe_int (fun _ _=>rfl)) (pa_cons (pe_ix ix_tup (pv 0) pe_int (fun _ _=>rfl)) pa_nil))) pe_int (nomark _)))))))),?_⟩
 cases hz with
 |fr fa hp=>
  refine⟨_,_,true,rfl,.tup fa,rfl,_,rfl,iteF ⟨_,rfl,_,_,rfl,.inr fa,rfl,_,rfl,iteF ?_⟩⟩
  refine rd_ix0 rfl fa ⟨_,rfl,.inl ⟨_,rfl,_,rfl,iteF (rd_ix1 rfl fa ⟨_,rfl,.inl ⟨_,rfl,_,rfl,iteF ?_⟩⟩)⟩⟩
  have h1:=hp.pos
  refine rd_ix1 rfl fa ⟨_,_,rfl,rfl,_,rfl,ifT (decide_eq_true (by omega)) (rd_ix0 rfl fa (rd_ix1 rfl fa ⟨_,_,rfl,rfl,?_⟩))⟩
  rw[hp.one]
  exact q
 |ty h n=>exact⟨_,_,false,rfl,h,n,_,rfl,iteT q⟩
 |len h=>exact⟨_,_,true,rfl,.tup h,rfl,_,rfl,iteF ⟨_,rfl,_,_,rfl,.inr h,rfl,_,rfl,iteT q⟩⟩
 |n0 h ty n=>
  refine⟨_,_,true,rfl,.tup h,rfl,_,rfl,iteF ⟨_,rfl,_,_,rfl,.inr h,rfl,_,rfl,iteF ?_⟩⟩
  exact⟨_,rfl,_,_,0,_,rfl,rfl,h,rfl,_,rfl,.inr ⟨_,ty,n,_,rfl,iteT q⟩⟩
 |n1 h ty n=>
  refine⟨_,_,true,rfl,.tup h,rfl,_,rfl,iteF ⟨_,rfl,_,_,rfl,.inr h,rfl,_,rfl,iteF ?_⟩⟩
  exact⟨_,rfl,_,_,0,_,rfl,rfl,h,rfl,_,rfl,.inl ⟨_,rfl,_,rfl,iteF ⟨_,rfl,_,_,1,_,rfl,rfl,h,rfl,_,rfl,.inr ⟨_,ty,n,_,rfl,iteT q⟩⟩⟩⟩
 |fb fa c=>
  refine⟨_,_,true,rfl,.tup fa,rfl,_,rfl,iteF ⟨_,rfl,_,_,rfl,.inr fa,rfl,_,rfl,iteF ?_⟩⟩
  refine rd_ix0 rfl fa ⟨_,rfl,.inl ⟨_,rfl,_,rfl,iteF (rd_ix1 rfl fa ⟨_,rfl,.inl ⟨_,rfl,_,rfl,iteF ?_⟩⟩)⟩⟩
  rcases c with c | ⟨c,d⟩
  ·exact rd_ix1 rfl fa ⟨_,_,rfl,rfl,_,rfl,ifF (decide_eq_false (by omega)) q⟩
  ·refine rd_ix1 rfl fa ⟨_,_,rfl,rfl,_,rfl,ifT (decide_eq_true c) (rd_ix0 rfl fa (rd_ix1 rfl fa ⟨_,_,rfl,rfl,?_⟩))⟩
   rw[decide_eq_false (fun e=>d (by injection e))]
   exact q
abbrev sPS:Stmt:=top 30
theorem scPS:FnScope ["thing"] ["thing"] (defScope sPS):=⟨rfl,rfl,rfl,by decide +kernel,rfl,by decide +kernel,by decide +kernel⟩
theorem ok_ps {dV:Value}(F:FunD K "is_piece_size" "is_piece_size" sPS dV f fd){aN:Addr}(fN:∀H,Fq K H aN (0,1))(mNO:mg "NOUGHT"=some (.ref aN))(G1:FnOk P w K mg base CX0 2 g1 gd1 ["thing"] (spIsFV K))(b1:Binds K gd1 ["thing"] [])(k1:PySem.W.keepIn K (.ref g1)=true)(m1:mg "is_fraction"=some (.ref g1))(G2:FnOk P w K mg base CX0 1 g2 gd2 ["one","other"] (spUnder K))(b2:Binds K gd2 ["one","other"] [])(k2:PySem.W.keepIn K (.ref g2)=true)(m2:mg "under"=some (.ref g2)) :
  FnOk P w K mg base CX 3 f fd ["thing"] (spPSV K):=by
 refine F.ok scPS (fun vs H Q E h=>?_) (fun cdv A outer s H vs Q E hr h=>?_)
 ·obtain⟨v,o,rfl,hz,hb,q⟩:=h
  rfl
 obtain⟨v,o,rfl,hz,hb,q⟩:=h
 have r1:=hr.mono (show 1≤2 by omega)
 refine⟨_,(pss_one (ps_ret (pe_and (pe_call G1 hr rfl m1 k1 b1 .nil pass0 (pa_cons (pv 0) pa_nil)) (pe_one (pe_call G2 r1 rfl m2 k2 b2 .nil pass0 (pa_cons (pe_glob (v:=.ref aN) rfl mNO rfl) (pa_cons (pv 0) pa_nil))))))),?_⟩
 refine⟨_,rfl,v,o,rfl,hz,_,rfl,?_⟩
 cases o with
 |none=>exact iteF q
 |some p=>
  cases hz with
  |fr fa hp=>
   refine iteT ⟨_,rfl,aN,_,_,p,1,100,rfl,fN _,fa,⟨show (0:Nat) < 2 ^ 1 by decide,show (1:Nat) < 2 ^ 1 by decide⟩,hb p rfl,by omega,?_⟩
   have e:decide ((0,1).1*p.2 < p.1*(0,1).2)=okz .pc (some p):=by
    show decide ((0:Int)*p.2 < p.1*1)=decide (0 < p.1)
    rw[Int.zero_mul,Int.mul_one]
   rw[e]
   exact q
abbrev sNB:Stmt:=top 35
theorem scNB:FnScope ["thing","bound"] ["thing","bound"] (defScope sNB):=⟨rfl,rfl,rfl,by decide +kernel,rfl,by decide +kernel,by decide +kernel⟩
theorem ok_nb {dV:Value}(F:FunD K "is_number_below" "is_number_below" sNB dV f fd)(G1:FnOk P w K mg base CX0 1 g1 gd1 ["thing"] (spWhole K))(b1:Binds K gd1 ["thing"] [])(k1:PySem.W.keepIn K (.ref g1)=true)(m1:mg "is_whole"=some (.ref g1)) :
  FnOk P w K mg base CX 2 f fd ["thing","bound"] spNB:=by
 refine F.ok scNB (fun vs H Q E h=>?_) (fun cdv A outer s H vs Q E hr h=>?_)
 ·obtain⟨i,b',rfl,h0,h1,q⟩:=h
  rfl
 obtain⟨i,b',rfl,h0,h1,q⟩:=h
 refine⟨_,(pss_one (ps_ret (pe_and (pe_call G1 hr rfl m1 k1 b1 .nil pass0 (pa_cons (pv 0) pa_nil)) (pe_and (pe_cmpR op_ge (pv 0) pe_int (nomark _)) (pe_one (pe_cmpR op_lt (pv 0) (pv 1) (nomark _))))))),?_⟩
 refine⟨_,rfl,_,rfl,.inl ⟨i,rfl,_,rfl,iteT ⟨_,rfl,_,_,rfl,rfl,_,rfl,ifT (decide_eq_true h0) ⟨_,rfl,_,rfl,_,_,rfl,rfl,?_⟩⟩⟩⟩
 show Q (.bl (decide (i < b'))) H
 rw[decide_eq_true h1]
 exact q
abbrev sRS:Stmt:=top 37
theorem scRS:FnScope ["word","size"] ["word","size"] (defScope sRS):=⟨rfl,rfl,rfl,by decide +kernel,rfl,by decide +kernel,by decide +kernel⟩
theorem ok_rs {dV:Value}(F:FunD K "refuse_size" "refuse_size" sRS dV f fd){CZ:Addr}(G1:FnOk P w K mg base CX0 2 g1 gd1 ["thing"] (spIsFV K))(b1:Binds K gd1 ["thing"] [])(k1:PySem.W.keepIn K (.ref g1)=true)(m1:mg "is_fraction"=some (.ref g1))(G2:FnOk P w K mg base CX0 3 g2 gd2 ["thing"] (spPSV K))(b2:Binds K gd2 ["thing"] [])(k2:PySem.W.keepIn K (.ref g2)=true)(m2:mg "is_piece_size"=some (.ref g2))(mN:mg "NoSize"=some (.ref CZ))(xN:ExcC K CZ) :
  FnOk P w K mg base (CX1 P w) 4 f fd ["word","size"] (spRSV K CZ):=by
 refine F.okX scRS (fun vs H Q E h=>?_) (fun cdv A outer s H vs Q E hr h=>?_)
 ·obtain⟨k,v,o,rfl,hz,hb,q1,q2⟩:=h
  rfl
 obtain⟨k,v,o,rfl,hz,hb,q1,q2⟩:=h
 have r2:=hr.mono (show 2≤3 by omega)
 refine⟨_,(pss_cons (ps_if (pt_not (pt_val (pe_call G1 r2 rfl m1 k1 b1 .nil pass0 (pa_cons (pv 1) pa_nil)))) (pss_one (ps_raise frm_cxOf xe_cxOf rfl rfl mN xN (pa_cons pe_str pa_nil))) pss_nil)
  (pss_one (ps_if (PW.pt (pw_and (pt_cmpR op_eq (pv 0) pe_str (nomark _)) (pw_and1 (pt_not (pt_val (pe_call G2 hr rfl m2 k2 b2 .nil pass0 (pa_cons (pv 1) pa_nil))))))) (pss_one (ps_raise frm_cxOf xe_cxOf rfl rfl mN xN (pa_cons pe_str pa_nil))) pss_nil))),?_⟩
 refine⟨_,rfl,v,o,rfl,hz,_,rfl,?_⟩
 cases o with
 |none=>exact iteT ⟨by show 1≤sizeLine;decide,q2 rfl⟩
 |some p=>
  refine iteF ?_
  cases k
  ·refine⟨_,rfl,rfl,_,rfl,ifT (dec_wd .pc .pc) ⟨_,rfl,v,some p,rfl,hz,hb,_,rfl,?_⟩⟩
   cases e:okz .pc (some p) with
   |true=>exact iteF (q1 e)
   |false=>exact iteT ⟨by show 1≤sizeLine;decide,q2 e⟩
  ·exact⟨_,rfl,rfl,_,rfl,ifF (dec_wd .pu .pc) (iteF (q1 rfl))⟩
  ·exact⟨_,rfl,rfl,_,rfl,ifF (dec_wd .ho .pc) (iteF (q1 rfl))⟩
theorem nd_point_many:(["point","many"]:List Str).Nodup:=by decide +kernel
def spRP (K:PySem.W.Frag):Sp:=fun vs H Q _=>∃(l:Addr) (i j m:Int),vs=[.ref l,.int m]∧SqL K H l [.int i,.int j]∧0≤i∧i < m∧0≤j∧j < m∧∀H',Same H H'→Q .non H'
abbrev sRP:Stmt:=top 36
theorem scRP:FnScope ["some","many"] ["some","many"] (defScope sRP):=⟨rfl,rfl,rfl,by decide +kernel,rfl,by decide +kernel,by decide +kernel⟩
theorem ok_rp {dV:Value}(F:FunD K "refuse_points" "refuse_points" sRP dV f fd)(ma:mg "all"=none)(G1:FnOk P w K mg base CX0 2 g1 gd1 ["thing","bound"] spNB)(b1:Binds K gd1 ["thing","bound"] [])(k1:PySem.W.keepIn K (.ref g1)=true)(m1:mg "is_number_below"=some (.ref g1)) :
  FnOk P w K mg base CX 3 f fd ["some","many"] (spRP K):=by
 refine F.ok scRP (fun vs H Q E h=>?_) (fun cdv A outer s H vs Q E hr h=>?_)
 ·obtain⟨l,i,j,m,rfl,hl,i0,i1,j0,j1,q⟩:=h
  rfl
 obtain⟨l,i,j,m,rfl,hl,i0,i1,j0,j1,q⟩:=h
 refine⟨_,(pss_one (ps_if (pt_not (pt_val (pe_callB (call_all rfl) rfl ma PyProof.Rows.boot_all (pa_cons (pe_comp (nl:=1) (fr:=[1]) (Nc:=["point","many"]) (cl:=[("many",s.heap.objs.size+1)]) rfl ⟨rfl,rfl,by decide +kernel,by decide +kernel,fun x c h=>h,has_of rfl,rfl,fun i n h=>match i,h with | 0,h=>by cases h;exact⟨1,rfl,rfl,rfl,rfl,.inl rfl⟩ | k+1,h=>by rw[show 1+(k+1)=k+2 by omega] at h;cases h⟩
    (pi_list (pv 0)) (fun C s3 H3 fp pins=>(pg_name (i:=0) nd_point_many rfl (Or.inl rfl))) (fun C s3 H3 fp pins=>pif_nil)
    (fun C s3 H3 fp pins=>(pe_call G1 hr rfl m1 k1 b1 .nil pass0 (pa_cons (pv 0) (pa_cons (pv 1) pa_nil))))) pa_nil)))) (pss_one ps_never) pss_nil)),?_⟩
 refine⟨_,rfl,l,rfl,⟨_,hl⟩,fun D hD=>?_⟩
 have sD:=same_new hD (.lst [])
 refine comp_list (xs:=[.int i,.int j]) (fun k zs H'=>Same H H'∧H' D=some (.lst zs)∧zs=(List.replicate k true).map V.bl) ⟨sD,upd_same,rfl⟩ (fun k zs H' h=>h.2.1) (fun k zs H' _ h=>h.1.seq hl) ?_ ?_
 ·rintro k zs x H1 hx ⟨s1,e1,rfl⟩ C hC
  have hk:k < 2:=(List.getElem?_eq_some_iff.mp hx).1
  obtain⟨y,rfl,y0,y1⟩:∃y,x=.int y∧0≤y∧y < m:=by
   rcases List.mem_cons.mp (List.mem_of_getElem? hx) with z | z
   ·exact⟨i,z,i0,i1⟩
   ·exact⟨j,by simpa using z,j0,j1⟩
  refine⟨keep1.1,keep1.2,iteT ?_⟩
  refine⟨_,rfl,_,rfl,y,m,rfl,y0,y1,e1,small1000 (by rw[List.length_map,List.length_replicate];omega),hC _ _ ⟨s1.change hD,upd_same,?_⟩⟩
  rw[List.replicate_succ',List.map_append];rfl
 ·rintro zs H1 ⟨s1,e1,rfl⟩
  refine⟨D,_,rfl,SqL.of e1,_,rfl,ifF ?_ ?_⟩
  ·simp
  ·exact q _ s1
abbrev sNInit:Stmt:=inClass (top 34) 0
theorem scNInit:FnScope ["self","many"] ["self","many"] (defScope sNInit):=⟨rfl,rfl,rfl,by decide +kernel,rfl,by decide +kernel,by decide +kernel⟩
theorem ok_ninit {dV:Value}{CN:Addr}(F:FunD K "__init__" "Net.__init__" sNInit dV f fd)(NTx:NT K mg CN){tM:Tok}{CP:Addr}(mN:mg "NoPoint"=some (.ref CP))(xN:ExcC K CP)(mMP:mg "MOST_POINTS"=some (.int 20 tM))(G1:FnOk P w K mg base CX0 1 g1 gd1 ["thing"] (spWhole K))(b1:Binds K gd1 ["thing"] [])(k1:PySem.W.keepIn K (.ref g1)=true)(m1:mg "is_whole"=some (.ref g1)):FnOk P w K mg base (CX1 P w) 2 f fd ["self","many"] (spNInitX CN K CP):=by
 refine F.okX scNInit (fun vs H Q E h=>?_) (fun cdv A outer s H vs Q E hr h=>?_)
 ·obtain⟨n,dx,v,rfl,hn,h⟩:=h
  rfl
 obtain⟨n,dx,v,rfl,hn,h⟩:=h
 refine⟨_,(pss_cons (ps_if (PW.pt (pw_or (pt_not (pt_val (pe_call G1 hr rfl m1 k1 b1 .nil pass0 (pa_cons (pv 1) pa_nil)))) (pw_or (pt_cmpR op_lt (pv 1) pe_int (nomark _)) (pw_or1 (pt_cmpR op_gt (pv 1) (pe_glob (v:=.int 20) rfl mMP ⟨_,rfl⟩) (nomark _)))))) (pss_one (ps_raise frm_cxOf xe_cxOf rfl rfl mN xN (pa_cons pe_str pa_nil))) pss_nil)
  (pss_cons (ps_fld (pv 0) (pv 1) rfl)
  (pss_one (ps_fld (pv 0) (pe_lst pa_nil) rfl)))),?_⟩
 have one:([V.str "x"]:List V).length≤sizeLine:=by show 1≤sizeLine;decide
 rcases h with ⟨m,rfl,h1,h20,q⟩ | ⟨⟨m,rfl,h⟩ | ⟨t,ty,nw⟩,q⟩
 ·refine⟨_,rfl,_,rfl,.inl ⟨m,rfl,_,rfl,iteF ⟨_,rfl,_,_,rfl,rfl,_,rfl,ifF (decide_eq_false (by omega)) ⟨_,rfl,_,_,rfl,rfl,_,rfl,ifF (decide_eq_false (by omega)) ?_⟩⟩⟩⟩
  refine⟨_,rfl,_,rfl,n,CN,dx,[],rfl,hn,NTx.cl,NTx.nP,(by show 0 < 1000;decide),?_⟩
  refine⟨by show 0≤sizeLine;decide,fun l hl=>?_⟩
  have nl:n≠l:=fun z=>by subst z;rw[upd_same] at hl;cases hl
  have hl0:H l=none:=by rw[upd_ne (Ne.symm nl)] at hl;exact hl
  have l1:=length_putF ("point_count":Str) (.int m) []
  simp only[List.length_nil] at l1
  refine⟨_,rfl,n,CN,dx,putF "point_count" (.int m) [],rfl,by rw[upd_ne nl];exact upd_same,NTx.cl,NTx.nK,by omega,?_⟩
  refine q l _ hl0 (fun b o e hb=>?_) upd_same (by rw[upd_ne (Ne.symm nl)];exact upd_same)
  rw[upd_ne hb,upd_ne (ne_of_none e hl0),upd_ne hb]
  exact e
 ·refine⟨_,rfl,_,rfl,.inl ⟨m,rfl,_,rfl,iteF ⟨_,rfl,_,_,rfl,rfl,_,rfl,?_⟩⟩⟩
  by_cases h1:m < 1
  ·exact ifT (decide_eq_true h1) ⟨one,q⟩
  ·exact ifF (decide_eq_false h1) ⟨_,rfl,_,_,rfl,rfl,_,rfl,ifT (decide_eq_true (by omega)) ⟨one,q⟩⟩
 ·exact⟨_,rfl,_,rfl,.inr ⟨t,ty,nw,_,rfl,iteT ⟨one,q⟩⟩⟩
abbrev sMany:Stmt:=inClass (top 34) 1
theorem scMany:FnScope ["self"] ["self"] (defScope sMany):=⟨rfl,rfl,rfl,by decide +kernel,rfl,by decide +kernel,by decide +kernel⟩
theorem ok_many {dV:Value}{CN:Addr}(F:FunD K "many" "Net.many" sMany dV f fd)(NTx:NT K mg CN):FnOk P w K mg base CX 1 f fd ["self"] (spMany CN K):=by
 refine F.ok scMany (fun vs H Q E h=>?_) (fun cdv A outer s H vs Q E hr h=>?_)
 ·obtain⟨n,l,m,ds,rfl,⟨⟨dx,hn⟩,ts,hl,hr'⟩,q⟩:=h
  rfl
 obtain⟨n,l,m,ds,rfl,⟨⟨dx,hn⟩,ts,hl,hr'⟩,q⟩:=h
 exact⟨_,(pss_one (ps_ret (pe_fld (pv 0) rfl))),_,rfl,n,CN,dx,_,_,rfl,hn,NTx.cl,NTx.nP,nflds_pc _ _,q⟩
abbrev sCount:Stmt:=inClass (top 34) 2
abbrev sNTold:Stmt:=inClass (top 34) 6
theorem scNTold:FnScope ["self"] ["self"] (defScope sNTold):=⟨rfl,rfl,rfl,by decide +kernel,rfl,by decide +kernel,by decide +kernel⟩
theorem ok_ntold {dV:Value}{CN:Addr}(F:FunD K "told" "Net.told" sNTold dV f fd)(NTx:NT K mg CN)(mli:mg "list"=none):FnOk P w K mg base CX 1 f fd ["self"] (spNTold CN K):=by
 refine F.ok scNTold (fun vs H Q E h=>?_) (fun cdv A outer s H vs Q E hr h=>?_)
 ·obtain⟨n,l,m,ds,rfl,⟨⟨dx,hn⟩,ts,hl,hr'⟩,q⟩:=h
  rfl
 obtain⟨n,l,m,ds,rfl,⟨⟨dx,hn⟩,ts,hl,hr'⟩,q⟩:=h
 refine⟨_,(pss_one (ps_ret (pe_callTy call_list_of rfl mli PyProof.Rows.boot_list (pa_cons (pe_fld (pv 0) rfl) pa_nil)))),_,rfl,n,CN,dx,_,_,rfl,hn,NTx.cl,NTx.nK,nflds_kept _ _,l,ts,rfl,.inl (SqL.of hl),fun a ha=>?_⟩
 have sa:=same_new ha (.lst ts)
 exact q a ts _ sa ha upd_same (hr'.same sa)
abbrev sAdd:Stmt:=inClass (top 34) 3
theorem scAdd:FnScope ["self","row","told"] ["self","row"] (defScope sAdd):=⟨rfl,rfl,rfl,by decide +kernel,rfl,by decide +kernel,by decide +kernel⟩
theorem ok_add {dV:Value}{CN:Addr}(F:FunD K "add" "Net.add" sAdd dV f fd)(NTx:NT K mg CN){tR:Tok}(mMR:mg "MOST_ROWS"=some (.int 40 tR))(ml:mg "len"=none){gT:Addr}{gdT:FuncData}(T:RT K mg CR CK)(GT:FnOk P w K mg base CX0 2 gT gdT ["self"] (spRTold CK))(bT:Binds K gdT ["self"] [])(mT:∀k,Meth K (CK k) "told" gT)(G1:FnOk P w K mg base CX0 3 g1 gd1 ["some","many"] (spRP K))(b1:Binds K gd1 ["some","many"] [])(k1:PySem.W.keepIn K (.ref g1)=true)(m1:mg "refuse_points"=some (.ref g1))(G2:FnOk P w K mg base CX0 4 g2 gd2 ["word","size"] (spRS K))(b2:Binds K gd2 ["word","size"] [])(k2:PySem.W.keepIn K (.ref g2)=true)(m2:mg "refuse_size"=some (.ref g2)):FnOk P w K mg base CX 5 f fd ["self","row"] (spAdd CN K CK):=by
 refine F.ok scAdd (fun vs H Q E h=>?_) (fun cdv A outer s H vs Q E hr h=>?_)
 ·obtain⟨n,l,x,z,m,ds,k,i,j,p,rfl,⟨⟨dx,hn⟩,ts,hl,hR⟩,rw,fz,⟨i0,i1,j0,j1,lp,h0,bp⟩,h40,q⟩:=h
  rfl
 obtain⟨n,l,x,z,m,ds,k,i,j,p,rfl,⟨⟨dx,hn⟩,ts,hl,hR⟩,rw,fz,⟨i0,i1,j0,j1,lp,h0,bp⟩,h40,q⟩:=h
 have r2:=hr.mono (show 2≤4 by omega)
 have r3:=hr.mono (show 3≤4 by omega)
 refine⟨_,(pss_cons (ps_set (i:=2) scAdd.nd rfl (Or.inl rfl) (pe_methD0 (f:=fun _=>gT) (fd:=fun _=>gdT) (sp:=fun _=>spRTold CK) (pv 1) T.cl mT (fun _=>GT) r2 (fun _=>bT) .nil pass0))
  (pss_cons (ps_expr (pe_call G1 r3 rfl m1 k1 b1 .nil pass0 (pa_cons (pe_lst (pa_cons (pe_ix ix_tup (pv 2) pe_int (fun _ _=>rfl)) (pa_cons (pe_ix ix_tup (pv 2) pe_int (fun _ _=>rfl)) pa_nil))) (pa_cons (pe_fld (pv 0) rfl) pa_nil))))
  (pss_cons (ps_expr (pe_call G2 hr rfl m2 k2 b2 .nil pass0 (pa_cons (pe_ix ix_tup (pv 2) pe_int (fun _ _=>rfl)) (pa_cons (pe_ix ix_tup (pv 2) pe_int (fun _ _=>rfl)) pa_nil))))
  (pss_cons (ps_if (pt_cmpR op_ge (pe_callB call_len_seq rfl ml PySem.boot_len (pa_cons (pe_fld (pv 0) rfl) pa_nil)) (pe_glob (v:=.int 40) rfl mMR ⟨_,rfl⟩) (nomark _)) (pss_one ps_never) pss_nil)
  (pss_cons (ps_expr (pe_bm PySem.F.plainAttrs_list PySem.F.slot_list_append PySem.F.type_list_append mt_append (pe_fld (pv 0) rfl) (pa_cons (pv 2) pa_nil)))
  (pss_one (ps_ret (pe_op op_sub (pe_callB call_len_seq rfl ml PySem.boot_len (pa_cons (pe_fld (pv 0) rfl) pa_nil)) pe_int)))))))),?_⟩
 obtain⟨dr,hx⟩:=id rw
 have len:=hR.length
 refine⟨_,rfl,k,x,dr,_,rfl,hx,(rflds_no _ _ _ (by decide +kernel) (by decide +kernel) (by decide +kernel)),x,k,_,_,_,rfl,rw,fun t ht=>?_⟩
 have st:=same_new ht (.tup [.str k.wd,.int i,.int j,.ref z])
 have et:SqT K (upd H t (.tup [.str k.wd,.int i,.int j,.ref z])) t [.str k.wd,.int i,.int j,.ref z]:=SqT.of upd_same
 generalize upd H t (.tup [.str k.wd,.int i,.int j,.ref z])=H1a at st et ⊢
 have hn1:=st _ _ hn
 have hl1:=st _ _ hl
 refine⟨_,rfl,t,_,1,_,rfl,rfl,et,rfl,_,rfl,t,_,2,_,rfl,rfl,et,rfl,by show 2≤sizeLine;decide,fun lq hlq=>?_⟩
 have sq:=same_new hlq (.lst [.int i,.int j])
 have eq:upd H1a lq (.lst [.int i,.int j]) lq=some (.lst [.int i,.int j]):=upd_same
 generalize upd H1a lq (.lst [.int i,.int j])=H1b at sq eq ⊢
 have hnb:=sq _ _ hn1
 refine⟨_,rfl,n,CN,dx,_,_,rfl,hnb,NTx.cl,NTx.nP,nflds_pc _ _,lq,i,j,m,rfl,SqL.of eq,i0,i1,j0,j1,fun H1 sc=>?_⟩
 have sqc:=sq.trans sc
 have st:=st.trans sqc
 have et:=sqc.seqT et
 have hn1:=sqc _ _ hn1
 have hl1:=sqc _ _ hl1
 refine⟨_,rfl,t,_,0,_,rfl,rfl,et,rfl,_,rfl,t,_,3,_,rfl,rfl,et,rfl,k,z,p,rfl,st.fq fz,lp,h0,bp,?_⟩
 refine⟨_,rfl,n,CN,dx,_,_,rfl,hn1,NTx.cl,NTx.nK,nflds_kept _ _,l,ts,rfl,.inl (SqL.of hl1),_,_,rfl,rfl,_,rfl,ifF (decide_eq_false (by omega)) ?_⟩
 refine⟨_,rfl,n,CN,dx,_,_,rfl,hn1,NTx.cl,NTx.nK,nflds_kept _ _,.inl ⟨rfl,_,SqL.of hl1⟩,_,rfl,l,ts,.ref t,rfl,rfl,hl1,small1000 (by omega),?_⟩
 have nn:n≠l:=ne_of hn1 hl1 (fun z=>by cases z)
 have hn2:upd H1 l (.lst (ts++[.ref t])) n=some (.ins CN dx (nflds m l)):=by rw[upd_ne nn];exact hn1
 have hl2:upd H1 l (.lst (ts++[.ref t])) l=some (.lst (ts++[.ref t])):=upd_same
 refine⟨_,rfl,n,CN,dx,_,_,rfl,hn2,NTx.cl,NTx.nK,nflds_kept _ _,l,_,rfl,.inl (SqL.of hl2),_,_,rfl,rfl,?_⟩
 show Q (.int (((ts++[V.ref t]).length:Int) - 1)) _
 rw[List.length_append,List.length_singleton,len,show (((ds.length+1:Nat):Int) - 1)=(ds.length:Int) by omega]
 refine q _ (st.x.write) ⟨⟨dx,hn2⟩,_,hl2,Rts.upd hl1 ((hR.same st).app (.cons et (st.fq fz) .nil))⟩
theorem rs_good {g CZ:Addr}{gd:FuncData}(F:FnOk P w K mg base (CX1 P w) 4 g gd ["word","size"] (spRSV K CZ)):FnOk P w K mg base CX0 4 g gd ["word","size"] (spRS K):=
 F.calm.weak fun vs H Q E h=>by
  obtain⟨k,z,p,rfl,f,l,p0,bd,q⟩:=h
  have ok:okz k (some p)=true:=by cases k<;>first | exact decide_eq_true (p0 rfl) | rfl
  exact⟨k,_,some p,rfl,.fr f l,fun p' e=>by cases e;exact bd,fun _=>q,fun z=>by rw[ok] at z;cases z⟩
abbrev sRAt:Stmt:=inClass (top 25) 2
theorem scRAt:FnScope ["self","places"] ["self","places"] (defScope sRAt):=⟨rfl,rfl,rfl,by decide +kernel,rfl,by decide +kernel,by decide +kernel⟩
theorem ok_rat {dV:Value}(F:FunD K "at" "Row.at" sRAt dV f fd)(T:RT K mg CR CK)(GW:∀k,FnOk P w K mg base CX0 1 (fW k) (fdW k) ["self"] (spWord k))(bW:∀k,Binds K (fdW k) ["self"] [])(mW:∀k,Meth K (CK k) "word" (fW k))(G1:FnOk P w K mg base CX0 3 g1 gd1 ["told"] (spRowOfG K CK))(b1:Binds K gd1 ["told"] [])(k1:PySem.W.keepIn K (.ref g1)=true)(m1:mg "row_of"=some (.ref g1)):FnOk P w K mg base CX 4 f fd ["self","places"] (spAtL K CK):=by
 refine F.ok scRAt (fun vs H Q E h=>?_) (fun cdv A outer s H vs Q E hr h=>?_)
 ·obtain⟨x,l,k,i,j,z,v,w',xs,rfl,_⟩:=h
  rfl
 obtain⟨x,l,k,i,j,z,v,w',xs,rfl,⟨dx,hx⟩,hS,hi,hj,q⟩:=h
 have r1:=hr.mono (show 1≤3 by omega)
 refine⟨_,(pss_one (ps_ret (pe_call G1 hr rfl m1 k1 b1 .nil pass0 (pa_cons (pe_tup (pa_cons (pe_methD0 (pv 0) T.cl mW GW r1 bW .nil pass0) (pa_cons (pe_ix ix_list (pv 1) (pe_fld (pv 0) rfl) (fun _ _=>rfl)) (pa_cons (pe_ix ix_list (pv 1) (pe_fld (pv 0) rfl) (fun _ _=>rfl)) (pa_cons (pe_fld (pv 0) rfl) pa_nil))))) pa_nil)))),?_⟩
 refine⟨_,rfl,k,x,dx,_,rfl,hx,(rflds_no _ _ _ (by decide +kernel) (by decide +kernel) (by decide +kernel)),_,rfl,?_⟩
 refine⟨_,rfl,_,rfl,x,CK k,dx,_,_,rfl,hx,T.cl _,T.nS _,rflds_start _ _ _,l,xs,_,_,rfl,rfl,hS,hi,?_⟩
 refine⟨_,rfl,_,rfl,x,CK k,dx,_,_,rfl,hx,T.cl _,T.nG _,rflds_goal _ _ _,l,xs,_,_,rfl,rfl,hS,hj,?_⟩
 refine⟨_,rfl,x,CK k,dx,_,_,rfl,hx,T.cl _,T.nZ _,rflds_size _ _ _,by show 4≤sizeLine;decide,fun t ht=>?_⟩
 have st:=same_new ht (.tup [.str k.wd,v,w',z])
 exact⟨t,_,v,w',z,rfl,SqT.of upd_same,k,rfl,q.same st⟩
end
section
variable {P:Program} {w:World} {K:PySem.W.Frag} {mg:Str→Option Value} {base:Heap} {f g1 g2 g3 g4 g5 g6 g7 g8:Addr} {fd gd1 gd2 gd3 gd4 gd5 gd6 gd7 gd8:FuncData} {CX:CXT}
variable {CR:Addr} {CK:Kd→Addr} {fW fJ fT fS:Kd→Addr} {fdW fdJ fdT fdS:Kd→FuncData}
def ltB (c:Nat):Bool:=decide (97≤c∧c≤122)
def nmB (cs:List Nat):Bool:=decide (1≤cs.length∧cs.length≤8) && cs.all ltB
theorem in_letters (c:Nat):(!(Builtin.Str.occurrences "abcdefghijklmnopqrstuvwxyz" ⟨#[c]⟩ 0 ("abcdefghijklmnopqrstuvwxyz":Str).length 1).isEmpty)=ltB c:=by
 rw[StrLaws.found_one]
 unfold ltB
 rw[Bool.eq_iff_iff,decide_eq_true_eq,decide_eq_true_eq]
 have e:("abcdefghijklmnopqrstuvwxyz":Str).cps.toList=[97,98,99,100,101,102,103,104,105,106,107,108,109,110,111,112,113,114,115,116,117,118,119,120,121,122]:=by decide +kernel
 rw[e]
 simp only[List.mem_cons,List.not_mem_nil,or_false]
 omega
def NoStr (K:PySem.W.Frag)(H:Hp)(x:V):Prop:=∃t,TyQ K H x t∧PySem.W.kitOne K t (.type "str")=some false
def spName (K:PySem.W.Frag):Sp:=fun vs H Q _=>∃x,vs=[x]∧((∃cs,x=.str (S cs)∧cs.length≤1000000∧∀H',Same H H'→Q (.bl (nmB cs)) H')∨(NoStr K H x∧Q (.bl false) H))
theorem nd_sign:(["sign"]:List Str).Nodup:=by decide +kernel
abbrev sName:Stmt:=top 45
theorem scName:FnScope ["thing"] ["thing"] (defScope sName):=⟨rfl,rfl,rfl,by decide +kernel,rfl,by decide +kernel,by decide +kernel⟩
theorem ok_name {dV:Value}(F:FunD K "is_name" "is_name" sName dV f fd)(b:Bl mg)(ms:mg "str"=none)(ml:mg "len"=none)(ma:mg "all"=none){tL tM:Tok}(mLE:mg "LETTERS"=some (.str "abcdefghijklmnopqrstuvwxyz" tL))(mML:mg "MOST_LETTERS"=some (.int 8 tM)) :
  FnOk P w K mg base CX 1 f fd ["thing"] (spName K):=by
 refine F.ok scName (fun vs H Q E h=>?_) (fun cdv A outer s H vs Q E hr h=>?_)
 ·obtain⟨x,rfl,h⟩:=h
  rfl
 obtain⟨x,rfl,h⟩:=h
 refine⟨_,(pss_cons (ps_if (PW.pt (pw_or (pt_not (pt_val (pe_isiQ (i:=0) rfl (Or.inl rfl) b.isi ms rfl rfl PyProof.Rows.boot_str))) (pw_or (pt_cmpR op_lt (pe_callB call_len_str rfl ml PySem.boot_len (pa_cons (pv 0) pa_nil)) pe_int (nomark _)) (pw_or1 (pt_cmpR op_gt (pe_callB call_len_str rfl ml PySem.boot_len (pa_cons (pv 0) pa_nil)) (pe_glob (v:=.int 8) rfl mML ⟨_,rfl⟩) (nomark _)))))) (pss_one (ps_ret pe_bl)) pss_nil)
  (pss_one (ps_ret (pe_callB (call_all rfl) rfl ma PyProof.Rows.boot_all (pa_cons (pe_comp (nl:=1) (fr:=[]) (Nc:=["sign"]) (cl:=[]) rfl ⟨rfl,rfl,by decide +kernel,by decide +kernel,fun x c h=>(by cases h),has_of rfl,rfl,fun i n h=>(by simp at h)⟩
    (pi_str (pv 0)) (fun C s3 H3 fp pins=>(pg_name (i:=0) nd_sign rfl (Or.inl rfl))) (fun C s3 H3 fp pins=>pif_nil)
    (fun C s3 H3 fp pins=>(pe_cmpR op_in_str (pv 0) (pe_glob (v:=.str "abcdefghijklmnopqrstuvwxyz") rfl mLE ⟨_,rfl⟩) rfl))) pa_nil))))),?_⟩
 have hz:sizeLine=16777216:=sizeLine_eq
 rcases h with ⟨cs,rfl,hl,q⟩ | ⟨⟨t,ty,nw⟩,q⟩
 rotate_left
 ·exact⟨_,_,false,rfl,ty,nw,_,rfl,iteT q⟩
 refine⟨_,_,true,rfl,.of (.str _),(by with_unfolding_all rfl),_,rfl,iteF ?_⟩
 have no:¬(1≤cs.length∧cs.length≤8)→Q (.bl false) H:=fun c=>by
  have:=q H (Same.refl H)
  unfold nmB at this
  rw[decide_eq_false c,Bool.false_and] at this
  exact this
 refine⟨_,rfl,_,rfl,by rw[S_len];omega,_,_,rfl,rfl,_,rfl,?_⟩
 rw[S_len]
 refine ite2 (fun c=>?_) (fun c=>?_)
 ·have c':=of_decide_eq_true c
  exact no (by omega)
 have c1:1≤cs.length:=by
  simp only[decide_eq_true_eq] at c
  omega
 refine⟨_,rfl,_,rfl,by rw[S_len];omega,_,_,rfl,rfl,_,rfl,?_⟩
 rw[S_len]
 refine ite2 (fun c=>?_) (fun c=>?_)
 ·have c':=of_decide_eq_true c
  exact no (by omega)
 have c2:cs.length≤8:=by
  simp only[decide_eq_true_eq] at c
  omega
 refine⟨_,rfl,_,rfl,fun D hD=>?_⟩
 have sD:=same_new hD (.lst [])
 refine comp_str (fun i ys H'=>Same H H'∧H' D=some (.lst ys)∧ys=(cs.take i).map (fun c=>V.bl (ltB c))) ⟨sD,upd_same,rfl⟩ (fun i ys H' h=>h.2.1) ?_ ?_
 ·rintro i ys c H1 hc ⟨s1,e1,rfl⟩ C hC
  refine⟨keep1.1,keep1.2,iteT ?_⟩
  refine⟨_,rfl,_,_,rfl,rfl,?_⟩
  rw[in_letters]
  have hi:i < cs.length:=(List.getElem?_eq_some_iff.mp hc).1
  refine⟨e1,by simp only[List.length_map,List.length_take];omega,hC _ _ ⟨s1.change hD,upd_same,?_⟩⟩
  rw[List.take_succ,hc,List.map_append]
  rfl
 ·rintro ys H1 ⟨s1,e1,rfl⟩
  refine⟨D,cs.map ltB,rfl,?_,?_⟩
  ·rw[List.take_length] at e1
   rw[List.map_map]
   exact SqL.of e1
  ·have:=q H1 s1
   unfold nmB at this
   rw[decide_eq_true ⟨c1,c2⟩,Bool.true_and] at this
   rw[List.all_map]
   exact this
def spRNames (K:PySem.W.Frag)(CM:Addr):Sp:=fun vs H Q E=>∃(l:Addr) (X:List (List Nat)),vs=[.ref l]∧SqL K H l (X.map fun cs=>V.str (S cs))∧X.length≤1000∧(∀cs∈X,cs.length≤1000000)∧∀H',Same H H'→(X.all nmB=true→Q .non H')∧(X.all nmB=false→E (.ref CM) none H')
theorem nd_word:(["word"]:List Str).Nodup:=by decide +kernel
abbrev sRNames:Stmt:=top 50
theorem scRNames:FnScope ["words"] ["words"] (defScope sRNames):=⟨rfl,rfl,rfl,by decide +kernel,rfl,by decide +kernel,by decide +kernel⟩
theorem ok_rnames {dV:Value}(F:FunD K "refuse_names" "refuse_names" sRNames dV f fd){CM:Addr}(ma:mg "all"=none)(G1:FnOk P w K mg base CX0 1 g1 gd1 ["thing"] (spName K))(b1:Binds K gd1 ["thing"] [])(k1:PySem.W.keepIn K (.ref g1)=true)(m1:mg "is_name"=some (.ref g1))(mN:mg "NoName"=some (.ref CM))(xN:ExcC K CM) :
  FnOk P w K mg base (CX1 P w) 2 f fd ["words"] (spRNames K CM):=by
 refine F.okX scRNames (fun vs H Q E h=>?_) (fun cdv A outer s H vs Q E hr h=>?_)
 ·obtain⟨l,X,rfl,hl,h1000,hX,q⟩:=h
  rfl
 obtain⟨l,X,rfl,hl,h1000,hX,q⟩:=h
 refine⟨_,(pss_one (ps_if (pt_not (pt_val (pe_callB (call_all rfl) rfl ma PyProof.Rows.boot_all (pa_cons (pe_comp (nl:=1) (fr:=[]) (Nc:=["word"]) (cl:=[]) rfl ⟨rfl,rfl,by decide +kernel,by decide +kernel,fun x c h=>(by cases h),has_of rfl,rfl,fun i n h=>(by simp at h)⟩
    (pi_list (pv 0)) (fun C s3 H3 fp pins=>(pg_name (i:=0) nd_word rfl (Or.inl rfl))) (fun C s3 H3 fp pins=>pif_nil)
    (fun C s3 H3 fp pins=>(pe_call G1 hr rfl m1 k1 b1 .nil pass0 (pa_cons (pv 0) pa_nil)))) pa_nil)))) (pss_one (ps_raise frm_cxOf xe_cxOf rfl rfl mN xN (pa_cons pe_str pa_nil))) pss_nil)),?_⟩
 refine⟨_,rfl,l,rfl,⟨_,hl⟩,fun D hD=>?_⟩
 have sD:=same_new hD (.lst [])
 refine comp_list (xs:=X.map fun cs=>V.str (S cs)) (fun k zs H'=>Same H H'∧H' D=some (.lst zs)∧zs=(X.take k).map fun cs=>V.bl (nmB cs)) ⟨sD,upd_same,rfl⟩ (fun k zs H' h=>h.2.1) (fun k zs H' _ h=>h.1.seq hl) ?_ ?_
 ·rintro k zs x H1 hx ⟨s1,e1,rfl⟩ C hC
  have hk:k < X.length:=by have:=(List.getElem?_eq_some_iff.mp hx).1;rw[List.length_map] at this;exact this
  obtain⟨cs,hcs⟩:∃cs,X[k]?=some cs:=⟨_,List.getElem?_eq_getElem hk⟩
  have ex:x=.str (S cs):=by rw[List.getElem?_map,hcs] at hx;cases hx;rfl
  subst ex
  refine⟨keep1.1,keep1.2,iteT ?_⟩
  refine⟨_,rfl,_,rfl,.inl ⟨cs,rfl,hX cs (List.mem_of_getElem? hcs),fun H2 s2=>?_⟩⟩
  refine⟨s2 _ _ e1,small1000 (by rw[List.length_map,List.length_take];omega),hC _ _ ⟨(s1.trans s2).change hD,upd_same,?_⟩⟩
  rw[List.take_add_one,hcs,List.map_append];rfl
 ·rintro zs H1 ⟨s1,e1,rfl⟩
  rw[List.length_map,List.take_length] at e1
  refine⟨D,X.map nmB,rfl,by rw[List.map_map];exact SqL.of e1,_,rfl,?_⟩
  rw[show (X.map nmB).all id=X.all nmB by rw[List.all_map];rfl]
  cases e:X.all nmB with
  |true=>exact iteF ((q _ s1).1 e)
  |false=>exact iteT ⟨by show 1≤sizeLine;decide,(q _ s1).2 e⟩
def spWordsX (K:PySem.W.Frag)(CR:Addr):Sp:=fun vs H Q E=>∃x,vs=[x]∧((∃(xs:List (List Nat)),x=.str (S (jnc 32 xs))∧xs≠[]∧(∀x∈xs,32∉x)∧(jnc 32 xs).length≤1000000∧∀l H',Same H H'→H l=none→H' l=some (.lst (xs.map fun x=>V.str (S x)))→Q (.ref l) H')∨(NoStr K H x∧E (.ref CR) none H))
def rowW:List Str:=["piece","push","hold"]
def formM (w:Str)(n:Int):Bool:=if w∈rowW then decide (n=4) else if w = "part" then decide (3≤n) else if w = "put" then decide (4≤n) else decide (w = "done") && decide (n=1)
def spFormX:Sp:=fun vs H Q _=>∃(w:Str) (n:Int),vs=[.str w,.int n]∧Q (.bl (formM w n)) H
def spRFormX (K:PySem.W.Frag)(CR:Addr):Sp:=fun vs H Q E=>∃(l:Addr) (w:Str) (r:List V),vs=[.ref l]∧SqL K H l (.str w :: r)∧r.length≤1000000∧(formM w ((r.length:Int)+1)=true→Q .non H)∧(formM w ((r.length:Int)+1)=false→E (.ref CR) none H)
theorem mod3 {K:PySem.W.Frag}{a:Addr}{d:Option Addr}{n:Nat}{sl:Array (Option Value)}{x y z:Str}{t u v:Tok}(l:K.lookup a=some ⟨.type "tuple",d,.seq #[.str x t,.str y u,.str z v] n,sl⟩)(H:Hp):SqT K H a [.str x,.str y,.str z]:=
 .inr ⟨_,_,_,l,rfl,rfl,(by show 3≤sizeLine;decide),.cons ⟨_,rfl⟩ (.cons ⟨_,rfl⟩ (.cons ⟨_,rfl⟩ .nil))⟩
theorem eqV_str (p c:Str):eqV (.str p) (.str c)=decide (p=c):=by unfold eqV;first | rfl | simp
theorem inV_strs (c:Str):∀ps:List Str,inV (.str c) (ps.map V.str)=decide (c∈ps)
 | []=>rfl
 |p :: ps=>by
  have ih:=inV_strs c ps
  show (eqV (.str p) (.str c) || inV (.str c) (ps.map V.str))=_
  rw[ih,eqV_str]
  by_cases h:p=c
  ·subst h;simp
  ·have h':c≠p:=fun z=>h z.symm
   simp[h,h']
abbrev sWords:Stmt:=top 47
theorem scWords:FnScope ["row"] ["row"] (defScope sWords):=⟨rfl,rfl,rfl,by decide +kernel,rfl,by decide +kernel,by decide +kernel⟩
theorem ok_words {dV:Value}(F:FunD K "words_of" "words_of" sWords dV f fd){CR':Addr}(b:Bl mg)(ms:mg "str"=none)(mN:mg "NoRow"=some (.ref CR'))(xN:ExcC K CR') :
  FnOk P w K mg base (CX1 P w) 1 f fd ["row"] (spWordsX K CR'):=by
 refine F.okX scWords (fun vs H Q E h=>?_) (fun cdv A outer s H vs Q E hr h=>?_)
 ·obtain⟨x,rfl,h⟩:=h
  rfl
 obtain⟨x,rfl,h⟩:=h
 refine⟨_,(pss_cons (ps_if (pt_not (pt_val (pe_isiQ (i:=0) rfl (Or.inl rfl) b.isi ms rfl rfl PyProof.Rows.boot_str))) (pss_one (ps_raise frm_cxOf xe_cxOf rfl rfl mN xN (pa_cons pe_str pa_nil))) pss_nil)
  (pss_one (ps_ret (pe_bm PySem.F.plainAttrs_str PySem.F.slot_str_split PySem.F.type_str_split mt_split (pv 0) (pa_cons pe_str pa_nil))))),?_⟩
 have hz:sizeLine=16777216:=sizeLine_eq
 rcases h with ⟨xs,rfl,h0,h32,hl,q⟩ | ⟨⟨t,ty,nw⟩,q⟩
 rotate_left
 ·exact⟨_,_,false,rfl,ty,nw,_,rfl,iteT ⟨by show 1≤sizeLine;decide,q⟩⟩
 refine⟨_,_,true,rfl,.of (.str _),(by with_unfolding_all rfl),_,rfl,iteF ?_⟩
 refine⟨_,rfl,rfl,_,_,rfl,rfl,by decide,by rw[S_len];omega,fun D hD=>?_⟩
 rw[show (" ":Str)=⟨#[32]⟩ by decide +kernel,split_is h0 h32]
 exact q D _ (same_new hD _) hD (by rw[upd_same,List.map_map];rfl)
abbrev sForm:Stmt:=top 49
theorem scForm:FnScope ["word","count"] ["word","count"] (defScope sForm):=⟨rfl,rfl,rfl,by decide +kernel,rfl,by decide +kernel,by decide +kernel⟩
theorem ok_form {dV:Value}(F:FunD K "has_form" "has_form" sForm dV f fd){aW:Addr}(hW:∀H,SqT K H aW [.str "piece",.str "push",.str "hold"])(mRW:mg "ROW_WORDS"=some (.ref aW)) :
  FnOk P w K mg base CX 1 f fd ["word","count"] spFormX:=by
 refine F.ok scForm (fun vs H Q E h=>?_) (fun cdv A outer s H vs Q E hr h=>?_)
 ·obtain⟨w,n,rfl,q⟩:=h
  rfl
 obtain⟨w,n,rfl,q⟩:=h
 refine⟨_,(pss_cons (ps_if (pt_cmpR op_in_seq (pv 0) (pe_glob (v:=.ref aW) rfl mRW rfl) rfl) (pss_one (ps_ret (pe_cmpR op_eq (pv 1) pe_int (nomark _)))) pss_nil)
  (pss_cons (ps_if (pt_cmpR op_eq (pv 0) pe_str (nomark _)) (pss_one (ps_ret (pe_cmpR op_ge (pv 1) pe_int (nomark _)))) pss_nil)
  (pss_cons (ps_if (pt_cmpR op_eq (pv 0) pe_str (nomark _)) (pss_one (ps_ret (pe_cmpR op_ge (pv 1) pe_int (nomark _)))) pss_nil)
  (pss_one (ps_ret (pe_and (pe_cmpR op_eq (pv 0) pe_str (nomark _)) (pe_one (pe_cmpR op_eq (pv 1) pe_int (nomark _))))))))),?_⟩
 unfold formM at q
 refine⟨_,rfl,aW,rowW.map V.str,rfl,.inr (hW _),rfl,rfl,_,rfl,?_⟩
 show (if inV (.str w) (rowW.map V.str)=true then _ else _)
 rw[inV_strs]
 have e:∀x:Str,decide (V.str w=V.str x)=decide (w=x):=fun x=>decide_eq_decide.mpr ⟨fun z=>by injection z,fun z=>by rw[z]⟩
 have en:∀k:Int,decide (V.int n=V.int k)=decide (n=k):=fun k=>decide_eq_decide.mpr ⟨fun z=>by injection z,fun z=>by rw[z]⟩
 by_cases hw:w∈rowW
 ·refine L2.ifT (decide_eq_true hw) ⟨_,rfl,rfl,?_⟩
  rw[if_pos hw] at q
  show Q (.bl (decide (V.int n=V.int 4))) H
  rw[en]
  exact q
 ·refine L2.ifF (decide_eq_false hw) ?_
  rw[if_neg hw] at q
  by_cases h1:w = "part"
  ·rw[if_pos h1] at q
   exact⟨_,rfl,rfl,_,rfl,L2.ifT (by rw[e];exact decide_eq_true h1) ⟨_,rfl,_,_,rfl,rfl,q⟩⟩
  ·rw[if_neg h1] at q
   refine⟨_,rfl,rfl,_,rfl,L2.ifF (by rw[e];exact decide_eq_false h1) ?_⟩
   by_cases h2:w = "put"
   ·rw[if_pos h2] at q
    exact⟨_,rfl,rfl,_,rfl,L2.ifT (by rw[e];exact decide_eq_true h2) ⟨_,rfl,_,_,rfl,rfl,q⟩⟩
   ·rw[if_neg h2] at q
    refine⟨_,rfl,rfl,_,rfl,L2.ifF (by rw[e];exact decide_eq_false h2) ?_⟩
    by_cases h3:w = "done"
    ·rw[decide_eq_true h3,Bool.true_and] at q
     refine⟨_,rfl,rfl,_,rfl,L2.ifT (by rw[e];exact decide_eq_true h3) ⟨_,rfl,rfl,?_⟩⟩
     show Q (.bl (decide (V.int n=V.int 1))) H
     rw[en]
     exact q
    ·rw[decide_eq_false h3,Bool.false_and] at q
     exact⟨_,rfl,rfl,_,rfl,L2.ifF (by rw[e];exact decide_eq_false h3) q⟩
abbrev sRForm:Stmt:=top 48
theorem scRForm:FnScope ["words"] ["words"] (defScope sRForm):=⟨rfl,rfl,rfl,by decide +kernel,rfl,by decide +kernel,by decide +kernel⟩
theorem ok_rform {dV:Value}(F:FunD K "refuse_form" "refuse_form" sRForm dV f fd){CR':Addr}(ml:mg "len"=none)(G1:FnOk P w K mg base CX0 1 g1 gd1 ["word","count"] spFormX)(b1:Binds K gd1 ["word","count"] [])(k1:PySem.W.keepIn K (.ref g1)=true)(m1:mg "has_form"=some (.ref g1))(mN:mg "NoRow"=some (.ref CR'))(xN:ExcC K CR') :
  FnOk P w K mg base (CX1 P w) 2 f fd ["words"] (spRFormX K CR'):=by
 refine F.okX scRForm (fun vs H Q E h=>?_) (fun cdv A outer s H vs Q E hr h=>?_)
 ·obtain⟨l,w,r,rfl,hl,h6,q1,q2⟩:=h
  rfl
 obtain⟨l,w,r,rfl,hl,h6,q1,q2⟩:=h
 refine⟨_,(pss_one (ps_if (pt_not (pt_val (pe_call G1 hr rfl m1 k1 b1 .nil pass0 (pa_cons (pe_ix ix_list (pv 0) pe_int (fun _ _=>rfl)) (pa_cons (pe_callB call_len_seq rfl ml PySem.boot_len (pa_cons (pv 0) pa_nil)) pa_nil))))) (pss_one (ps_raise frm_cxOf xe_cxOf rfl rfl mN xN (pa_cons pe_str pa_nil))) pss_nil)),?_⟩
 refine⟨_,rfl,l,_,_,_,rfl,rfl,hl,atI_nat (j:=0) rfl,_,rfl,l,_,rfl,.inl hl,w,_,rfl,_,rfl,?_⟩
 rw[show (((V.str w :: r).length:Nat):Int)=(r.length:Int)+1 by rw[List.length_cons];omega]
 cases c:formM w ((r.length:Int)+1) with
 |true=>exact iteF (q1 c)
 |false=>exact iteT ⟨by show 1≤sizeLine;decide,q2 c⟩
def spPInit (CP:Addr)(K:PySem.W.Frag):Sp:=fun vs H Q _=>∃(g dg a:Addr) (e:Int) (ls:List Str),vs=[.ref g,.ref a,.int e]∧H g=some (.ins CP dg [])∧SqL K H a (ls.map V.str)∧g≠a∧
 ∀l t p H',(∀b o,H b=some o→b≠g→H' b=some o)→H l=none→H t=none→H p=none→H' g=some (.ins CP dg (pfl l e t p))→H' l=some (.lst (ls.map V.str))→H' t=some (.lst [])→H' p=some (.lst [])→l≠t→l≠p→t≠p→Q .non H'
def spPCopy (CP:Addr):Sp:=fun vs H Q _=>∃(g l t p:Addr) (e:Int) (ls:List Str) (es ps:List V),vs=[.ref g]∧PlAt CP H g l e t p ls es ps∧
 ∀g' l' t' p' H',Same H H'→H g'=none→H l'=none→H t'=none→H p'=none→PlAt CP H' g' l' e t' p' ls es ps→Q (.ref g') H'
def lput (ls:List Str)(x:Str):List Str:=if x∈ls then ls else ls++[x]
def spPlace (CP:Addr):Sp:=fun vs H Q _=>∃(g l t p:Addr) (e:Int) (ls:List Str) (es ps:List V) (x:Str),vs=[.ref g,.str x]∧PlAt CP H g l e t p ls es ps∧ls.length≤500∧
 ∀(j:Nat) H',SameX l H H'→PlAt CP H' g l e t p (lput ls x) es ps→(lput ls x)[j]?=some x→Q (.int (j:Int)) H'
def spEnter (CP:Addr)(K:PySem.W.Frag):Sp:=fun vs H Q _=>∃(g l t p:Addr) (e:Int) (ls:List Str) (es ps:List V) (wd x y:Str) (z:V),vs=[.ref g,.str wd,.str x,.str y,z]∧PlAt CP H g l e t p ls es ps∧ls.length≤400∧es.length≤500∧
 ∀(i j:Nat) u H',(∀b o,H b=some o→b≠l→b≠t→H' b=some o)→SqT K H' u [.str wd,.int (i:Int),.int (j:Int),z]→(lput (lput ls x) y)[i]?=some x→(lput (lput ls x) y)[j]?=some y→PlAt CP H' g l e t p (lput (lput ls x) y) (es++[.ref u]) ps→Q .non H'
def spOver (CP:Addr):Sp:=fun vs H Q _=>∃(g l t p:Addr) (e:Int) (ls:List Str) (es ps:List V),vs=[.ref g]∧PlAt CP H g l e t p ls es ps∧Q (.bl (decide (20 < ls.length) || decide (40 < es.length))) H
theorem first_at (x:Str):∀(ls:List Str),x∈ls→∃j,ls[j]?=some x∧(∀i,i < j→ls[i]?≠some x)∧j < ls.length
 | [],h=>by cases h
 |a :: r,h=>by
  by_cases e:a=x
  ·exact⟨0,by rw[e];rfl,fun i hi=>by omega,by simp⟩
  ·obtain⟨j,h1,h2,h3⟩:=first_at x r (by rcases List.mem_cons.mp h with z | z;exact absurd z.symm e;exact z)
   refine⟨j+1,h1,fun i hi=>?_,by simp;omega⟩
   cases i with
   |zero=>intro z;exact e (by simpa using z)
   |succ i=>exact h2 i (by omega)
theorem lput_in (ls:List Str)(x:Str):x∈lput ls x:=by
 unfold lput
 by_cases h:x∈ls
 ·rw[if_pos h];exact h
 ·rw[if_neg h];simp
theorem lput_len (ls:List Str)(x:Str):(lput ls x).length≤ls.length+1:=by
 unfold lput
 by_cases h:x∈ls
 ·rw[if_pos h];omega
 ·rw[if_neg h];simp
theorem lput_keep {ls:List Str}{x:Str}(y:Str){i:Nat}(h:ls[i]?=some x):(lput ls y)[i]?=some x:=by
 unfold lput
 by_cases c:y∈ls
 ·rw[if_pos c];exact h
 ·rw[if_neg c,List.getElem?_append_left (List.getElem?_eq_some_iff.mp h).1];exact h
theorem flat_strs:∀ps:List Str,(ps.map V.str).all flatV=true
 | []=>rfl
 |p :: ps=>by show (true && (ps.map V.str).all flatV)=true;rw[flat_strs ps];rfl
abbrev sPInit:Stmt:=inClass (top 39) 0
theorem scPInit:FnScope ["self","labels","end_count"] ["self","labels","end_count"] (defScope sPInit):=⟨rfl,rfl,rfl,by decide +kernel,rfl,by decide +kernel,by decide +kernel⟩
theorem ok_pinit {dV:Value}{CP:Addr}(F:FunD K "__init__" "Plan.__init__" sPInit dV f fd)(PTx:PlT K mg CP)(mli:mg "list"=none):FnOk P w K mg base CX 1 f fd ["self","labels","end_count"] (spPInit CP K):=by
 refine F.ok scPInit (fun vs H Q E h=>?_) (fun cdv A outer s H vs Q E hr h=>?_)
 ·obtain⟨g,dg,a,e,ls,rfl,hg,hA,nga,q⟩:=h
  rfl
 obtain⟨g,dg,a,e,ls,rfl,hg,hA,nga,q⟩:=h
 refine⟨_,(pss_cons (ps_fld (pv 0) (pe_callTy call_list_of rfl mli PyProof.Rows.boot_list (pa_cons (pv 1) pa_nil)) rfl)
  (pss_cons (ps_fld (pv 0) (pv 2) rfl)
  (pss_cons (ps_fld (pv 0) (pe_lst pa_nil) rfl)
  (pss_one (ps_fld (pv 0) (pe_lst pa_nil) rfl))))),?_⟩
 refine⟨_,rfl,a,_,rfl,.inl hA,fun l hl=>?_⟩
 have nl:g≠l:=fun z=>by rw[z,hl] at hg;cases hg
 have s1:=same_new hl (.lst (ls.map V.str))
 have e1:upd H l (.lst (ls.map V.str)) l=some (.lst (ls.map V.str)):=upd_same
 have g1':=s1 _ _ hg
 generalize upd H l (.lst (ls.map V.str))=H1 at s1 e1 g1' ⊢
 refine⟨_,rfl,g,CP,dg,[],rfl,g1',PTx.cl,PTx.nl,by show 0 < 1000;decide,?_⟩
 have l1:=length_putF ("labels":Str) (.ref l) []
 simp only[List.length_nil] at l1
 refine⟨_,rfl,_,rfl,g,CP,dg,putF "labels" (.ref l) [],rfl,upd_same,PTx.cl,PTx.ne,by omega,?_⟩
 have l2:=length_putF ("end_count":Str) (.int e) (putF "labels" (.ref l) [])
 refine⟨by show 0≤sizeLine;decide,fun t ht=>?_⟩
 have nt:g≠t:=fun z=>by rw[← z,upd_same] at ht;cases ht
 have ht1:H1 t=none:=by rw[upd_ne (Ne.symm nt),upd_ne (Ne.symm nt)] at ht;exact ht
 refine⟨_,rfl,g,CP,dg,putF "end_count" (.int e) (putF "labels" (.ref l) []),rfl,(by rw[upd_ne nt];exact upd_same),PTx.cl,PTx.nt,by omega,?_⟩
 have l3:=length_putF ("entries":Str) (.ref t) (putF "end_count" (.int e) (putF "labels" (.ref l) []))
 refine⟨by show 0≤sizeLine;decide,fun p hp=>?_⟩
 have np:g≠p:=fun z=>by rw[← z,upd_same] at hp;cases hp
 have ntp:t≠p:=fun z=>by rw[← z,upd_ne (Ne.symm nt),upd_same] at hp;cases hp
 have hp1:H1 p=none:=by rw[upd_ne (Ne.symm np),upd_ne (Ne.symm ntp),upd_ne (Ne.symm np),upd_ne (Ne.symm np)] at hp;exact hp
 refine⟨_,rfl,g,CP,dg,putF "entries" (.ref t) (putF "end_count" (.int e) (putF "labels" (.ref l) [])),rfl,(by rw[upd_ne np];exact upd_same),PTx.cl,PTx.np,by omega,?_⟩
 rw[pfl_make]
 have nlt:l≠t:=ne_of_none e1 ht1
 have nlp:l≠p:=ne_of_none e1 hp1
 refine q l t p _ (fun b o h nb=>?_) hl (s1.free ht1) (s1.free hp1) upd_same ?_ ?_ ?_ nlt nlp ntp
 ·have hb:=s1 _ _ h
  rw[upd_ne nb,upd_ne (ne_of_none hb hp1),upd_ne nb,upd_ne (ne_of_none hb ht1),upd_ne nb,upd_ne nb]
  exact hb
 ·rw[upd_ne (Ne.symm nl),upd_ne nlp,upd_ne (Ne.symm nl),upd_ne nlt,upd_ne (Ne.symm nl),upd_ne (Ne.symm nl)]
  exact e1
 ·rw[upd_ne (Ne.symm nt),upd_ne ntp,upd_ne (Ne.symm nt)]
  exact upd_same
 ·rw[upd_ne (Ne.symm np)]
  exact upd_same
abbrev sPCopy:Stmt:=inClass (top 39) 1
theorem scPCopy:FnScope ["self","made"] ["self"] (defScope sPCopy):=⟨rfl,rfl,rfl,by decide +kernel,rfl,by decide +kernel,by decide +kernel⟩
theorem ok_pcopy {dV:Value}{CP:Addr}(F:FunD K "copy" "Plan.copy" sPCopy dV f fd)(PTx:PlT K mg CP)(mli:mg "list"=none){gPI:Addr}{gdPI:FuncData}(GPI:FnOk P w K mg base CX0 1 gPI gdPI ["self","labels","end_count"] (spPInit CP K))(bPI:Binds K gdPI ["self","labels","end_count"] [])(MP:Mk K CP gPI):FnOk P w K mg base CX 3 f fd ["self"] (spPCopy CP):=by
 refine F.ok scPCopy (fun vs H Q E h=>?_) (fun cdv A outer s H vs Q E hr h=>?_)
 ·obtain⟨g,l,t,p,e,ls,es,ps,rfl,PA,q⟩:=h
  rfl
 obtain⟨g,l,t,p,e,ls,es,ps,rfl,PA,q⟩:=h
 obtain⟨⟨dg,hg⟩,hl,ht,hp,lt,lp,tp⟩:=PA
 refine⟨_,(pss_cons (ps_set (i:=1) scPCopy.nd rfl (Or.inl rfl) (pe_make MP GPI hr rfl PTx.mP bPI .nil pass0 (pa_cons (pe_fld (pv 0) rfl) (pa_cons (pe_fld (pv 0) rfl) pa_nil))))
  (pss_cons (ps_fld (pv 1) (pe_callTy call_list_of rfl mli PyProof.Rows.boot_list (pa_cons (pe_fld (pv 0) rfl) pa_nil)) rfl)
  (pss_cons (ps_fld (pv 1) (pe_callTy call_list_of rfl mli PyProof.Rows.boot_list (pa_cons (pe_fld (pv 0) rfl) pa_nil)) rfl)
  (pss_one (ps_ret (pv 1)))))),?_⟩
 refine⟨_,rfl,g,CP,dg,_,_,rfl,hg,PTx.cl,PTx.nl,pfl_l _ _ _ _,_,rfl,g,CP,dg,_,_,rfl,hg,PTx.cl,PTx.ne,pfl_e _ _ _ _,fun x dx h1 h2 ne=>?_⟩
 have hgx:∀b o,H b=some o→(upd (upd H dx (.own x)) x (.ins CP dx [])) b=some o:=fun b o h=>by rw[upd_ne (ne_of_none h h1),upd_ne (ne_of_none h h2)];exact h
 refine⟨x,dx,l,e,ls,rfl,upd_same,SqL.of (hgx _ _ hl),Ne.symm (ne_of_none hl h1),fun l1 t1 p1 H2 keep nl nt np hx hl1 ht1 hp1 a1 a2 a3=>⟨rfl,?_⟩⟩
 have s2:Same H H2:=fun b o h=>keep b o (hgx b o h) (ne_of_none h h1)
 have nn:∀b,(upd (upd H dx (.own x)) x (.ins CP dx [])) b=none→H b=none:=fun b h=>by
  cases o:H b with
  |none=>rfl
  |some o'=>rw[hgx _ _ o] at h;cases h
 have nxl:x≠l1:=fun z=>by rw[← z,upd_same] at nl;cases nl
 clear keep
 refine⟨_,rfl,g,CP,dg,_,_,rfl,(s2 _ _ hg),PTx.cl,PTx.nt,pfl_t _ _ _ _,t,es,rfl,.inl (SqL.of (s2 _ _ ht)),fun t2 ht2=>?_⟩
 have s3:=same_new ht2 (.lst es)
 have e3:upd H2 t2 (.lst es) t2=some (.lst es):=upd_same
 generalize upd H2 t2 (.lst es)=H3 at s3 e3 ⊢
 refine⟨_,rfl,x,CP,dx,pfl l1 e t1 p1,rfl,(s3 _ _ hx),PTx.cl,PTx.nt,by show 4 < 1000;decide,?_⟩
 rw[pfl_en]
 have nxg:g≠x:=ne_of_none hg h1
 have nxt2:x≠t2:=ne_of_none hx ht2
 have n12:l1≠t2:=ne_of_none hl1 ht2
 have hx3:upd H3 x (.ins CP dx (pfl l1 e t2 p1)) x=some (.ins CP dx (pfl l1 e t2 p1)):=upd_same
 have s4:Same H (upd H3 x (.ins CP dx (pfl l1 e t2 p1))):=(s2.trans s3).change h1
 have hl3:upd H3 x (.ins CP dx (pfl l1 e t2 p1)) l1=some (.lst (ls.map V.str)):=by rw[upd_ne (Ne.symm nxl)];exact s3 _ _ hl1
 have ht3:upd H3 x (.ins CP dx (pfl l1 e t2 p1)) t2=some (.lst es):=by rw[upd_ne (Ne.symm nxt2)];exact e3
 generalize upd H3 x (.ins CP dx (pfl l1 e t2 p1))=H4 at hx3 s4 hl3 ht3 ⊢
 refine⟨_,rfl,g,CP,dg,_,_,rfl,(s4 _ _ hg),PTx.cl,PTx.np,pfl_p _ _ _ _,p,ps,rfl,.inl (SqL.of (s4 _ _ hp)),fun p2 hp2=>?_⟩
 have s5:=same_new hp2 (.lst ps)
 have e5:upd H4 p2 (.lst ps) p2=some (.lst ps):=upd_same
 generalize upd H4 p2 (.lst ps)=H5 at s5 e5 ⊢
 refine⟨_,rfl,x,CP,dx,pfl l1 e t2 p1,rfl,(s5 _ _ hx3),PTx.cl,PTx.np,by show 4 < 1000;decide,?_⟩
 rw[pfl_pn]
 have nxp2:x≠p2:=ne_of_none hx3 hp2
 refine⟨_,rfl,q x l1 t2 p2 _ ((s4.trans s5).change h1) h1 (nn _ nl) (s2.free ht2) (s4.free hp2) ⟨⟨dx,upd_same⟩,?_,?_,?_,n12,ne_of_none hl3 hp2,ne_of_none ht3 hp2⟩⟩
 ·rw[upd_ne (Ne.symm nxl)];exact s5 _ _ hl3
 ·rw[upd_ne (Ne.symm nxt2)];exact s5 _ _ ht3
 ·rw[upd_ne (Ne.symm nxp2)];exact e5
abbrev sPlace:Stmt:=inClass (top 39) 2
theorem scPlace:FnScope ["self","label"] ["self","label"] (defScope sPlace):=⟨rfl,rfl,rfl,by decide +kernel,rfl,by decide +kernel,by decide +kernel⟩
theorem ok_place {dV:Value}{CP:Addr}(F:FunD K "place_of" "Plan.place_of" sPlace dV f fd)(PTx:PlT K mg CP):FnOk P w K mg base CX 1 f fd ["self","label"] (spPlace CP):=by
 refine F.ok scPlace (fun vs H Q E h=>?_) (fun cdv A outer s H vs Q E hr h=>?_)
 ·obtain⟨g,l,t,p,e,ls,es,ps,x,rfl,PA,h500,q⟩:=h
  rfl
 obtain⟨g,l,t,p,e,ls,es,ps,x,rfl,PA,h500,q⟩:=h
 obtain⟨⟨dg,hg⟩,hl,ht,hp,lt,lp,tp⟩:=PA
 refine⟨_,(pss_cons (ps_if (pt_cmpR op_notIn_seq (pv 1) (pe_fld (pv 0) rfl) rfl) (pss_one (ps_expr (pe_bm PySem.F.plainAttrs_list PySem.F.slot_list_append PySem.F.type_list_append mt_append (pe_fld (pv 0) rfl) (pa_cons (pv 1) pa_nil)))) pss_nil)
  (pss_one (ps_ret (pe_bm PySem.F.plainAttrs_list PySem.F.slot_list_index PySem.F.type_list_index mt_indexS (pe_fld (pv 0) rfl) (pa_cons (pv 1) pa_nil))))),?_⟩
 refine⟨_,rfl,_,rfl,g,CP,dg,_,_,rfl,hg,PTx.cl,PTx.nl,pfl_l _ _ _ _,l,_,rfl,.inl (SqL.of hl),rfl,flat_strs _,_,rfl,?_⟩
 show (if (!inV (.str x) (ls.map V.str))=true then _ else _)
 rw[inV_strs]
 have ngl:g≠l:=ne_of hg hl (fun z=>by cases z)
 by_cases hx:x∈ls
 ·refine L2.ifF (by rw[decide_eq_true hx];rfl) ?_
  obtain⟨j,j1,j2,j3⟩:=first_at x ls hx
  refine⟨_,rfl,g,CP,dg,_,_,rfl,hg,PTx.cl,PTx.nl,pfl_l _ _ _ _,.inl ⟨rfl,_,SqL.of hl⟩,_,rfl,l,ls,x,j,rfl,rfl,SqL.of hl,j1,j2,by omega,?_⟩
  have el:lput ls x=ls:=if_pos hx
  exact q j H (fun b o h _=>h) (by rw[el];exact⟨⟨dg,hg⟩,hl,ht,hp,lt,lp,tp⟩) (by rw[el];exact j1)
 ·refine L2.ifT (by rw[decide_eq_false hx];rfl) ?_
  have el:lput ls x=ls++[x]:=if_neg hx
  refine⟨_,rfl,g,CP,dg,_,_,rfl,hg,PTx.cl,PTx.nl,pfl_l _ _ _ _,.inl ⟨rfl,_,SqL.of hl⟩,_,rfl,l,_,_,rfl,rfl,hl,small1000 (by rw[List.length_map];omega),?_⟩
  have hg2:upd H l (.lst (ls.map V.str++[.str x])) g=some (.ins CP dg (pfl l e t p)):=by rw[upd_ne ngl];exact hg
  have hl2:upd H l (.lst (ls.map V.str++[.str x])) l=some (.lst ((lput ls x).map V.str)):=by rw[upd_same,el,List.map_append];rfl
  have ht2:upd H l (.lst (ls.map V.str++[.str x])) t=some (.lst es):=by rw[upd_ne (Ne.symm lt)];exact ht
  have hp2:upd H l (.lst (ls.map V.str++[.str x])) p=some (.lst ps):=by rw[upd_ne (Ne.symm lp)];exact hp
  have sx:SameX l H (upd H l (.lst (ls.map V.str++[.str x]))):=fun b o h n=>by rw[upd_ne n];exact h
  generalize upd H l (.lst (ls.map V.str++[.str x]))=H1 at hg2 hl2 ht2 hp2 sx ⊢
  obtain⟨j,j1,j2,j3⟩:=first_at x (lput ls x) (lput_in _ _)
  have ll:=lput_len ls x
  refine⟨_,rfl,g,CP,dg,_,_,rfl,hg2,PTx.cl,PTx.nl,pfl_l _ _ _ _,.inl ⟨rfl,_,SqL.of hl2⟩,_,rfl,l,lput ls x,x,j,rfl,rfl,SqL.of hl2,j1,j2,by omega,?_⟩
  exact q j H1 sx ⟨⟨dg,hg2⟩,hl2,ht2,hp2,lt,lp,tp⟩ j1
abbrev sEnter:Stmt:=inClass (top 39) 3
theorem scEnter:FnScope ["self","word","start","goal","size","begin","end"] ["self","word","start","goal","size"] (defScope sEnter):=⟨rfl,rfl,rfl,by decide +kernel,rfl,by decide +kernel,by decide +kernel⟩
theorem ok_enter {dV:Value}{CP:Addr}(F:FunD K "enter" "Plan.enter" sEnter dV f fd)(PTx:PlT K mg CP){gPl:Addr}{gdPl:FuncData}(GPl:FnOk P w K mg base CX0 1 gPl gdPl ["self","label"] (spPlace CP))(bPl:Binds K gdPl ["self","label"] [])(mPl:Meth K CP "place_of" gPl):FnOk P w K mg base CX 2 f fd ["self","word","start","goal","size"] (spEnter CP K):=by
 refine F.ok scEnter (fun vs H Q E h=>?_) (fun cdv A outer s H vs Q E hr h=>?_)
 ·obtain⟨g,l,t,p,e,ls,es,ps,wd,x,y,z,rfl,PA,h400,h500,q⟩:=h
  rfl
 obtain⟨g,l,t,p,e,ls,es,ps,wd,x,y,z,rfl,PA,h400,h500,q⟩:=h
 obtain⟨dg,hg⟩:=PA.ob
 have l1:=lput_len ls x
 have l2:=lput_len (lput ls x) y
 refine⟨_,(pss_cons (ps_set (i:=5) scEnter.nd rfl (Or.inl rfl) (pe_meth (pv 0) PTx.cl mPl GPl hr bPl .nil pass0 (pa_cons (pv 2) pa_nil)))
  (pss_cons (ps_set (i:=6) scEnter.nd rfl (Or.inl rfl) (pe_meth (pv 0) PTx.cl mPl GPl hr bPl .nil pass0 (pa_cons (pv 3) pa_nil)))
  (pss_one (ps_expr (pe_bm PySem.F.plainAttrs_list PySem.F.slot_list_append PySem.F.type_list_append mt_append (pe_fld (pv 0) rfl) (pa_cons (pe_tup (pa_cons (pv 1) (pa_cons (pv 5) (pa_cons (pv 6) (pa_cons (pv 4) pa_nil))))) pa_nil)))))),?_⟩
 refine⟨_,rfl,g,dg,_,rfl,hg,(by with_unfolding_all rfl),_,rfl,g,l,t,p,e,ls,es,ps,x,rfl,PA,by omega,fun i H1 x1 P1 hi=>?_⟩
 obtain⟨dg1,hg1⟩:=P1.ob
 refine⟨_,rfl,g,dg1,_,rfl,hg1,(by with_unfolding_all rfl),_,rfl,g,l,t,p,e,_,es,ps,y,rfl,P1,by omega,fun j H2 x2 P2 hj=>?_⟩
 obtain⟨⟨dg2,hg2⟩,hl2,ht2,hp2,lt,lp,tp⟩:=P2
 refine⟨_,rfl,g,CP,dg2,_,_,rfl,hg2,PTx.cl,PTx.nt,pfl_t _ _ _ _,.inl ⟨rfl,_,SqL.of ht2⟩,_,rfl,_,rfl,_,rfl,_,rfl,by show 4≤sizeLine;decide,fun u hu=>?_⟩
 have s3:=same_new hu (.tup [.str wd,.int (i:Int),.int (j:Int),z])
 have e3:upd H2 u (.tup [.str wd,.int (i:Int),.int (j:Int),z]) u=some (.tup [.str wd,.int (i:Int),.int (j:Int),z]):=upd_same
 generalize upd H2 u (.tup [.str wd,.int (i:Int),.int (j:Int),z])=H3 at s3 e3 ⊢
 refine⟨t,es,.ref u,rfl,rfl,s3 _ _ ht2,small1000 (by omega),?_⟩
 have ngt:g≠t:=ne_of hg2 ht2 (fun z=>by cases z)
 have nut:u≠t:=Ne.symm (ne_of_none ht2 hu)
 refine q i j u _ (fun b o h n1 n2=>by rw[upd_ne n2];exact s3 _ _ (x2 _ _ (x1 _ _ h n1) n1)) (SqT.of (by rw[upd_ne nut];exact e3)) (lput_keep y hi) hj ⟨⟨dg2,by rw[upd_ne ngt];exact s3 _ _ hg2⟩,by rw[upd_ne lt];exact s3 _ _ hl2,upd_same,by rw[upd_ne (Ne.symm tp)];exact s3 _ _ hp2,lt,lp,tp⟩
abbrev sOver:Stmt:=inClass (top 39) 5
theorem scOver:FnScope ["self"] ["self"] (defScope sOver):=⟨rfl,rfl,rfl,by decide +kernel,rfl,by decide +kernel,by decide +kernel⟩
theorem ok_over {dV:Value}{CP:Addr}(F:FunD K "is_overfull" "Plan.is_overfull" sOver dV f fd)(PTx:PlT K mg CP){tM tR:Tok}(mMP:mg "MOST_POINTS"=some (.int 20 tM))(mMR:mg "MOST_ROWS"=some (.int 40 tR))(ml:mg "len"=none):FnOk P w K mg base CX 1 f fd ["self"] (spOver CP):=by
 refine F.ok scOver (fun vs H Q E h=>?_) (fun cdv A outer s H vs Q E hr h=>?_)
 ·obtain⟨g,l,t,p,e,ls,es,ps,rfl,PA,q⟩:=h
  rfl
 obtain⟨g,l,t,p,e,ls,es,ps,rfl,PA,q⟩:=h
 obtain⟨⟨dg,hg⟩,hl,ht,hp,lt,lp,tp⟩:=PA
 refine⟨_,(pss_one (ps_ret (pe_or (pe_cmpR op_gt (pe_callB call_len_seq rfl ml PySem.boot_len (pa_cons (pe_fld (pv 0) rfl) pa_nil)) (pe_glob (v:=.int 20) rfl mMP ⟨_,rfl⟩) (nomark _)) (pe_one (pe_cmpR op_gt (pe_callB call_len_seq rfl ml PySem.boot_len (pa_cons (pe_fld (pv 0) rfl) pa_nil)) (pe_glob (v:=.int 40) rfl mMR ⟨_,rfl⟩) (nomark _)))))),?_⟩
 refine⟨_,rfl,g,CP,dg,_,_,rfl,hg,PTx.cl,PTx.nl,pfl_l _ _ _ _,l,_,rfl,.inl (SqL.of hl),_,_,rfl,rfl,_,rfl,?_⟩
 have e1:decide (((ls.map V.str).length:Int) > 20)=decide (20 < ls.length):=by rw[List.length_map];exact decide_eq_decide.mpr (by omega)
 have e2:decide ((es.length:Int) > 40)=decide (40 < es.length):=decide_eq_decide.mpr (by omega)
 by_cases h:20 < ls.length
 ·refine L2.ifT (by show decide (((ls.map V.str).length:Int) > 20)=true;rw[e1];exact decide_eq_true h) ?_
  rw[decide_eq_true h,Bool.true_or] at q
  exact q
 ·refine L2.ifF (by show decide (((ls.map V.str).length:Int) > 20)=false;rw[e1];exact decide_eq_false h) ?_
  refine⟨_,rfl,g,CP,dg,_,_,rfl,hg,PTx.cl,PTx.nt,pfl_t _ _ _ _,t,_,rfl,.inl (SqL.of ht),_,_,rfl,rfl,?_⟩
  show Q (.bl (decide ((es.length:Int) > 40))) H
  rw[e2]
  rw[decide_eq_false h,Bool.false_or] at q
  exact q
def spYInit (CY CP:Addr):Sp:=fun vs H Q _=>∃(y dy:Addr),vs=[.ref y]∧H y=some (.ins CY dy [])∧
 ∀g l t p d H',(∀b o,H b=some o→b≠y→H' b=some o)→H' y=some (.ins CY dy (yfl g d .non .non))→H l=none→H t=none→H p=none→H d=none→PlAt CP H' g l 0 t p [] [] []→H' d=some (.dK [])→Q .non H'
abbrev sYInit:Stmt:=inClass (top 46) 0
theorem scYInit:FnScope ["self"] ["self"] (defScope sYInit):=⟨rfl,rfl,rfl,by decide +kernel,rfl,by decide +kernel,by decide +kernel⟩
theorem ok_yinit {dV:Value}{CY:Addr}(F:FunD K "__init__" "Yard.__init__" sYInit dV f fd)(YTx:YaT K mg CY){CP:Addr}(PTx:PlT K mg CP){gPI:Addr}{gdPI:FuncData}(GPI:FnOk P w K mg base CX0 1 gPI gdPI ["self","labels","end_count"] (spPInit CP K))(bPI:Binds K gdPI ["self","labels","end_count"] [])(MP:Mk K CP gPI):FnOk P w K mg base CX 3 f fd ["self"] (spYInit CY CP):=by
 refine F.ok scYInit (fun vs H Q E h=>?_) (fun cdv A outer s H vs Q E hr h=>?_)
 ·obtain⟨y,dy,rfl,hy,q⟩:=h
  rfl
 obtain⟨y,dy,rfl,hy,q⟩:=h
 refine⟨_,(pss_cons (ps_fld (pv 0) (pe_make MP GPI hr rfl PTx.mP bPI .nil pass0 (pa_cons (pe_lst pa_nil) (pa_cons pe_int pa_nil))) rfl)
  (pss_cons (ps_fld (pv 0) pe_dnewK rfl)
  (pss_cons (ps_fld (pv 0) pe_non rfl)
  (pss_one (ps_fld (pv 0) pe_non rfl))))),?_⟩
 refine⟨by show 0≤sizeLine;decide,fun a ha=>?_⟩
 have nya:y≠a:=ne_of_none hy ha
 have s1:=same_new ha (.lst [])
 have e1:upd H a (.lst []) a=some (.lst []):=upd_same
 generalize upd H a (.lst [])=H1 at s1 e1 ⊢
 have hy1:=s1 _ _ hy
 intro x dx h1 h2 ne
 have hgx:∀b o,H1 b=some o→(upd (upd H1 dx (.own x)) x (.ins CP dx [])) b=some o:=fun b o h=>by rw[upd_ne (ne_of_none h h1),upd_ne (ne_of_none h h2)];exact h
 refine⟨x,dx,a,0,[],rfl,upd_same,SqL.of (hgx _ _ e1),Ne.symm (ne_of_none e1 h1),fun l1 t1 p1 H2 keep nl nt np hx hl1 ht1 hp1 a1 a2 a3=>⟨rfl,?_⟩⟩
 have s2:Same H1 H2:=fun b o h=>keep b o (hgx b o h) (ne_of_none h h1)
 clear keep
 have nn:∀{b:Addr},(upd (upd H1 dx (.own x)) x (.ins CP dx [])) b=none→H b=none:=fun {b} h=>by
  cases o:H b with
  |none=>rfl
  |some o'=>rw[hgx _ _ (s1 _ _ o)] at h;cases h
 have nn2:∀{b:Addr},H2 b=none→H b=none:=fun {b} h=>by
  cases o:H b with
  |none=>rfl
  |some o'=>rw[s2 _ _ (s1 _ _ o)] at h;cases h
 have hy2:=s2 _ _ hy1
 refine⟨_,rfl,y,CY,dy,[],rfl,hy2,YTx.cl,YTx.ng,by show 0 < 1000;decide,?_⟩
 have nyx:y≠x:=ne_of_none hy1 h1
 have nyl:l1≠y:=Ne.symm (ne_of hy2 hl1 (fun z=>by cases z))
 have nyt:t1≠y:=Ne.symm (ne_of hy2 ht1 (fun z=>by cases z))
 have nyp:p1≠y:=Ne.symm (ne_of hy2 hp1 (fun z=>by cases z))
 have l1':=length_putF ("ground":Str) (.ref x) []
 simp only[List.length_nil] at l1'
 have l2':=fun d:Addr=>length_putF ("parts":Str) (.ref d) (putF "ground" (.ref x) [])
 have l3':=fun d:Addr=>length_putF ("opened":Str) .non (putF "parts" (.ref d) (putF "ground" (.ref x) []))
 intro d hd
 have nyd:y≠d:=fun z=>by rw[← z,upd_same] at hd;cases hd
 have hd2:H2 d=none:=by rw[upd_ne (Ne.symm nyd)] at hd;exact hd
 have l2:=l2' d
 have l3:=l3' d
 refine⟨_,rfl,y,CY,dy,putF "ground" (.ref x) [],rfl,(by rw[upd_ne nyd];exact upd_same),YTx.cl,YTx.nd,by omega,?_⟩
 refine⟨_,rfl,y,CY,dy,putF "parts" (.ref d) (putF "ground" (.ref x) []),rfl,upd_same,YTx.cl,YTx.no,by omega,?_⟩
 refine⟨_,rfl,y,CY,dy,putF "opened" .non (putF "parts" (.ref d) (putF "ground" (.ref x) [])),rfl,upd_same,YTx.cl,YTx.nq,by omega,?_⟩
 rw[yfl_make]
 have far:∀b,b≠y→b≠d→upd (upd (upd (upd (upd H2 y (.ins CY dy (putF "ground" (.ref x) []))) d (.dK [])) y (.ins CY dy (putF "parts" (.ref d) (putF "ground" (.ref x) [])))) y (.ins CY dy (putF "opened" .non (putF "parts" (.ref d) (putF "ground" (.ref x) []))))) y (.ins CY dy (yfl x d .non .non)) b=H2 b:=fun b n1 n2=>by rw[upd_ne n1,upd_ne n1,upd_ne n1,upd_ne n2,upd_ne n1]
 refine q x l1 t1 p1 d _ (fun b o h nb=>?_) upd_same (nn nl) (nn nt) (nn np) (nn2 hd2) ⟨⟨dx,?_⟩,?_,?_,?_,a1,a2,a3⟩ ?_
 ·have hb:=s2 _ _ (s1 _ _ h)
  rw[far b nb (ne_of_none hb hd2)];exact hb
 ·rw[far x (Ne.symm nyx) (ne_of_none hx hd2)];exact hx
 ·rw[far l1 nyl (ne_of_none hl1 hd2)];exact hl1
 ·rw[far t1 nyt (ne_of_none ht1 hd2)];exact ht1
 ·rw[far p1 nyp (ne_of_none hp1 hd2)];exact hp1
 ·rw[upd_ne (Ne.symm nyd),upd_ne (Ne.symm nyd),upd_ne (Ne.symm nyd)];exact upd_same
def spROverX (CP CT:Addr):Sp:=fun vs H Q E=>∃(g l t p:Addr) (e:Int) (ls:List Str) (es ps:List V),vs=[.ref g]∧PlAt CP H g l e t p ls es ps∧((ls.length≤20∧es.length≤40)→Q .non H)∧(¬(ls.length≤20∧es.length≤40)→E (.ref CT) none H)
abbrev sROver:Stmt:=top 51
theorem scROver:FnScope ["plan"] ["plan"] (defScope sROver):=⟨rfl,rfl,rfl,by decide +kernel,rfl,by decide +kernel,by decide +kernel⟩
theorem ok_rover {dV:Value}(F:FunD K "refuse_overfull" "refuse_overfull" sROver dV f fd){CP CT:Addr}(PTx:PlT K mg CP){gOv:Addr}{gdOv:FuncData}(GOv:FnOk P w K mg base CX0 1 gOv gdOv ["self"] (spOver CP))(bOv:Binds K gdOv ["self"] [])(mOv:Meth K CP "is_overfull" gOv)(mN:mg "TooMany"=some (.ref CT))(xN:ExcC K CT) :
  FnOk P w K mg base (CX1 P w) 2 f fd ["plan"] (spROverX CP CT):=by
 refine F.okX scROver (fun vs H Q E h=>?_) (fun cdv A outer s H vs Q E hr h=>?_)
 ·obtain⟨g,l,t,p,e,ls,es,ps,rfl,PA,q1,q2⟩:=h
  rfl
 obtain⟨g,l,t,p,e,ls,es,ps,rfl,PA,q1,q2⟩:=h
 obtain⟨dg,hg⟩:=PA.ob
 refine⟨_,(pss_one (ps_if (pt_val (pe_meth0 (pv 0) PTx.cl mOv GOv hr bOv .nil pass0)) (pss_one (ps_raise frm_cxOf xe_cxOf rfl rfl mN xN (pa_cons pe_str pa_nil))) pss_nil)),?_⟩
 refine⟨_,rfl,g,dg,_,rfl,hg,(by with_unfolding_all rfl),g,l,t,p,e,ls,es,ps,rfl,PA,_,rfl,?_⟩
 by_cases h:ls.length≤20∧es.length≤40
 ·exact L2.ifF (by rw[decide_eq_false (by omega),decide_eq_false (by omega)];rfl) (q1 h)
 ·refine L2.ifT ?_ ⟨by show 1≤sizeLine;decide,q2 h⟩
  by_cases h1:20 < ls.length
  ·rw[decide_eq_true h1];rfl
  ·rw[decide_eq_true (show 40 < es.length by omega),Bool.or_true]
theorem sub_nil {ec:List (Str × Addr)}:∀(x:Str) (c:Addr),([]:List (Str × Addr)).lookup x=some c→ec.lookup x=some c:=fun _ _ h=>by cases h
theorem sub_cons {ec cl:List (Str × Addr)}{a:Str}{d:Addr}(h:ec.lookup a=some d)(r:∀x c,cl.lookup x=some c→ec.lookup x=some c):∀x c,((a,d) :: cl).lookup x=some c→ec.lookup x=some c:=fun x c e=>by
 rw[List.lookup_cons] at e
 cases q:x == a with
 |true=>rw[q] at e;rw[eq_of_beq q,h];exact e
 |false=>rw[q] at e;exact r x c e
def inn (nm:Str)(e:Nat)(ls:List Str):List Str:=(ls.drop e).map fun x=>nm++"."++x
def lps (ls labs:List Str):List Str:=labs.foldl lput ls
def mvD (sp:List Int)(d:RD):RD:=(d.1,sp.getD d.2.1.toNat 0,sp.getD d.2.2.1.toNat 0,d.2.2.2)
theorem cut_from (xs:List V)(e:Nat):cutV xs (some (e:Int)) none=xs.drop e:=by
 unfold cutV
 have h2:HT.sIx xs.length 0 (some (e:Int))=min e xs.length:=by
  simp only[HT.sIx]
  rw[if_neg (by omega),show ((e:Int)).toNat=e by omega]
 have h1:HT.sIx xs.length xs.length none=xs.length:=rfl
 rw[h1,h2]
 rw[List.take_of_length_le (by rw[List.length_drop];exact Nat.le_refl _)]
 by_cases h:e≤xs.length
 ·rw[Nat.min_eq_left h]
 ·rw[Nat.min_eq_right (by omega),List.drop_length,List.drop_eq_nil_of_le (by omega)]
theorem lps_len:∀(labs ls:List Str),(lps ls labs).length≤ls.length+labs.length
 | [],ls=>by show ls.length≤ls.length+0;omega
 |x :: r,ls=>by
  have h:=lps_len r (lput ls x)
  have h2:=lput_len ls x
  show (lps (lput ls x) r).length≤_
  rw[List.length_cons];omega
theorem lps_keep:∀(labs:List Str) {ls:List Str} {i:Nat} {x:Str},ls[i]?=some x→(lps ls labs)[i]?=some x
 | [],_,_,_,h=>h
 |y :: r,_,_,_,h=>lps_keep r (lput_keep y h)
theorem lps_snoc (ls labs:List Str)(x:Str):lps ls (labs++[x])=lput (lps ls labs) x:=by unfold lps;rw[List.foldl_append];rfl
def SpAt (ls:List Str)(labs:List Str)(sp:List Int):Prop:=sp.length=labs.length∧∀(i:Nat) (x:Str),labs[i]?=some x→∃j:Nat,sp[i]?=some (j:Int)∧ls[j]?=some x
def spPut (CP:Addr)(K:PySem.W.Frag):Sp:=fun vs H Q _=>∃(g l t p h l2 t2 p2 pt:Addr) (e:Int) (e2:Nat) (nm:Str) (ls ls2 pts:List Str) (es ps es2 ps2:List V) (ds2:List RD),vs=[.ref g,.str nm,.ref h,.ref pt]∧PlAt CP H g l e t p ls es ps∧PlAt CP H h l2 (e2:Int) t2 p2 ls2 es2 ps2∧H pt=some (.lst (pts.map V.str))∧Rts K H es2 ds2∧
 (∀d∈ds2,0≤d.2.1∧d.2.1.toNat < (pts++inn nm e2 ls2).length∧0≤d.2.2.1∧d.2.2.1.toNat < (pts++inn nm e2 ls2).length)∧
 (l2≠l∧l2≠t∧l2≠p∧t2≠l∧t2≠t∧t2≠p∧pt≠l∧pt≠t∧pt≠p)∧h≠g∧
 ls.length≤100∧ls2.length≤100∧pts.length≤100∧es.length≤200∧es2.length≤200∧ps.length≤500∧nm.length≤1000∧(∀x∈ls2,x.length≤100000)∧
 ∀sp us H',(∀b o,H b=some o→b≠l→b≠t→b≠p→H' b=some o)→PlAt CP H' g l e t p (lps ls (pts++inn nm e2 ls2)) (es++us) (ps++[.str nm])→Rts K H' us (ds2.map (mvD sp))→SpAt (lps ls (pts++inn nm e2 ls2)) (pts++inn nm e2 ls2) sp→Q .non H'
theorem nd_label_name:(["label","name"]:List Str).Nodup:=by decide +kernel
theorem nd_entry_spots:(["entry","spots"]:List Str).Nodup:=by decide +kernel
abbrev sPut:Stmt:=inClass (top 39) 4
theorem scPut:FnScope ["self","name","part","points","inner","spots","label"] ["self","name","part","points"] (defScope sPut):=⟨rfl,rfl,rfl,by decide +kernel,rfl,by decide +kernel,by decide +kernel⟩
theorem ok_put {dV:Value}{CP:Addr}(F:FunD K "put_in" "Plan.put_in" sPut dV f fd)(PTx:PlT K mg CP){gPl:Addr}{gdPl:FuncData}(GPl:FnOk P w K mg base CX0 1 gPl gdPl ["self","label"] (spPlace CP))(bPl:Binds K gdPl ["self","label"] [])(mPl:Meth K CP "place_of" gPl){gT:Addr}{gdT:FuncData}(T:RT K mg CR CK)(GT:FnOk P w K mg base CX0 2 gT gdT ["self"] (spRTold CK))(bT:Binds K gdT ["self"] [])(mT:∀k,Meth K (CK k) "told" gT){gA:Addr}{gdA:FuncData}(GA:FnOk P w K mg base CX0 4 gA gdA ["self","places"] (spAtL K CK))(bA:Binds K gdA ["self","places"] [])(mA:∀k,Meth K (CK k) "at" gA)(G1:FnOk P w K mg base CX0 3 g1 gd1 ["told"] (spRowOfG K CK))(b1:Binds K gd1 ["told"] [])(k1:PySem.W.keepIn K (.ref g1)=true)(m1:mg "row_of"=some (.ref g1)):FnOk P w K mg base CX 5 f fd ["self","name","part","points"] (spPut CP K):=by
 refine F.ok scPut (fun vs H Q E h=>?_) (fun cdv A outer s H vs Q E hr h=>?_)
 ·obtain⟨g,l,t,p,h,l2,t2,p2,pt,e,e2,nm,ls,ls2,pts,es,ps,es2,ps2,ds2,rfl,PA,PB,hpt,hR,hD,⟨x1,x2,x3,x4,x5,x6,x7,x8,x9⟩,nhg,b1',b2',b3',b4',b5',b6',b7',b8',q⟩:=h
  rfl
 obtain⟨g,l,t,p,h,l2,t2,p2,pt,e,e2,nm,ls,ls2,pts,es,ps,es2,ps2,ds2,rfl,PA,PB,hpt,hR,hD,⟨x1,x2,x3,x4,x5,x6,x7,x8,x9⟩,nhg,b1',b2',b3',b4',b5',b6',b7',b8',q⟩:=h
 have hz:sizeLine=16777216:=sizeLine_eq
 have r1:=hr.mono (show 1≤4 by omega)
 have r2:=hr.mono (show 2≤4 by omega)
 have r3:=hr.mono (show 3≤4 by omega)
 obtain⟨⟨dh,hh⟩,hl2,ht2,hp2,_,_,_⟩:=id PB
 refine⟨_,(pss_cons (ps_setC (i:=4) (nl:=1) (fr:=[1]) (Nc:=["label","name"]) (cl:=[("name",s.heap.objs.size+1)]) scPut.nd rfl rfl rfl ⟨rfl,rfl,by decide +kernel,by decide +kernel,(sub_cons rfl (sub_nil)),has_of rfl,rfl,fun i n h=>match i,h with | 0,h=>by cases h;exact⟨1,rfl,rfl,rfl,rfl,.inl rfl⟩ | k+1,h=>by rw[show 1+(k+1)=k+2 by omega] at h;cases h⟩
    (pi_list (pe_slice sl_list (pe_fld (pv 2) rfl) (po_some (pe_fld (pv 2) rfl)) po_none)) (fun C s3 H3 fp pins=>(pg_name (i:=0) nd_label_name rfl (Or.inl rfl))) (fun C s3 H3 fp pins=>pif_nil)
    (fun C s3 H3 fp pins=>(pe_op op_add_str (pe_op op_add_str (pv 1) pe_str) (pv 0))) rfl)
  (pss_cons (ps_set (i:=5) scPut.nd rfl (Or.inr rfl) (pe_lst pa_nil))
  (pss_cons (ps_for PassesOwn.never rfl (pi_list (pe_op op_cat (pv 3) (pv 4))) (pg_name (i:=6) scPut.nd rfl (Or.inl rfl))
   (pss_one (ps_expr (pe_bm PySem.F.plainAttrs_list PySem.F.slot_list_append PySem.F.type_list_append mt_append (pv 5) (pa_cons (pe_meth (pv 0) PTx.cl mPl GPl r1 bPl .nil pass0 (pa_cons (pv 6) pa_nil)) pa_nil)))))
  (pss_cons (ps_expr (pe_bm PySem.F.plainAttrs_list PySem.F.slot_list_extend PySem.F.type_list_extend mt_extend (pe_fld (pv 0) rfl) (pa_cons (pe_comp (nl:=1) (fr:=[5]) (Nc:=["entry","spots"]) (cl:=[("spots",s.heap.objs.size+2)]) rfl ⟨rfl,rfl,by decide +kernel,by decide +kernel,(sub_cons rfl (sub_nil)),has_of rfl,rfl,fun i n h=>match i,h with | 0,h=>by cases h;exact⟨5,rfl,rfl,rfl,rfl,.inl rfl⟩ | k+1,h=>by rw[show 1+(k+1)=k+2 by omega] at h;cases h⟩
    (pi_list (pe_fld (pv 2) rfl)) (fun C s3 H3 fp pins=>(pg_name (i:=0) nd_entry_spots rfl (Or.inl rfl))) (fun C s3 H3 fp pins=>pif_nil)
    (fun C s3 H3 fp pins=>(pe_methD0 (f:=fun _=>gT) (fd:=fun _=>gdT) (sp:=fun _=>spRTold CK) (pe_methD (f:=fun _=>gA) (fd:=fun _=>gdA) (sp:=fun _=>spAtL K CK) (pe_call G1 r3 rfl m1 k1 b1 .nil pass0 (pa_cons (pv 0) pa_nil)) T.cl mA (fun _=>GA) hr (fun _=>bA) .nil pass0 (pa_cons (pv 1) pa_nil)) T.cl mT (fun _=>GT) r2 (fun _=>bT) .nil pass0))) pa_nil)))
  (pss_one (ps_expr (pe_bm PySem.F.plainAttrs_list PySem.F.slot_list_append PySem.F.type_list_append mt_append (pe_fld (pv 0) rfl) (pa_cons (pv 1) pa_nil)))))))),?_⟩
 have ed:(".": Str).length=1:=by decide +kernel
 refine⟨_,rfl,h,CP,dh,_,_,rfl,hh,PTx.cl,PTx.nl,pfl_l _ _ _ _,_,rfl,h,CP,dh,_,_,rfl,hh,PTx.cl,PTx.ne,pfl_e _ _ _ _,(e2:Int),rfl,l2,_,rfl,SqL.of hl2,fun S1 hS1=>?_⟩
 rw[cut_from,← List.map_drop]
 have s1:=same_new hS1 (.lst ((ls2.drop e2).map V.str))
 have e1:upd H S1 (.lst ((ls2.drop e2).map V.str)) S1=some (.lst ((ls2.drop e2).map V.str)):=upd_same
 generalize upd H S1 (.lst ((ls2.drop e2).map V.str))=H1 at s1 e1 ⊢
 refine⟨S1,rfl,⟨_,SqL.of e1⟩,fun I hI=>?_⟩
 have sI:=same_new hI (.lst [])
 have ld:(ls2.drop e2).length≤100:=by rw[List.length_drop];omega
 refine comp_list (xs:=(ls2.drop e2).map V.str) (fun k zs H'=>Same H1 H'∧H' I=some (.lst zs)∧zs=(((ls2.drop e2).take k).map fun x=>nm++"."++x).map V.str) ⟨sI,upd_same,rfl⟩ (fun k zs H' h=>h.2.1) (fun k zs H' _ h=>h.1.seq (SqL.of e1)) ?_ ?_
 ·rintro k zs x H2 hx ⟨s2,e2',rfl⟩ C hC
  rw[List.getElem?_map] at hx
  obtain⟨y,hy,rfl⟩:=Option.map_eq_some_iff.mp hx
  have hk:=(List.getElem?_eq_some_iff.mp hy).1
  have ly:=b8' y (List.mem_of_mem_drop (List.mem_of_getElem? hy))
  refine⟨keep1.1,keep1.2,iteT ?_⟩
  refine⟨_,rfl,_,_,rfl,rfl,by omega,_,rfl,_,_,rfl,rfl,?_,e2',small1000 (by rw[List.length_map,List.length_map,List.length_take];omega),hC _ _ ⟨s2.change hI,upd_same,?_⟩⟩
  ·rw[show (nm++".":Str).length=nm.length+1 by show (nm.cps++(".": Str).cps).size=_;rw[Array.size_append];rfl];omega
  ·rw[List.take_add_one,hy,List.map_append,List.map_append];rfl
 rintro zs H2 ⟨s2,eI,rfl⟩
 rw[List.length_map,List.take_length] at eI
 have eI:H2 I=some (.lst ((inn nm e2 ls2).map V.str)):=eI
 have s02:=s1.trans s2
 have li:(inn nm e2 ls2).length≤100:=by unfold inn;rw[List.length_map];exact ld
 refine⟨by show 0≤sizeLine;decide,fun SP hSP=>?_⟩
 have s3:=same_new hSP (.lst [])
 have e3:upd H2 SP (.lst []) SP=some (.lst []):=upd_same
 generalize upd H2 SP (.lst [])=H3 at s3 e3 ⊢
 have s03:=s02.trans s3
 refine⟨_,rfl,_,rfl,pt,I,_,_,rfl,rfl,s03 _ _ hpt,s3 _ _ eI,by rw[List.length_map,List.length_map];omega,fun C hC=>?_⟩
 rw[← List.map_append]
 generalize hlab:pts++inn nm e2 ls2=labs at hD q ⊢
 have ll:labs.length≤200:=by rw[← hlab,List.length_append];omega
 have s4:=same_new hC (.lst (labs.map V.str))
 have e4:upd H3 C (.lst (labs.map V.str)) C=some (.lst (labs.map V.str)):=upd_same
 generalize upd H3 C (.lst (labs.map V.str))=H4 at s4 e4 ⊢
 have s04:=s03.trans s4
 have nfree:∀b,H b≠none→b≠SP∧b≠C:=fun b hb=>⟨fun z=>by rw[z] at hb;exact hb (s02.free hSP),fun z=>by rw[z] at hb;exact hb (s03.free hC)⟩
 have nl:=nfree l (by rw[PA.hl];simp)
 have nSC:SP≠C:=ne_of_none e3 hC
 refine⟨C,rfl,⟨_,SqL.of e4⟩,?_⟩
 refine for_list (xs:=labs.map V.str) (fun k σ H'=>(∀b o,H b=some o→b≠l→H' b=some o)∧H' C=some (.lst (labs.map V.str))∧∃(sp:List Int) (z:Option V),σ=[some (.ref g),some (.str nm),some (.ref h),some (.ref pt),some (.ref I),some (.ref SP),z]∧H' SP=some (.lst (sp.map V.int))∧PlAt CP H' g l e t p (lps ls (labs.take k)) es ps∧SpAt (lps ls (labs.take k)) (labs.take k) sp) ⟨fun b o hb _=>s04 _ _ hb,e4,[],none,rfl,s4 _ _ e3,PA.same s04,rfl,fun i x hx=>by simp at hx⟩ (fun k σ H' _ hh=>SqL.of hh.2.1) ?_ ?_
 ·rintro k x σ H5 hx ⟨k5,c5,sp,z,rfl,sp5,PA5,at5⟩
  rw[List.getElem?_map] at hx
  obtain⟨y,hy,rfl⟩:=Option.map_eq_some_iff.mp hx
  have hk:=(List.getElem?_eq_some_iff.mp hy).1
  obtain⟨dg5,hg5⟩:=PA5.ob
  have lsp:=at5.1
  rw[List.length_take] at lsp
  have lk:=lps_len (labs.take k) ls
  rw[List.length_take] at lk
  refine⟨_,rfl,.inl ⟨rfl,_,SqL.of sp5⟩,_,rfl,g,dg5,_,rfl,hg5,(by with_unfolding_all rfl),_,rfl,g,l,t,p,e,_,es,ps,y,rfl,PA5,by omega,fun j H6 x6 PA6 hj=>?_⟩
  have sp6:=x6 _ _ sp5 (Ne.symm nl.1)
  refine⟨SP,_,_,rfl,rfl,sp6,small1000 (by rw[List.length_map];omega),?_⟩
  have et:labs.take (k+1)=labs.take k++[y]:=by rw[List.take_add_one,hy];rfl
  rw[et,lps_snoc]
  obtain⟨⟨dg6,hg6⟩,hl6,ht6,hp6,n1,n2,n3⟩:=PA6
  have nt:=nfree t (by rw[PA.ht];simp)
  have np:=nfree p (by rw[PA.hp];simp)
  have ngS:g≠SP:=fun z=>by rw[z] at hg6;rw[hg6] at sp6;cases sp6
  refine⟨fun b o hb nb=>?_,by rw[upd_ne (Ne.symm nSC)];exact x6 _ _ c5 (Ne.symm nl.2),sp++[(j:Int)],_,rfl,by rw[upd_same,List.map_append];rfl,⟨⟨dg6,by rw[upd_ne ngS];exact hg6⟩,by rw[upd_ne nl.1];exact hl6,by rw[upd_ne nt.1];exact ht6,by rw[upd_ne np.1];exact hp6,n1,n2,n3⟩,by rw[List.length_append,List.length_append,at5.1];rfl,fun i x hx=>?_⟩
  ·rw[upd_ne (fun z=>by rw[z] at hb;rw[s02.free hSP] at hb;cases hb)]
   exact x6 _ _ (k5 b o hb nb) nb
  ·by_cases hi:i < (labs.take k).length
   ·rw[List.getElem?_append_left hi] at hx
    obtain⟨j',h1,h2⟩:=at5.2 i x hx
    exact⟨j',by rw[List.getElem?_append_left (by rw[at5.1];exact hi)];exact h1,lput_keep y h2⟩
   ·rw[List.getElem?_append_right (by omega)] at hx
    have i0:i - (labs.take k).length=0:=by have:=(List.getElem?_eq_some_iff.mp hx).1;simp only[List.length_cons,List.length_nil] at this;omega
    rw[i0] at hx
    have:y=x:=by simpa using hx
    subst this
    exact⟨j,by rw[List.getElem?_append_right (by rw[at5.1];omega),at5.1,i0];rfl,hj⟩
 rintro σ H5 ⟨k5,c5,sp,z,rfl,sp5,PA5,at5⟩
 rw[List.length_map,List.take_length] at PA5 at5
 have nhl:h≠l:=ne_of hh PA.hl (fun z=>by cases z)
 have hh5:=k5 _ _ hh nhl
 have ht25:=k5 _ _ ht2 x4
 have hR5:Rts K H5 es2 ds2:=SameX.rts PA.hl k5 hR
 obtain⟨⟨dg5,hg5⟩,hl5,ht5,hp5,n1,n2,n3⟩:=PA5
 have les2:=hR5.length
 have lsp:=at5.1
 have spat:∀u:Int,0≤u→u.toNat < labs.length→atI (sp.map V.int) u=some (.int (sp.getD u.toNat 0)):=fun u u0 ul=>by
  obtain⟨n,rfl⟩:∃n:Nat,u=(n:Int):=⟨u.toNat,by omega⟩
  refine atI_nat ?_
  rw[List.getElem?_map,show ((n:Int)).toNat=n by omega,List.getElem?_eq_getElem (by rw[lsp];simpa using ul),List.getD_eq_getElem?_getD,List.getElem?_eq_getElem (by rw[lsp];simpa using ul)]
  rfl
 refine⟨_,rfl,g,CP,dg5,_,_,rfl,hg5,PTx.cl,PTx.nt,pfl_t _ _ _ _,.inl ⟨rfl,_,SqL.of ht5⟩,_,rfl,h,CP,dh,_,_,rfl,hh5,PTx.cl,PTx.nt,pfl_t _ _ _ _,t2,rfl,⟨_,SqL.of ht25⟩,fun D hD'=>?_⟩
 have sD:=same_new hD' (.lst [])
 refine comp_list (xs:=es2) (fun k zs H'=>Same H5 H'∧H' D=some (.lst zs)∧Rts K H' zs ((ds2.take k).map (mvD sp))) ⟨sD,upd_same,.nil⟩ (fun k zs H' hh=>hh.2.1) (fun k zs H' _ hh=>hh.1.seq (SqL.of ht25)) ?_ ?_
 ·rintro k' zs x H6 hx ⟨s6,e6,R6⟩ C' hC'
  have hk:=(List.getElem?_eq_some_iff.mp hx).1
  obtain⟨⟨kd,u,v,pz⟩,hd⟩:∃d,ds2[k']?=some d:=⟨_,List.getElem?_eq_getElem (by omega)⟩
  obtain⟨t',z',et,hT,fz⟩:=hR5.at hd
  have ex:x=.ref t':=by rw[et] at hx;exact(Option.some.inj hx).symm
  subst ex
  obtain⟨u0,ul,v0,vl⟩:=hD _ (List.mem_of_getElem? hd)
  have lz:=R6.length
  rw[List.length_map,List.length_take] at lz
  refine⟨keep1.1,keep1.2,iteT ?_⟩
  refine⟨_,rfl,t',_,_,_,_,rfl,s6.seqT hT,kd,rfl,fun y1 H7 s7 ny1 rw1=>?_⟩
  obtain⟨dy1,hy1⟩:=id rw1
  refine⟨kd,y1,dy1,_,rfl,hy1,(rflds_no _ _ _ (by decide +kernel) (by decide +kernel) (by decide +kernel)),_,rfl,y1,SP,kd,u,v,_,_,_,_,rfl,rw1,SqL.of ((s6.trans s7) _ _ sp5),spat u u0 ul,spat v v0 vl,fun y2 H8 s8 ny2 rw2=>?_⟩
  obtain⟨dy2,hy2⟩:=id rw2
  refine⟨kd,y2,dy2,_,rfl,hy2,(rflds_no _ _ _ (by decide +kernel) (by decide +kernel) (by decide +kernel)),y2,kd,_,_,_,rfl,rw2,fun T' hT'=>?_⟩
  have s9:=same_new hT' (.tup [.str kd.wd,.int (sp.getD u.toNat 0),.int (sp.getD v.toNat 0),.ref z'])
  have e9:SqT K (upd H8 T' (.tup [.str kd.wd,.int (sp.getD u.toNat 0),.int (sp.getD v.toNat 0),.ref z'])) T' [.str kd.wd,.int (sp.getD u.toNat 0),.int (sp.getD v.toNat 0),.ref z']:=SqT.of upd_same
  generalize upd H8 T' (.tup [.str kd.wd,.int (sp.getD u.toNat 0),.int (sp.getD v.toNat 0),.ref z'])=H9 at s9 e9 ⊢
  have s69:=s7.trans (s8.trans s9)
  refine⟨s69 _ _ e6,small1000 (by omega),hC' _ _ ⟨(s6.trans s69).change hD',upd_same,?_⟩⟩
  rw[List.take_add_one,hd,List.map_append]
  exact Rts.upd (s69 _ _ e6) ((R6.same s69).app (.cons e9 ((s6.trans s69).fq fz) .nil))
 rintro zs H6 ⟨s6,e6,R6⟩
 rw[les2,List.take_length] at R6
 have lz:=R6.length
 rw[List.length_map] at lz
 have ht6:=s6 _ _ ht5
 refine⟨t,D,_,_,rfl,rfl,ht6,e6,by omega,?_⟩
 have ntD:t≠D:=ne_of_none ht5 hD'
 have ngt:g≠t:=ne_of hg5 ht5 (fun z=>by cases z)
 have nlt:l≠t:=n1
 have hg7:upd H6 t (.lst (es++zs)) g=some (.ins CP dg5 (pfl l e t p)):=by rw[upd_ne ngt];exact s6 _ _ hg5
 have hp7:upd H6 t (.lst (es++zs)) p=some (.lst ps):=by rw[upd_ne (Ne.symm n3)];exact s6 _ _ hp5
 have hl7:upd H6 t (.lst (es++zs)) l=some (.lst ((lps ls labs).map V.str)):=by rw[upd_ne nlt];exact s6 _ _ hl5
 have ht7:upd H6 t (.lst (es++zs)) t=some (.lst (es++zs)):=upd_same
 have R7:=Rts.upd (o:=.lst (es++zs)) ht6 R6
 have k7:∀b o,H b=some o→b≠l→b≠t→upd H6 t (.lst (es++zs)) b=some o:=fun b o hb n1 n2=>by rw[upd_ne n2];exact s6 _ _ (k5 b o hb n1)
 generalize upd H6 t (.lst (es++zs))=H7 at hg7 hp7 hl7 ht7 R7 k7 ⊢
 refine⟨_,rfl,g,CP,dg5,_,_,rfl,hg7,PTx.cl,PTx.np,pfl_p _ _ _ _,.inl ⟨rfl,_,SqL.of hp7⟩,_,rfl,p,ps,_,rfl,rfl,hp7,small1000 (by omega),?_⟩
 have ngp:g≠p:=ne_of hg7 hp7 (fun z=>by cases z)
 refine q sp zs _ (fun b o hb n1 n2 n3=>by rw[upd_ne n3];exact k7 b o hb n1 n2) ⟨⟨dg5,by rw[upd_ne ngp];exact hg7⟩,by rw[upd_ne n2];exact hl7,by rw[upd_ne n3];exact ht7,upd_same,n1,n2,n3⟩ (Rts.upd hp7 R7) at5
structure PD where
 ls:List Str
 e:Nat
 ds:List RD
 pn:List Str
structure YS where
 gr:PD
 pa:List (Str × PD)
 op:Option (Str × PD)
def YS.cur (Y:YS):PD:=match Y.op with
 |none=>Y.gr
 |some q=>q.2
def YS.keep (Y:YS)(P:PD):YS:=match Y.op with
 |none=>{ Y with gr:=P }
 |some q=>{ Y with op:=some (q.1,P) }
def PlOk (CP:Addr)(K:PySem.W.Frag)(av:List Addr)(H:Hp)(g:Addr)(P:PD):Prop:=
 ∃(l t p:Addr) (es:List V),PlAt CP H g l (P.e:Int) t p P.ls es (P.pn.map V.str)∧Rts K H es P.ds∧l∉av∧t∉av∧p∉av
def PaOk (CP:Addr)(K:PySem.W.Frag)(av:List Addr)(H:Hp):List (Key × V)→List (Str × PD)→Prop
 | [],[]=>True
 |kv :: kvs,nP :: pa=>kv.1=Sum.inr nP.1∧(∃g,kv.2=.ref g∧PlOk CP K av H g nP.2)∧PaOk CP K av H kvs pa
 |_,_=>False
def OpOk (CP:Addr)(K:PySem.W.Frag)(av:List Addr)(H:Hp)(o q:V):Option (Str × PD)→Prop
 |none=>o=.non∧q=.non
 |some nP=>o=.str nP.1∧∃g,q=.ref g∧PlOk CP K av H g nP.2
def YG (CY CP:Addr)(K:PySem.W.Frag)(av:List Addr)(H:Hp)(y d:Addr)(Y:YS):Prop:=
 ∃(dy g:Addr) (o q:V) (kvs:List (Key × V)),H y=some (.ins CY dy (yfl g d o q))∧PlOk CP K av H g Y.gr∧H d=some (.dK kvs)∧PaOk CP K av H kvs Y.pa∧OpOk CP K av H o q Y.op∧∀a∈av,H a≠none
def SYd (y d:Addr)(H H':Hp):Prop:=∀b o,H b=some o→b≠y→b≠d→H' b=some o
theorem PlOk.mv {CP CY dy:Addr}{K:PySem.W.Frag}{av:List Addr}{H H':Hp}{y d g:Addr}{P:PD}{fs:List (Str × V)}{kvs:List (Key × V)}(hy:H y=some (.ins CY dy fs))(hd:H d=some (.dK kvs))(s:SYd y d H H')(ng:g≠y)(h:PlOk CP K av H g P):PlOk CP K av H' g P:=by
 obtain⟨l,t,p,es,⟨⟨dg,hg⟩,hl,ht,hp,n1,n2,n3⟩,hR,x1,x2,x3⟩:=h
 have mt:∀{a:Addr} {xs:List V},SqT K H a xs→SqT K H' a xs:=fun h=>by
  rcases h with (h | ⟨u,h⟩) | h
  ·exact .inl (.inl (s _ _ h (ne_of h hy (fun z=>by cases z)) (ne_of h hd (fun z=>by cases z))))
  ·exact .inl (.inr ⟨u,s _ _ h (ne_of h hy (fun z=>by cases z)) (ne_of h hd (fun z=>by cases z))⟩)
  ·exact .inr h
 have mr:∀{xs:List V} {ds:List RD},Rts K H xs ds→Rts K H' xs ds:=fun h=>by
  induction h with
  |nil=>exact .nil
  |cons a b c ih=>exact .cons (mt a) (mt b) ih
 have ml:∀{a:Addr} {xs:List V},H a=some (.lst xs)→H' a=some (.lst xs):=fun h=>s _ _ h (ne_of h hy (fun z=>by cases z)) (ne_of h hd (fun z=>by cases z))
 exact⟨l,t,p,es,⟨⟨dg,s _ _ hg ng (ne_of hg hd (fun z=>by cases z))⟩,ml hl,ml ht,ml hp,n1,n2,n3⟩,mr hR,x1,x2,x3⟩
theorem PlOk.same {CP:Addr}{K:PySem.W.Frag}{av:List Addr}{H H':Hp}{g:Addr}{P:PD}(s:Same H H')(h:PlOk CP K av H g P):PlOk CP K av H' g P:=
 let ⟨l,t,p,es,a,b,c⟩:=h;⟨l,t,p,es,a.same s,b.same s,c⟩
theorem PaOk.imp {CP:Addr}{K:PySem.W.Frag}{av:List Addr}{H H':Hp}(f:∀g P,PlOk CP K av H g P→PlOk CP K av H' g P):∀{kvs:List (Key × V)} {pa:List (Str × PD)},PaOk CP K av H kvs pa→PaOk CP K av H' kvs pa
 | [],[],h=>h
 | [],_ :: _,h=>h
 |_ :: _,[],h=>h
 |_ :: _,_ :: _,⟨a,⟨g,e,p⟩,c⟩=>⟨a,⟨g,e,f g _ p⟩,PaOk.imp f c⟩
theorem OpOk.imp {CP:Addr}{K:PySem.W.Frag}{av:List Addr}{H H':Hp}{o q:V}(f:∀g P,PlOk CP K av H g P→PlOk CP K av H' g P):∀{x:Option (Str × PD)},OpOk CP K av H o q x→OpOk CP K av H' o q x
 |none,h=>h
 |some _,⟨a,g,e,p⟩=>⟨a,g,e,f g _ p⟩
theorem YG.same {CY CP:Addr}{K:PySem.W.Frag}{av:List Addr}{H H':Hp}{y d:Addr}{Y:YS}(s:Same H H')(h:YG CY CP K av H y d Y):YG CY CP K av H' y d Y:=by
 obtain⟨dy,g,o,q,kvs,hy,hg,hd,hp,ho,ha⟩:=h
 refine⟨dy,g,o,q,kvs,s _ _ hy,hg.same s,s _ _ hd,hp.imp fun _ _ h=>h.same s,ho.imp fun _ _ h=>h.same s,fun a hin z=>?_⟩
 cases e:H a with
 |none=>exact ha a hin e
 |some o'=>rw[s _ _ e] at z;cases z
def spCoTG (CY CP:Addr)(K:PySem.W.Frag):Sp:=fun vs H Q _=>∃(av:List Addr) (y d:Addr) (Y:YS),vs=[.ref y]∧YG CY CP K av H y d Y∧∀g' l' t' p' es H',Same H H'→H g'=none→H l'=none→H t'=none→H p'=none→PlAt CP H' g' l' (Y.cur.e:Int) t' p' Y.cur.ls es (Y.cur.pn.map V.str)→Rts K H' es Y.cur.ds→Q (.ref g') H'
abbrev sCoT:Stmt:=inClass (top 46) 6
theorem scCoT:FnScope ["self"] ["self"] (defScope sCoT):=⟨rfl,rfl,rfl,by decide +kernel,rfl,by decide +kernel,by decide +kernel⟩
theorem ok_cot {dV:Value}{CY:Addr}(F:FunD K "copy_of_told" "Yard.copy_of_told" sCoT dV f fd)(YTx:YaT K mg CY){CP:Addr}(PTx:PlT K mg CP){gCp:Addr}{gdCp:FuncData}(GCp:FnOk P w K mg base CX0 3 gCp gdCp ["self"] (spPCopy CP))(bCp:Binds K gdCp ["self"] [])(mCp:Meth K CP "copy" gCp):FnOk P w K mg base CX 4 f fd ["self"] (spCoTG CY CP K):=by
 refine F.ok scCoT (fun vs H Q E h=>?_) (fun cdv A outer s H vs Q E hr h=>?_)
 ·obtain⟨av,y,d,Y,rfl,⟨dy,g,o,q',kvs,hy,hg,hd,hp,ho,ha⟩,q⟩:=h
  rfl
 obtain⟨av,y,d,Y,rfl,⟨dy,g,o,q',kvs,hy,hg,hd,hp,ho,ha⟩,q⟩:=h
 refine⟨_,(pss_cons (ps_if (pt_cmp (pc_isN (pe_fld (pv 0) rfl))) (pss_one (ps_ret (pe_meth0 (pe_fld (pv 0) rfl) PTx.cl mCp GCp hr bCp .nil pass0))) pss_nil)
  (pss_one (ps_ret (pe_meth0 (pe_fld (pv 0) rfl) PTx.cl mCp GCp hr bCp .nil pass0)))),?_⟩
 cases e:Y.op with
 |none=>
  rw[e] at ho
  obtain⟨rfl,rfl⟩:=ho
  have ec:Y.cur=Y.gr:=by unfold YS.cur;rw[e]
  rw[ec] at q
  obtain⟨l,t,p,es,PA,hR,_⟩:=hg
  obtain⟨dg,hgo⟩:=PA.ob
  refine⟨_,rfl,y,CY,dy,_,_,rfl,hy,YTx.cl,YTx.no,yfl_o _ _ _ _,_,rfl,iteT ?_⟩
  exact⟨_,rfl,y,CY,dy,_,_,rfl,hy,YTx.cl,YTx.ng,yfl_g _ _ _ _,g,dg,_,rfl,hgo,(by with_unfolding_all rfl),g,l,t,p,_,_,es,_,rfl,PA,fun g' l' t' p' H' s a1 a2 a3 a4 PA'=>q g' l' t' p' es H' s a1 a2 a3 a4 PA' (hR.same s)⟩
 |some nP=>
  rw[e] at ho
  obtain⟨rfl,g2,rfl,l,t,p,es,PA,hR,_⟩:=ho
  have ec:Y.cur=nP.2:=by unfold YS.cur;rw[e]
  rw[ec] at q
  obtain⟨dg,hgo⟩:=PA.ob
  refine⟨_,rfl,y,CY,dy,_,_,rfl,hy,YTx.cl,YTx.no,yfl_o _ _ _ _,_,rfl,iteF ?_⟩
  exact⟨_,rfl,y,CY,dy,_,_,rfl,hy,YTx.cl,YTx.nq,yfl_q _ _ _ _,g2,dg,_,rfl,hgo,(by with_unfolding_all rfl),g2,l,t,p,_,_,es,_,rfl,PA,fun g' l' t' p' H' s a1 a2 a3 a4 PA'=>q g' l' t' p' es H' s a1 a2 a3 a4 PA' (hR.same s)⟩
theorem py_ne (l:Addr)(e:Int)(t p g d:Addr)(o q:V):pfl l e t p≠yfl g d o q:=fun h=>by
 have:=congrArg (fun x=>x.head?.map (·.1)) h
 have:("labels":Str) = "ground":=by simpa[pfl,yfl] using this
 exact absurd this (by decide +kernel)
theorem pl_ne {CP CY dy g y:Addr}{H:Hp}{K:PySem.W.Frag}{av:List Addr}{P:PD}{g' d:Addr}{o q:V}(h:PlOk CP K av H g P)(hy:H y=some (.ins CY dy (yfl g' d o q))):g≠y:=fun z=>by
 obtain⟨l,t,p,es,PA,_⟩:=h
 obtain⟨dg,hg⟩:=PA.ob
 rw[z,hy] at hg
 injection hg with hg
 injection hg with _ _ hg
 exact py_ne _ _ _ _ _ _ _ _ hg.symm
theorem yfl_o' (g d:Addr)(o q o':V):putF "opened" o' (yfl g d o q)=yfl g d o' q:=by with_unfolding_all rfl
theorem yfl_q' (g d:Addr)(o q q':V):putF "opened_plan" q' (yfl g d o q)=yfl g d o q':=by with_unfolding_all rfl
def spKeepG (CY CP CT:Addr)(K:PySem.W.Frag):Sp:=fun vs H Q E=>∃(av:List Addr) (y d g':Addr) (Y:YS) (P':PD),vs=[.ref y,.ref g']∧YG CY CP K av H y d Y∧PlOk CP K av H g' P'∧((P'.ls.length≤20∧P'.ds.length≤40)→∀H',SYd y d H H'→YG CY CP K av H' y d (Y.keep P')→Q .non H')∧(¬(P'.ls.length≤20∧P'.ds.length≤40)→E (.ref CT) none H)
theorem YG.put {CY CP dy:Addr}{K:PySem.W.Frag}{av:List Addr}{H:Hp}{y d g g2:Addr}{o q o2 q2:V}{kvs:List (Key × V)}{Y2:YS}(hy:H y=some (.ins CY dy (yfl g d o q)))(hd:H d=some (.dK kvs))(hg:PlOk CP K av H g2 Y2.gr)(hp:PaOk CP K av H kvs Y2.pa)(ho:OpOk CP K av H o2 q2 Y2.op)(ha:∀a∈av,H a≠none):SYd y d H (upd H y (.ins CY dy (yfl g2 d o2 q2)))∧YG CY CP K av (upd H y (.ins CY dy (yfl g2 d o2 q2))) y d Y2:=by
 have s:SYd y d H (upd H y (.ins CY dy (yfl g2 d o2 q2))):=fun b o h n1 _=>by rw[upd_ne n1];exact h
 have m:∀g P,PlOk CP K av H g P→PlOk CP K av (upd H y (.ins CY dy (yfl g2 d o2 q2))) g P:=fun g P h=>h.mv hy hd s (pl_ne h hy)
 have ndy:d≠y:=fun z=>by rw[z,hy] at hd;cases hd
 refine⟨s,dy,g2,o2,q2,kvs,upd_same,m _ _ hg,by rw[upd_ne ndy];exact hd,hp.imp m,ho.imp m,fun a hin z=>?_⟩
 by_cases h:a=y
 ·rw[h,upd_same] at z;cases z
 ·rw[upd_ne h] at z;exact ha a hin z
abbrev sKeep:Stmt:=inClass (top 46) 7
theorem scKeep:FnScope ["self","plan"] ["self","plan"] (defScope sKeep):=⟨rfl,rfl,rfl,by decide +kernel,rfl,by decide +kernel,by decide +kernel⟩
theorem ok_keep {dV:Value}{CY:Addr}(F:FunD K "keep" "Yard.keep" sKeep dV f fd)(YTx:YaT K mg CY){CP CT:Addr}(G1:FnOk P w K mg base (CX1 P w) 2 g1 gd1 ["plan"] (spROverX CP CT))(b1:Binds K gd1 ["plan"] [])(k1:PySem.W.keepIn K (.ref g1)=true)(m1:mg "refuse_overfull"=some (.ref g1)):FnOk P w K mg base (CX1 P w) 3 f fd ["self","plan"] (spKeepG CY CP CT K):=by
 refine F.okX scKeep (fun vs H Q E h=>?_) (fun cdv A outer s H vs Q E hr h=>?_)
 ·obtain⟨av,y,d,g',Y,P',rfl,⟨dy,g,o,q',kvs,hy,hg,hd,hp,ho,ha⟩,hP,q1,q2⟩:=h
  rfl
 obtain⟨av,y,d,g',Y,P',rfl,⟨dy,g,o,q',kvs,hy,hg,hd,hp,ho,ha⟩,hP,q1,q2⟩:=h
 refine⟨_,(pss_cons (ps_expr (pe_call G1 hr rfl m1 k1 b1 .nil (passes_cx frm_cxOf xe_cxOf) (pa_cons (pv 1) pa_nil)))
  (pss_one (ps_if (pt_cmp (pc_isN (pe_fld (pv 0) rfl))) (pss_one (ps_fld (pv 0) (pv 1) rfl)) (pss_one (ps_fld (pv 0) (pv 1) rfl))))),?_⟩
 obtain⟨l,t,p,es,PA,hR,hav⟩:=id hP
 have les:=hR.length
 refine⟨_,rfl,g',l,t,p,_,_,es,_,rfl,PA,fun ok=>?_,fun no=>q2 (by omega)⟩
 have ok':P'.ls.length≤20∧P'.ds.length≤40:=by omega
 cases e:Y.op with
 |none=>
  rw[e] at ho
  obtain⟨rfl,rfl⟩:=ho
  refine⟨_,rfl,y,CY,dy,_,_,rfl,hy,YTx.cl,YTx.no,yfl_o _ _ _ _,_,rfl,iteT ?_⟩
  refine⟨_,rfl,_,rfl,y,CY,dy,yfl g d .non .non,rfl,hy,YTx.cl,YTx.ng,by show 4 < 1000;decide,?_⟩
  rw[yfl_gr]
  have ek:Y.keep P'={ Y with gr:=P' }:=by unfold YS.keep;rw[e]
  rw[ek] at q1
  obtain⟨s1,y1⟩:=YG.put (g2:=g') (o2:=.non) (q2:=.non) (Y2:={ Y with gr:=P' }) hy hd hP hp (by show OpOk CP K av H .non .non Y.op;rw[e];exact⟨rfl,rfl⟩) ha
  exact q1 ok' _ s1 y1
 |some nP=>
  rw[e] at ho
  obtain⟨rfl,g2,rfl,hP2⟩:=ho
  refine⟨_,rfl,y,CY,dy,_,_,rfl,hy,YTx.cl,YTx.no,yfl_o _ _ _ _,_,rfl,iteF ?_⟩
  refine⟨_,rfl,_,rfl,y,CY,dy,yfl g d (.str nP.1) (.ref g2),rfl,hy,YTx.cl,YTx.nq,by show 4 < 1000;decide,?_⟩
  rw[yfl_q']
  have ek:Y.keep P'={ Y with op:=some (nP.1,P') }:=by unfold YS.keep;rw[e]
  rw[ek] at q1
  obtain⟨s1,y1⟩:=YG.put (g2:=g) (o2:=.str nP.1) (q2:=.ref g') (Y2:={ Y with op:=some (nP.1,P') }) hy hd hg hp ⟨rfl,g',rfl,hP⟩ ha
  exact q1 ok' _ s1 y1
end
end K84
namespace L2
open PySem PyProof.Rows
section
variable {P:Program} {w:World} {A:Around} {E:Value→Shared→Prop} {s:Shared} {b:Bool}
section
variable {R:Result→Shared→Prop} {I:Addr} {fp wr:List Addr} {G:Array GenState→Array GenState→Prop} {n:Nat} {Pv:Nat→Value→Prop} {St:Nat→Shared→Prop}
theorem SetOf_eq {K:Type}[DecidableEq K]{knd:PySem.KeyKind P w K}{h:Heap}{a:Addr}{S S':K→Bool}{n n':Nat}(q:h.SetOf knd a S n)(e:S=S')(en:n=n'):h.SetOf knd a S' n':=by subst e en;exact q
end
end
abbrev emp (g:Bool):Obj:={ cls:=.type "set",dict:=none,data:=.set #[] 0 (.fresh 0 0 g) }
theorem set_boot:bootBuiltins "set"=some (.type "set"):=by decide +kernel
end L2
set_option maxHeartbeats 2000000
set_option maxHeartbeats 4000000
namespace L2
open PySem PyProof.Rows
theorem vstrT {ns:List Str}{its:List Value}(rv:Vals (ns.map V.str) its){i:Nat}{p:Str}(h:ns[i]?=some p):∃t,its[i]?=some (.str p t):=by
 obtain⟨u,hu,ru⟩:=rv.get (show (ns.map V.str)[i]?=some (.str p) by rw[List.getElem?_map,h];rfl)
 obtain⟨t,rfl⟩:=(show ∃t,u=Value.str p t from ru)
 exact⟨t,hu⟩
def dtS (acc:List Str)(x:Str):List Str:=if x∈acc then acc else acc++[x]
def dt (ns:List Str):List Str:=ns.foldl dtS []
theorem dt_snoc (ns:List Str)(x:Str):dt (ns++[x])=if x∈dt ns then dt ns else dt ns++[x]:=by
 unfold dt
 rw[List.foldl_append];rfl
theorem snoc_indT {P:List Str→Prop}(h0:P [])(h1:∀l x,P l→P (l++[x]))(l:List Str):P l:=by
 have:∀n (l:List Str),l.length=n→P l:=by
  intro n
  induction n with
  |zero=>intro l h;rw[List.length_eq_zero_iff.mp h];exact h0
  |succ n ih=>
   intro l h
   have hn:l≠[]:=by intro z;rw[z] at h;cases h
   rw[← List.dropLast_concat_getLast hn]
   exact h1 _ _ (ih _ (by rw[List.length_dropLast,h];rfl))
 exact this _ l rfl
theorem dt_mem (ns:List Str):∀x,x∈dt ns↔x∈ns:=by
 refine snoc_indT (P:=fun ns=>∀x,x∈dt ns↔x∈ns) (fun x=>Iff.rfl) (fun l y ih x=>?_) ns
 rw[dt_snoc,List.mem_append]
 split
 ·rename_i h
  rw[ih]
  refine⟨.inl,fun z=>z.elim id fun z=>?_⟩
  have:x=y:=by simpa using z
  rw[this];exact(ih y).mp h
 ·rw[List.mem_append,ih]
theorem dt_le (ns:List Str):(dt ns).length≤ns.length:=by
 refine snoc_indT (P:=fun ns=>(dt ns).length≤ns.length) (Nat.le_refl _) (fun l y ih=>?_) ns
 rw[dt_snoc,List.length_append]
 split
 ·omega
 ·rw[List.length_append];omega
section
variable {P:Program} {w:World} {A:Around} {E:Value→Shared→Prop} {s:Shared}
section
variable {R:Result→Shared→Prop} {I:Addr} {fp wr:List Addr} {G:Array GenState→Array GenState→Prop} {n:Nat} {Pv:Nat→Value→Prop} {St:Nat→Shared→Prop}
theorem upd_str (W:WalksS P w A.in1 I fp wr G n Pv St)(T:Addr)(hT:T∉fp){ns:List Str}(hn:n=ns.length)(hn9:ns.length≤1000)(hv:∀i v,Pv i v→∃z t,ns[i]?=some z∧v=.str z t):∀(k i:Nat) (s:Shared),n - i=k→i≤n→St i s→s.heap.SetOf (PySem.strKind P w) T (fun z=>decide (z∈ns.take i)) (dt (ns.take i)).length→
   (∀s',Moved (T :: wr) G s s'→s'.heap.SetOf (PySem.strKind P w) T (fun z=>decide (z∈ns.take n)) (dt (ns.take n)).length→R (.ok (.ret .none)) s')→codeAny (model P w) A (.builtin "set.update.loop" ⟨[.ref T,.ref I],[]⟩) R s:=by
 have hTw:T∉wr:=fun h=>hT (W.sub _ h)
 have up:∀x∈wr,x∈T :: wr:=fun x hx=>List.mem_cons_of_mem _ hx
 intro k
 induction k with
 |zero=>
  intro i s hk hi st hS hR
  obtain rfl:i=n:=by omega
  refine codeAny_builtin PyProof.Rows.F.entry_set_update_loop ?_
  rw[Around.under_plainId PyProof.Rows.F.plain_set_update_loop _]
  refine wpAny_bind (m:=pyNext (.ref I)) (W.done s _ _ st fun s' mv=>?_)
  refine wpAny_pure (hR s' (mv.mono up) ?_)
  obtain⟨o,es,ep,t,ho,q⟩:=hS
  exact⟨o,es,ep,t,mv.heap T _ hTw ho,q⟩
 |succ k ih=>
  intro i s hk hi st hS hR
  have lt:i < n:=by omega
  refine codeAny_builtin PyProof.Rows.F.entry_set_update_loop ?_
  rw[Around.under_plainId PyProof.Rows.F.plain_set_update_loop _]
  refine wpAny_bind (m:=pyNext (.ref I)) (W.item i s _ _ lt st fun v s' hp st' mv=>?_)
  obtain⟨z,tz,hz,rfl⟩:=hv i v hp
  have hS1:s'.heap.SetOf (PySem.strKind P w) T (fun z=>decide (z∈ns.take i)) (dt (ns.take i)).length:=by
   obtain⟨o,es,ep,t,ho,q⟩:=hS
   exact⟨o,es,ep,t,mv.heap T _ hTw ho,q⟩
  refine wpAny_bind (m:=holding [Value.str z tz] (setAdd T (.str z tz))) (wpAny_holding ?_)
  unfold setAdd
  refine wpAny_holding (wpAny_bind ((PySem.strKind P w).pyHash (k:=z) (strKind_is _ _ _ _) ?_))
  refine wpAny_setAddHashed_of (knd:=PySem.strKind P w) (k:=z) (s:={ s' with toks:=s'.toks+1 }) (strKind_is _ _ _ _) rfl hS1 (by have:=dt_le (ns.take i);rw[List.length_take] at this;unfold scanBound;omega) fun h' sb hS2=>?_
  have et:ns.take (i+1)=ns.take i++[z]:=by rw[List.take_add_one,hz];rfl
  have hS3:h'.SetOf (PySem.strKind P w) T (fun z=>decide (z∈ns.take (i+1))) (dt (ns.take (i+1))).length:=by
   refine SetOf_eq hS2 (by funext u;rw[et];simp) ?_
   rw[et,dt_snoc]
   by_cases h0:z∈ns.take i
   ·rw[if_pos (by simpa using h0),if_pos ((dt_mem _ z).mpr h0)]
   ·rw[if_neg (by simpa using h0),if_neg (fun y=>h0 ((dt_mem _ z).mp y)),List.length_append];rfl
  refine wpAny_pure ⟨plainId_quiet PyProof.Rows.F.plain_set_update_loop _,ih (i+1) _ (by omega) lt (W.frame _ s' _ _ st' (Nat.le_succ _) fun x hx o e=>?_) hS3 fun s2 mv2 q=>?_⟩
  ·rw[sb.2 x (fun z=>hT (by rw[← z];exact hx))];exact e
  ·refine hR s2 (Moved.trans W.gtrans ((mv.mono up).then_heap (Nat.le_succ _) fun x o hx e=>?_) mv2) q
   rw[sb.2 x (fun z=>hx (by rw[z];exact List.mem_cons_self))];exact e
end
def TxtS (P:Program)(w:World)(ns:List Str)(s:Shared)(h':Heap):Prop:=
 h'.SetOf (PySem.strKind P w) s.heap.objs.size (fun z=>decide (z∈ns)) (dt ns).length∧∀x o,x < s.heap.objs.size→s.heap.get? x=some o→h'.get? x=some o
theorem call_setT {l:Addr}{ns:List Str}{its:Array Value}{Q:Value→Shared→Prop}(hh:A.handled=none)(hl:s.heap.IsList l its)(hn9:ns.length≤1000)(hsz:its.size=ns.length)(hi:∀(i:Nat) (v:Value),its[i]?=some v→∃z t,ns[i]?=some z∧v=.str z t)(h:∀(h':Heap) (tk:Nat),TxtS P w ns s h'→Q (.ref s.heap.objs.size) { s with heap:=h',toks:=tk }):wpAny (model P w) A (call (.type "set") [.ref l]) Q E s:=by
 obtain⟨c,tl,mro⟩:=PySem.F.called_set.mro
 have made:=PySem.F.called_set.made
 have sub:=PySem.F.called_set.sub
 have nt:=PySem.F.called_set.notType
 have cc:=PySem.F.called_set.canCreate
 have tc:=PySem.F.typeCall_set_1 (.ref l)
 refine wpAny_call (codeAny_of_tree (show wpAny _ _ (callAny (.type "set") _) _ _ _ from wpAny_pure ⟨Code.quiet_builtin _ (by decide +kernel),codeAny_builtin PySem.F.entry_type_call ?_⟩))
 rw[Around.under_plain (weight_type_call_type "set" [.ref l] []) rfl]
 repeat (any_goals (first | assumption | wp_step))
 refine codeAny_mono (code_set_new_1 (.ref l) (E:=E) (Q₁:=fun x t=>∃g:Bool,x=.ref s.heap.objs.size∧t={ s with heap:=s.heap.push (emp g) }) fun g=>⟨g,rfl,rfl⟩) fun r t hr=>?_
 cases r with
 |error e=>exact hr
 |ok fl=>
  cases fl with
  |ret x=>
   obtain⟨g,rfl,rfl⟩:=hr
   have hS:(s.heap.push (emp g)).get? s.heap.objs.size=some (emp g):=Heap.get?_push_size _ rfl
   have hT:Shared.TypeIs { s with heap:=s.heap.push (emp g) } (.ref s.heap.objs.size) "set":=⟨_,hS,rfl⟩
   have li:=PySem.F.called_set.init.lookup
   have bi:=PySem.F.called_set.init.bind (.ref s.heap.objs.size)
   repeat (any_goals (first | assumption | wp_step))
   refine codeAny_mono (codeAny_call_builtin (R:=wants (fun r t=>r=.none∧∃h' tk,t={ s with heap:=h',toks:=tk }∧TxtS P w ns s h') E) PySem.F.called_set.init.plain PySem.F.entry_set_init (check_set_init_1 hT ?_)) fun r t hr=>?_
   ·obtain⟨ol,hol,hc,m,hd⟩:=hl
    obtain⟨cls,dict,data,sls⟩:=ol
    simp only at hc hd
    subst hc hd
    have hol':(s.heap.push (emp g)).get? l=some ⟨.type "list",dict,.seq its m,sls⟩:=Heap.get?_push_of_some _ hol
    have n1:=PySem.F.sub_list_set
    have n2:=PySem.F.sub_list_frozenset
    have n3:(Value.type "list" == Value.type "dict")=false:=rfl
    have hl1:(s.heap.push (emp g)).IsList l its:=⟨_,hol',rfl,m,rfl⟩
    unfold Builtin.«set.__init__» noKeywords Builtin.Frozenset.updateFrom
    generalize hPI:pyIter=PI
    wp_walk
    subst hPI
    refine wpAny_pyIter_list hl1 (wpAny_bind (wpAny_runValue ?_))
    have lts:l < s.heap.objs.size:=Heap.lt_size hol
    have h3:A.in1.in1.in1.handled=none:=by simp[hh]
    have sz:(s.heap.push (emp g)).objs.size=s.heap.objs.size+1:=Heap.size_push ..
    have ne1:l≠(s.heap.push (emp g)).objs.size:=by rw[sz];exact Nat.ne_of_lt (Nat.lt_succ_of_lt lts)
    have ne2:s.heap.objs.size∉[(s.heap.push (emp g)).objs.size,l]:=by rw[sz];simp only[List.mem_cons,List.not_mem_nil,or_false,not_or];exact⟨Nat.ne_of_lt (Nat.lt_succ_self _),Nat.ne_of_gt lts⟩
    refine upd_str ((Walks.list h3 _ l ne1 its).toS) s.heap.objs.size ne2 (ns:=ns) hsz hn9 hi (its.size - 0) 0 _ rfl (Nat.zero_le _) ⟨⟨_,Heap.get?_push_size _ rfl,rfl,rfl⟩,hl1.push _⟩ ?s0 ?sR
    case s0=>
     exact SetOf_eq ((setObjOf_fresh (knd:=PySem.strKind P w) g).setOf (Heap.get?_push_of_some _ hS) (by unfold scanBound;omega)) rfl rfl
    case sR=>
     intro s' mv hS'
     obtain⟨h',g',d',tk',os'⟩:=s'
     have eg:g'=s.gens:=mv.gens
     have ed:d'=s.drawn:=mv.drawn
     have eo:os'=s.os:=mv.os
     subst eg ed eo
     refine wpAny_pure (show wpAny _ _ (ret Value.none) _ _ _ from wpAny_pure ⟨rfl,h',tk',rfl,SetOf_eq hS' (by rw[hsz,List.take_length]) (by rw[hsz,List.take_length]),fun x o hx e=>?_⟩)
     refine mv.heap x o ?_ (Heap.get?_push_of_some _ (Heap.get?_push_of_some _ e))
     rw[sz]
     simp only[List.mem_cons,List.not_mem_nil,or_false,not_or]
     exact⟨Nat.ne_of_lt hx,Nat.ne_of_lt (Nat.lt_succ_of_lt hx)⟩
   ·cases r with
    |error e=>exact hr
    |ok fl=>
     cases fl with
     |ret r=>
      obtain⟨rfl,h',tk,rfl,q⟩:=hr
      repeat (any_goals (first | assumption | wp_step))
      exact h _ _ q
     |_=>exact hr.elim
  |_=>exact hr.elim
end
section
variable {X:Cx}
def tLenSetT (K:PySem.W.Frag)(ta:TE):TE:=fun σ H Q=>tCons ta tNil σ H fun vs H1=>∃p ns,vs=[.ref p]∧SqL K H1 p (ns.map V.str)∧ns.length≤1000∧Q (.int ((dt ns).length:Nat)) H1
theorem pe_lensetT {e:Expr}{ta:TE}{p p2 pos pos2:Pos}(hc:X.calm=true)(hgl:Gl X "len")(hml:X.mg "len"=none)(hgs:Gl X "set")(hms:X.mg "set"=none)(ha:PE X e ta)(hs:starEach [e] X.env=(false,eval e X.env) :: starEach [] X.env:=by rfl)(hs2:starEach [.Call (.Name "set" p2) [e] [] pos2] X.env=(false,eval (.Call (.Name "set" p2) [e] [] pos2) X.env) :: starEach [] X.env:=by rfl) :
  PE X (.Call (.Name "len" p) [.Call (.Name "set" p2) [e] [] pos2] [] pos) (tLenSetT X.K ta):=by
 intro pins s σ H Q I h
 refine wpAny_Call_Name_kw (ld_blt I hgl hml PySem.boot_len (PyProof.Rows.callWith_builtin1 ?_ hs2 rfl))
 rw[hs2]
 show wpAny _ _ (spliced ((false,eval (.Call (.Name "set" p2) [e] [] pos2) X.env) :: backTo pos (starEach [] X.env))) _ _ s
 refine Calls.spliced_cons (wpAny_Call_Name_kw (ld_blt I hgs hms set_boot (PyProof.Rows.callWith_type1 ?_ hs rfl)))
 refine thn (pa_cons ha pa_nil hs pos2 pins s σ H _ I h) fun us s1 ⟨vs,H1,I1,r1,pq,ns,e1,hq,hn9,q⟩=>?_
 cases e1
 obtain⟨u,rfl,rx⟩:=vals1 r1
 cases rx
 obtain⟨its,rv,pl,hz⟩:=I1.list hq
 have hlen:its.toArray.size=ns.length:=by rw[List.size_toArray,← rv.length,List.length_map]
 refine call_setT (ns:=ns) (I1.ok.hd hc) pl.isList hn9 hlen (fun i v hv=>?_) fun h' tk ⟨⟨o,es,ep,t,ho,ex,hd,_,_,hbd,hf,hn⟩,kp⟩=>?_
 ·have hv':its[i]?=some v:=by simpa using hv
  have hi:i < its.length:=(List.getElem?_eq_some_iff.mp hv').1
  have hi':i < ns.length:=by rw[← hlen];simpa using hi
  obtain⟨t,ht⟩:=vstrT rv (List.getElem?_eq_getElem hi')
  rw[hv'] at ht
  cases ht
  exact⟨_,t,List.getElem?_eq_getElem hi',rfl⟩
 ·refine Calls.spliced_nil ?_
  have le:=dt_le ns
  refine call_len_set ho ex hd hf (by rw[hn];omega) ?_
  rw[hn]
  exact⟨.int ((dt ns).length:Nat),H1,I1.kept (t':=_) fun x o e=>kp x o (Heap.lt_size e) e,⟨_,rfl⟩,q⟩
end
end L2
namespace K84
open PySem L2 Tx
section
variable {P:Program} {w:World} {K:PySem.W.Frag} {mg:Str→Option Value} {base:Heap} {f g1 g2 g3 g4 g5 g6 g7 g8:Addr} {fd gd1 gd2 gd3 gd4 gd5 gd6 gd7 gd8:FuncData} {CX:CXT}
variable {CR:Addr} {CK:Kd→Addr} {fW fJ fT fS:Kd→Addr} {fdW fdJ fdT fdS:Kd→FuncData}
theorem putK_new {k:Key}{v:V}{kvs:List (Key × V)}(h:∀kv∈kvs,kv.1≠k):putK kvs k v=kvs++[(k,v)]:=by
 unfold putK
 rw[if_neg]
 intro z
 obtain⟨kv,hk,e⟩:=List.any_eq_true.mp z
 exact h kv hk (of_decide_eq_true e)
theorem PaOk.keys {CP:Addr}{K:PySem.W.Frag}{av:List Addr}{H:Hp}{n:Str}:∀{kvs:List (Key × V)} {pa:List (Str × PD)},PaOk CP K av H kvs pa→n∉pa.map (·.1)→∀kv∈kvs,kv.1≠Sum.inr n
 | [],[],_,_,_,h=>by cases h
 | [],_ :: _,h,_,_,_=>h.elim
 |_ :: _,[],h,_,_,_=>h.elim
 |kv :: kvs,nP :: pa,⟨a,_,c⟩,hn,x,hx=>by
  rcases List.mem_cons.mp hx with rfl | hx
  ·rw[a]
   intro z
   injection z with z
   exact hn (by rw[← z];simp)
  ·exact PaOk.keys c (fun z=>hn (by rw[List.map_cons];exact List.mem_cons_of_mem _ z)) x hx
theorem PaOk.snoc {CP:Addr}{K:PySem.W.Frag}{av:List Addr}{H:Hp}{n:Str}{g:Addr}{P:PD}(hP:PlOk CP K av H g P):∀{kvs:List (Key × V)} {pa:List (Str × PD)},PaOk CP K av H kvs pa→PaOk CP K av H (kvs++[(Sum.inr n,.ref g)]) (pa++[(n,P)])
 | [],[],_=>⟨rfl,⟨g,rfl,hP⟩,True.intro⟩
 | [],_ :: _,h=>h.elim
 |_ :: _,[],h=>h.elim
 |_ :: _,_ :: _,⟨a,b,c⟩=>⟨a,b,PaOk.snoc hP c⟩
theorem PaOk.length {CP:Addr}{K:PySem.W.Frag}{av:List Addr}{H:Hp}:∀{kvs:List (Key × V)} {pa:List (Str × PD)},PaOk CP K av H kvs pa→kvs.length=pa.length
 | [],[],_=>rfl
 | [],_ :: _,h=>h.elim
 |_ :: _,[],h=>h.elim
 |_ :: _,_ :: _,⟨_,_,c⟩=>by rw[List.length_cons,List.length_cons,c.length]
def EndG (CY CP CR':Addr)(K:PySem.W.Frag)(av:List Addr)(y d:Addr)(Y:YS)(H:Hp)(Q:VK)(E:XK):Prop:=
 (Y.op=none→∀H',Same H H'→E (.ref CR') none H')∧∀n P,Y.op=some (n,P)→n∉Y.pa.map (·.1)∧∀H',SYd y d H H'→YG CY CP K av H' y d { Y with pa:=Y.pa++[(n,P)],op:=none }→Q .non H'
theorem EndG.mono {CY CP CR':Addr}{K:PySem.W.Frag}{av:List Addr}{y d:Addr}{Y:YS}{H H1:Hp}{Q:VK}{E:XK}(s:Same H H1)(h:EndG CY CP CR' K av y d Y H Q E):EndG CY CP CR' K av y d Y H1 Q E:=
 ⟨fun x H' s'=>h.1 x H' (s.trans s'),fun n P e=>⟨(h.2 n P e).1,fun H' s'=>(h.2 n P e).2 H' (fun b o hb n1 n2=>s' b o (s _ _ hb) n1 n2)⟩⟩
def spEndG (CY CP CR':Addr)(K:PySem.W.Frag):Sp:=fun vs H Q E=>∃(av:List Addr) (y d:Addr) (Y:YS),vs=[.ref y]∧YG CY CP K av H y d Y∧Y.pa.length≤100∧EndG CY CP CR' K av y d Y H Q E
abbrev sEnd:Stmt:=inClass (top 46) 3
theorem scEnd:FnScope ["self"] ["self"] (defScope sEnd):=⟨rfl,rfl,rfl,by decide +kernel,rfl,by decide +kernel,by decide +kernel⟩
theorem ok_end {dV:Value}{CY:Addr}(F:FunD K "end_part" "Yard.end_part" sEnd dV f fd)(YTx:YaT K mg CY){CP CR':Addr}(mN:mg "NoRow"=some (.ref CR'))(xN:ExcC K CR'):FnOk P w K mg base (CX1 P w) 1 f fd ["self"] (spEndG CY CP CR' K):=by
 refine F.okX scEnd (fun vs H Q E h=>?_) (fun cdv A outer s H vs Q E hr h=>?_)
 ·obtain⟨av,y,d,Y,rfl,⟨dy,g,o,q',kvs,hy,hg,hd,hp,ho,ha⟩,h100,⟨q1,q2⟩⟩:=h
  rfl
 obtain⟨av,y,d,Y,rfl,⟨dy,g,o,q',kvs,hy,hg,hd,hp,ho,ha⟩,h100,⟨q1,q2⟩⟩:=h
 refine⟨_,(pss_cons (ps_if (pt_cmp (pc_isN (pe_fld (pv 0) rfl))) (pss_one (ps_raise frm_cxOf xe_cxOf rfl rfl mN xN (pa_cons pe_str pa_nil))) pss_nil)
  (pss_cons (ps_dput (hu_of hr) (pe_fld (pv 0) rfl) (pe_fld (pv 0) rfl) (pe_fld (pv 0) rfl) rfl)
  (pss_cons (ps_fld (pv 0) pe_non rfl)
  (pss_one (ps_fld (pv 0) pe_non rfl))))),?_⟩
 cases e:Y.op with
 |none=>
  rw[e] at ho
  obtain⟨rfl,rfl⟩:=ho
  exact⟨_,rfl,y,CY,dy,_,_,rfl,hy,YTx.cl,YTx.no,yfl_o _ _ _ _,_,rfl,iteT ⟨by show 1≤sizeLine;decide,q1 e H (Same.refl _)⟩⟩
 |some nP=>
  rw[e] at ho
  obtain⟨rfl,g2,rfl,hP2⟩:=ho
  obtain⟨nn,q3⟩:=q2 nP.1 nP.2 e
  have lk:=hp.length
  refine⟨_,rfl,y,CY,dy,_,_,rfl,hy,YTx.cl,YTx.no,yfl_o _ _ _ _,_,rfl,iteF ?_⟩
  refine⟨_,rfl,y,CY,dy,_,_,rfl,hy,YTx.cl,YTx.nq,yfl_q _ _ _ _,_,rfl,y,CY,dy,_,_,rfl,hy,YTx.cl,YTx.nd,yfl_d _ _ _ _,_,rfl,y,CY,dy,_,_,rfl,hy,YTx.cl,YTx.no,yfl_o _ _ _ _,d,_,rfl,DPut.k (k:=Sum.inr nP.1) hd (small1000 (by omega)),?_⟩
  rw[putK_new (hp.keys nn)]
  have ndy:y≠d:=fun z=>by rw[← z,hy] at hd;cases hd
  have s1:SYd y d H (upd H d (.dK (kvs++[(Sum.inr nP.1,.ref g2)]))):=fun b o h _ n2=>by rw[upd_ne n2];exact h
  have m1:∀g P,PlOk CP K av H g P→PlOk CP K av (upd H d (.dK (kvs++[(Sum.inr nP.1,.ref g2)]))) g P:=fun g P h=>h.mv hy hd s1 (pl_ne h hy)
  have hy1:upd H d (.dK (kvs++[(Sum.inr nP.1,.ref g2)])) y=some (.ins CY dy (yfl g d (.str nP.1) (.ref g2))):=by rw[upd_ne ndy];exact hy
  have hd1:upd H d (.dK (kvs++[(Sum.inr nP.1,.ref g2)])) d=some (.dK (kvs++[(Sum.inr nP.1,.ref g2)])):=upd_same
  have hg1:=m1 _ _ hg
  have hp1:=PaOk.snoc (n:=nP.1) (m1 _ _ hP2) (hp.imp m1)
  have ha1:∀a∈av,upd H d (.dK (kvs++[(Sum.inr nP.1,.ref g2)])) a≠none:=fun a hin z=>by
   by_cases h:a=d
   ·rw[h,upd_same] at z;cases z
   ·rw[upd_ne h] at z;exact ha a hin z
  generalize upd H d (.dK (kvs++[(Sum.inr nP.1,.ref g2)]))=H1 at s1 hy1 hd1 hg1 hp1 ha1 ⊢
  refine⟨_,rfl,y,CY,dy,yfl g d (.str nP.1) (.ref g2),rfl,hy1,YTx.cl,YTx.no,by show 4 < 1000;decide,?_⟩
  rw[yfl_o']
  refine⟨_,rfl,y,CY,dy,yfl g d .non (.ref g2),rfl,upd_same,YTx.cl,YTx.nq,by show 4 < 1000;decide,?_⟩
  rw[yfl_q']
  have eu:upd (upd H1 y (.ins CY dy (yfl g d .non (.ref g2)))) y (.ins CY dy (yfl g d .non .non))=upd H1 y (.ins CY dy (yfl g d .non .non)):=by
   funext b
   by_cases h:b=y
   ·rw[h,upd_same,upd_same]
   ·rw[upd_ne h,upd_ne h,upd_ne h]
  rw[eu]
  obtain⟨s2,y2⟩:=YG.put (g2:=g) (o2:=.non) (q2:=.non) (Y2:={ Y with pa:=Y.pa++[(nP.1,nP.2)],op:=none }) hy1 hd1 hg1 hp1 ⟨rfl,rfl⟩ ha1
  exact q3 _ (fun b o h n1 n2=>s2 _ _ (s1 _ _ h n1 n2) n1 n2) y2
theorem dt_len (ns:List Str):(dt ns).length=ns.length↔ns.Nodup:=by
 refine snoc_indT (P:=fun ns=>(dt ns).length=ns.length↔ns.Nodup) (by simp[dt]) (fun l x ih=>?_) ns
 have le:=dt_le l
 rw[dt_snoc,List.length_append]
 by_cases h:x∈dt l
 ·rw[if_pos h]
  refine⟨fun z=>by simp only[List.length_cons,List.length_nil] at z;omega,fun z=>?_⟩
  have:=(List.nodup_append.mp z).2.2 x ((dt_mem l x).mp h) x (by simp)
  exact absurd rfl this
 ·rw[if_neg h,List.length_append]
  refine⟨fun z=>?_,fun z=>?_⟩
  ·have n:=ih.mp (by simp only[List.length_cons,List.length_nil] at z;omega)
   refine List.nodup_append.mpr ⟨n,by simp,fun a ha b hb e=>?_⟩
   have:b=x:=by simpa using hb
   exact h ((dt_mem l x).mpr (by rw[← this,← e];exact ha))
  ·rw[ih.mpr (List.nodup_append.mp z).1]
theorem PaOk.val {CP:Addr}{K:PySem.W.Frag}{av:List Addr}{H:Hp}{n:Str}:∀{kvs:List (Key × V)} {pa:List (Str × PD)},PaOk CP K av H kvs pa→((valV kvs (Sum.inr n:Key)).isSome=true↔n∈pa.map (·.1))
 | [],[],_=>by simp[valV]
 | [],_ :: _,h=>h.elim
 |_ :: _,[],h=>h.elim
 |kv :: kvs,nP :: pa,⟨a,_,c⟩=>by
  have ih:=PaOk.val (n:=n) c
  rw[List.map_cons,List.mem_cons]
  by_cases e:nP.1=n
  ·rw[valV_pos (by rw[a,e])]
   simp[e]
  ·have:valV (kv :: kvs) (Sum.inr n:Key)=valV kvs (Sum.inr n):=by
    have:¬kv.1=(Sum.inr n:Key):=by rw[a];intro z;injection z with z;exact e z
    simp[valV,List.find?_cons,this]
   rw[this,ih]
   exact⟨.inr,fun h=>h.elim (fun z=>absurd z.symm e) id⟩
def BegG (CY CP CR' CM CT:Addr)(K:PySem.W.Frag)(av:List Addr)(y d:Addr)(Y:YS)(n:List Nat)(X:List (List Nat))(H:Hp)(Q:VK)(E:XK):Prop:=
 (Y.op≠none→∀H',Same H H'→E (.ref CR') none H')∧
 (Y.op=none→(n :: X).all nmB=false→∀H',Same H H'→E (.ref CM) none H')∧
 (Y.op=none→(n :: X).all nmB=true→(¬(X.map S).Nodup∨S n∈Y.pa.map (·.1))→∀H',Same H H'→E (.ref CM) none H')∧
 (Y.op=none→(n :: X).all nmB=true→(X.map S).Nodup→S n∉Y.pa.map (·.1)→(20≤Y.pa.length∨20 < X.length)→∀H',Same H H'→E (.ref CT) none H')∧
 (Y.op=none→(n :: X).all nmB=true→(X.map S).Nodup→S n∉Y.pa.map (·.1)→Y.pa.length < 20→X.length≤20→∀H',SYd y d H H'→YG CY CP K av H' y d { Y with op:=some (S n,⟨X.map S,X.length,[],[]⟩) }→Q .non H')
theorem BegG.mono {CY CP CR' CM CT:Addr}{K:PySem.W.Frag}{av:List Addr}{y d:Addr}{Y:YS}{n:List Nat}{X:List (List Nat)}{H H1:Hp}{Q:VK}{E:XK}(s:Same H H1)(h:BegG CY CP CR' CM CT K av y d Y n X H Q E):BegG CY CP CR' CM CT K av y d Y n X H1 Q E:=
 ⟨fun a H' s'=>h.1 a H' (s.trans s'),fun a b H' s'=>h.2.1 a b H' (s.trans s'),fun a b c H' s'=>h.2.2.1 a b c H' (s.trans s'),fun a b c e f H' s'=>h.2.2.2.1 a b c e f H' (s.trans s'),fun a b c e f g H' s'=>h.2.2.2.2 a b c e f g H' (fun b o hb n1 n2=>s' b o (s _ _ hb) n1 n2)⟩
def spBegG (CY CP CR' CM CT:Addr)(K:PySem.W.Frag):Sp:=fun vs H Q E=>∃(av:List Addr) (y d el:Addr) (Y:YS) (n:List Nat) (X:List (List Nat)),vs=[.ref y,.str (S n),.ref el]∧YG CY CP K av H y d Y∧H el=some (.lst (X.map fun x=>V.str (S x)))∧X.length≤900∧(∀x∈n :: X,x.length≤1000000)∧Y.pa.length≤100∧BegG CY CP CR' CM CT K av y d Y n X H Q E
abbrev sBeg:Stmt:=inClass (top 46) 2
theorem scBeg:FnScope ["self","name","ends","plan"] ["self","name","ends"] (defScope sBeg):=⟨rfl,rfl,rfl,by decide +kernel,rfl,by decide +kernel,by decide +kernel⟩
theorem ok_beg {dV:Value}{CY:Addr}(F:FunD K "begin_part" "Yard.begin_part" sBeg dV f fd)(YTx:YaT K mg CY){CP CR' CM CT:Addr}(PTx:PlT K mg CP)(ml:mg "len"=none)(mse:mg "set"=none){tA:Tok}(mMA:mg "MOST_PARTS"=some (.int 20 tA))(G1:FnOk P w K mg base (CX1 P w) 2 g1 gd1 ["words"] (spRNames K CM))(b1:Binds K gd1 ["words"] [])(k1:PySem.W.keepIn K (.ref g1)=true)(m1:mg "refuse_names"=some (.ref g1))(G2:FnOk P w K mg base (CX1 P w) 2 g2 gd2 ["plan"] (spROverX CP CT))(b2:Binds K gd2 ["plan"] [])(k2:PySem.W.keepIn K (.ref g2)=true)(m2:mg "refuse_overfull"=some (.ref g2)){gPI:Addr}{gdPI:FuncData}(GPI:FnOk P w K mg base CX0 1 gPI gdPI ["self","labels","end_count"] (spPInit CP K))(bPI:Binds K gdPI ["self","labels","end_count"] [])(MP:Mk K CP gPI)(mNR:mg "NoRow"=some (.ref CR'))(xNR:ExcC K CR')(mNM:mg "NoName"=some (.ref CM))(xNM:ExcC K CM)(mNT:mg "TooMany"=some (.ref CT))(xNT:ExcC K CT):FnOk P w K mg base (CX1 P w) 4 f fd ["self","name","ends"] (spBegG CY CP CR' CM CT K):=by
 refine F.okX scBeg (fun vs H Q E h=>?_) (fun cdv A outer s H vs Q E hr h=>?_)
 ·obtain⟨av,y,d,el,Y,n,X,rfl,⟨dy,g,o,q',kvs,hy,hg,hd,hp,ho,ha⟩,hel,h900,hX,h100,⟨q1,q2,q3,q4,q5⟩⟩:=h
  rfl
 obtain⟨av,y,d,el,Y,n,X,rfl,⟨dy,g,o,q',kvs,hy,hg,hd,hp,ho,ha⟩,hel,h900,hX,h100,⟨q1,q2,q3,q4,q5⟩⟩:=h
 have r2:=hr.mono (show 2≤3 by omega)
 refine⟨_,(pss_cons (ps_if (pt_cmp (pc_notN (pe_fld (pv 0) rfl))) (pss_one (ps_raise frm_cxOf xe_cxOf rfl rfl mNR xNR (pa_cons pe_str pa_nil))) pss_nil)
  (pss_cons (ps_expr (pe_call G1 r2 rfl m1 k1 b1 .nil (passes_cx frm_cxOf xe_cxOf) (pa_cons (pe_op op_cat (pe_lst (pa_cons (pv 1) pa_nil)) (pv 2)) pa_nil)))
  (pss_cons (ps_if (pt_cmpR op_lt (pe_lensetT rfl rfl ml rfl mse (pv 2)) (pe_callB call_len_seq rfl ml PySem.boot_len (pa_cons (pv 2) pa_nil)) (nomark _)) (pss_one (ps_raise frm_cxOf xe_cxOf rfl rfl mNM xNM (pa_cons pe_str pa_nil))) pss_nil)
  (pss_cons (ps_if (pt_cmp (pc_din (hu_of hr) (pv 1) (pe_fld (pv 0) rfl))) (pss_one (ps_raise frm_cxOf xe_cxOf rfl rfl mNM xNM (pa_cons pe_str pa_nil))) pss_nil)
  (pss_cons (ps_if (pt_cmpR op_ge (pe_callB call_lenD rfl ml PySem.boot_len (pa_cons (pe_fld (pv 0) rfl) pa_nil)) (pe_glob (v:=.int 20) rfl mMA ⟨_,rfl⟩) (nomark _)) (pss_one (ps_raise frm_cxOf xe_cxOf rfl rfl mNT xNT (pa_cons pe_str pa_nil))) pss_nil)
  (pss_cons (ps_set (i:=3) scBeg.nd rfl (Or.inl rfl) (pe_make MP GPI r2 rfl PTx.mP bPI .nil pass0 (pa_cons (pv 2) (pa_cons (pe_callB call_len_seq rfl ml PySem.boot_len (pa_cons (pv 2) pa_nil)) pa_nil))))
  (pss_cons (ps_expr (pe_call G2 r2 rfl m2 k2 b2 .nil (passes_cx frm_cxOf xe_cxOf) (pa_cons (pv 3) pa_nil)))
  (pss_cons (ps_fld (pv 0) (pv 1) rfl)
  (pss_one (ps_fld (pv 0) (pv 3) rfl)))))))))),?_⟩
 cases e:Y.op with
 |some nP=>
  rw[e] at ho
  obtain⟨rfl,g2,rfl,hP2⟩:=ho
  exact⟨_,rfl,y,CY,dy,_,_,rfl,hy,YTx.cl,YTx.no,yfl_o _ _ _ _,_,rfl,iteT ⟨by show 1≤sizeLine;decide,q1 (by rw[e];simp) H (Same.refl _)⟩⟩
 |none=>
 rw[e] at ho
 obtain⟨rfl,rfl⟩:=ho
 refine⟨_,rfl,y,CY,dy,_,_,rfl,hy,YTx.cl,YTx.no,yfl_o _ _ _ _,_,rfl,iteF ?_⟩
 refine⟨_,rfl,by show 1≤sizeLine;decide,fun A hA=>?_⟩
 have s1:=same_new hA (.lst [.str (S n)])
 have e1:upd H A (.lst [.str (S n)]) A=some (.lst [.str (S n)]):=upd_same
 generalize upd H A (.lst [.str (S n)])=H1 at s1 e1 ⊢
 refine⟨_,rfl,A,el,_,_,rfl,rfl,e1,s1 _ _ hel,by rw[sizeLine_eq,List.length_map];simp only[List.length_cons,List.length_nil];omega,fun B hB=>?_⟩
 have eB0:([V.str (S n)]++X.map fun x=>V.str (S x))=((n :: X).map fun x=>V.str (S x)):=rfl
 rw[eB0]
 have s2:=same_new hB (.lst ((n :: X).map fun x=>V.str (S x)))
 have e2:upd H1 B (.lst ((n :: X).map fun x=>V.str (S x))) B=some (.lst ((n :: X).map fun x=>V.str (S x))):=upd_same
 generalize upd H1 B (.lst ((n :: X).map fun x=>V.str (S x)))=H2 at s2 e2 ⊢
 have s02:=s1.trans s2
 refine⟨B,n :: X,rfl,SqL.of e2,by rw[List.length_cons];omega,hX,fun H3 s3=>⟨fun ok=>?_,fun bad=>q2 e bad H3 (s02.trans s3)⟩⟩
 have s03:=s02.trans s3
 have emap:(X.map fun x=>V.str (S x))=(X.map S).map V.str:=by rw[List.map_map];rfl
 have hel3:H3 el=some (.lst ((X.map S).map V.str)):=by rw[← emap];exact s03 _ _ hel
 refine⟨_,rfl,el,X.map S,rfl,SqL.of hel3,by rw[List.length_map];omega,_,rfl,el,_,rfl,.inl (SqL.of hel3),_,_,rfl,rfl,_,rfl,?_⟩
 have le:=dt_le (X.map S)
 have dl:=dt_len (X.map S)
 rw[List.length_map] at le dl
 by_cases nd:(X.map S).Nodup
 rotate_left
 ·refine L2.ifT (decide_eq_true ?_) ⟨by show 1≤sizeLine;decide,q3 e ok (.inl nd) H3 s03⟩
  have:(dt (X.map S)).length≠X.length:=fun z=>nd (dl.mp z)
  rw[List.length_map,List.length_map]
  omega
 refine L2.ifF (decide_eq_false ?_) ?_
 ·have:=dl.mpr nd
  rw[List.length_map,List.length_map]
  omega
 have hy3:=s03 _ _ hy
 have hd3:=s03 _ _ hd
 refine⟨_,rfl,_,rfl,y,CY,dy,_,_,rfl,hy3,YTx.cl,YTx.nd,yfl_d _ _ _ _,d,_,rfl,DGet.k (k:=Sum.inr (S n)) hd3,_,rfl,?_⟩
 have hv:=PaOk.val (n:=S n) hp
 by_cases hin:S n∈Y.pa.map (·.1)
 ·exact L2.ifT (hv.mpr hin) ⟨by show 1≤sizeLine;decide,q3 e ok (.inr hin) H3 s03⟩
 refine L2.ifF (by rw[Bool.eq_false_iff];exact fun z=>hin (hv.mp z)) ?_
 have lk:=hp.length
 refine⟨_,rfl,y,CY,dy,_,_,rfl,hy3,YTx.cl,YTx.nd,yfl_d _ _ _ _,d,kvs,rfl,hd3,_,_,rfl,rfl,_,rfl,?_⟩
 by_cases h20:20≤Y.pa.length
 ·exact L2.ifT (decide_eq_true (by omega)) ⟨by show 1≤sizeLine;decide,q4 e ok nd hin (.inl h20) H3 s03⟩
 refine L2.ifF (decide_eq_false (by omega)) ?_
 refine⟨_,rfl,_,rfl,el,_,rfl,.inl (SqL.of hel3),fun x dx h1 h2 ne=>?_⟩
 have hgx:∀b o,H3 b=some o→(upd (upd H3 dx (.own x)) x (.ins CP dx [])) b=some o:=fun b o h=>by rw[upd_ne (ne_of_none h h1),upd_ne (ne_of_none h h2)];exact h
 refine⟨x,dx,el,_,X.map S,rfl,upd_same,SqL.of (hgx _ _ hel3),Ne.symm (ne_of_none hel3 h1),fun l t p H4 keep nl nt np hx hl ht hp' a1 a2 a3=>⟨rfl,?_⟩⟩
 have s4:Same H3 H4:=fun b o h=>keep b o (hgx b o h) (ne_of_none h h1)
 clear keep
 have nn:∀b,(upd (upd H3 dx (.own x)) x (.ins CP dx [])) b=none→H3 b=none:=fun b h=>by
  cases o:H3 b with
  |none=>rfl
  |some o'=>rw[hgx _ _ o] at h;cases h
 have s04:=s03.trans s4
 rw[List.length_map,List.length_map] at hx
 have PA:PlAt CP H4 x l (X.length:Int) t p (X.map S) [] []:=⟨⟨dx,hx⟩,hl,ht,hp',a1,a2,a3⟩
 refine⟨_,rfl,x,l,t,p,_,_,[],[],rfl,PA,fun ok2=>?_,fun no=>q4 e ok nd hin (.inr (by rw[List.length_map] at no;simp only[List.length_nil] at no;omega)) H4 s04⟩
 have l20:X.length≤20:=by have:=ok2.1;rw[List.length_map] at this;exact this
 have far:∀b,H3 b=none→b∉av:=fun b hb z=>by
  cases o:H b with
  |none=>exact ha b z o
  |some o'=>rw[s03 _ _ o] at hb;cases hb
 have hP:PlOk CP K av H4 x ⟨X.map S,X.length,[],[]⟩:=⟨l,t,p,[],PA,.nil,far l (nn _ nl),far t (nn _ nt),far p (nn _ np)⟩
 have hy4:=s04 _ _ hy
 have hd4:=s04 _ _ hd
 have ha4:∀a∈av,H4 a≠none:=fun a hin z=>by
  cases o:H a with
  |none=>exact ha a hin o
  |some o'=>rw[s04 _ _ o] at z;cases z
 refine⟨_,rfl,_,rfl,y,CY,dy,yfl g d .non .non,rfl,hy4,YTx.cl,YTx.no,by show 4 < 1000;decide,?_⟩
 rw[yfl_o']
 refine⟨_,rfl,_,rfl,y,CY,dy,yfl g d (.str (S n)) .non,rfl,upd_same,YTx.cl,YTx.nq,by show 4 < 1000;decide,?_⟩
 rw[yfl_q']
 have eu:upd (upd H4 y (.ins CY dy (yfl g d (.str (S n)) .non))) y (.ins CY dy (yfl g d (.str (S n)) (.ref x)))=upd H4 y (.ins CY dy (yfl g d (.str (S n)) (.ref x))):=by
  funext b
  by_cases h:b=y
  ·rw[h,upd_same,upd_same]
  ·rw[upd_ne h,upd_ne h,upd_ne h]
 rw[eu]
 obtain⟨s5,y5⟩:=YG.put (g2:=g) (o2:=.str (S n)) (q2:=.ref x) (Y2:={ Y with op:=some (S n,⟨X.map S,X.length,[],[]⟩) }) hy4 hd4 (hg.same s04) (hp.imp fun _ _ h=>h.same s04) ⟨rfl,x,rfl,hP⟩ ha4
 exact q5 e ok nd hin (by omega) l20 _ (fun b o h n1 n2=>s5 _ _ (s04 _ _ h) n1 n2) y5
def lp2 (ls:List Str)(a b:List Nat):List Str:=lput (lput ls (S a)) (S b)
def fits (P:PD):Prop:=P.ls.length≤20∧P.ds.length≤40
def ERowG (CY CP CM CU CZ CT:Addr)(K:PySem.W.Frag)(av:List Addr)(y d:Addr)(Y:YS)(k:Kd)(a b t:List Nat)(H:Hp)(Q:VK)(E:XK):Prop:=
 ((nmB a && nmB b)=false→∀H',Same H H'→E (.ref CM) none H')∧
 ((nmB a && nmB b)=true→(¬∃p,Wr p t)→∀H',Same H H'→E (.ref CU) none H')∧
 ((nmB a && nmB b)=true→∀p,Wr p t→okz k (some p)=false→∀H',Same H H'→E (.ref CZ) none H')∧
 ((nmB a && nmB b)=true→∀p,Wr p t→okz k (some p)=true→∀(i j:Nat) (P':PD),(lp2 Y.cur.ls a b)[i]?=some (S a)→(lp2 Y.cur.ls a b)[j]?=some (S b)→P'=⟨lp2 Y.cur.ls a b,Y.cur.e,Y.cur.ds++[(k,(i:Int),(j:Int),p)],Y.cur.pn⟩→
  (fits P'→∀H',SYd y d H H'→YG CY CP K av H' y d (Y.keep P')→Q .non H')∧(¬fits P'→∀H',Same H H'→E (.ref CT) none H'))
theorem ERowG.mono {CY CP CM CU CZ CT:Addr}{K:PySem.W.Frag}{av:List Addr}{y d:Addr}{Y:YS}{k:Kd}{a b t:List Nat}{H H1:Hp}{Q:VK}{E:XK}(s:Same H H1)(h:ERowG CY CP CM CU CZ CT K av y d Y k a b t H Q E):ERowG CY CP CM CU CZ CT K av y d Y k a b t H1 Q E:=
 ⟨fun x H' s'=>h.1 x H' (s.trans s'),fun x n H' s'=>h.2.1 x n H' (s.trans s'),fun x p wr o H' s'=>h.2.2.1 x p wr o H' (s.trans s'),fun x p wr o i j P' i1 j1 eP=>⟨fun f H' s'=>(h.2.2.2 x p wr o i j P' i1 j1 eP).1 f H' (fun b o hb n1 n2=>s' b o (s _ _ hb) n1 n2),fun f H' s'=>(h.2.2.2 x p wr o i j P' i1 j1 eP).2 f H' (s.trans s')⟩⟩
def spERowG (CY CP CM CU CZ CT:Addr)(K:PySem.W.Frag):Sp:=fun vs H Q E=>∃(av:List Addr) (y d wl:Addr) (Y:YS) (k:Kd) (a b t:List Nat),vs=[.ref y,.ref wl]∧SqL K H wl [.str k.wd,.str (S a),.str (S b),.str (S t)]∧YG CY CP K av H y d Y∧Y.cur.ls.length≤300∧Y.cur.ds.length≤300∧a.length≤1000∧b.length≤1000∧t.length≤1000∧(∀p,Wr p t→Mq.Bd 100 p)∧ERowG CY CP CM CU CZ CT K av y d Y k a b t H Q E
abbrev sERow:Stmt:=inClass (top 46) 5
theorem scERow:FnScope ["self","words","size","plan"] ["self","words"] (defScope sERow):=⟨rfl,rfl,rfl,by decide +kernel,rfl,by decide +kernel,by decide +kernel⟩
theorem ok_erow {dV:Value}{CY:Addr}(F:FunD K "enter_row" "Yard.enter_row" sERow dV f fd)(YTx:YaT K mg CY){CP CM CU CZ CT:Addr}(PTx:PlT K mg CP)(G1:FnOk P w K mg base (CX1 P w) 2 g1 gd1 ["words"] (spRNames K CM))(b1:Binds K gd1 ["words"] [])(k1:PySem.W.keepIn K (.ref g1)=true)(m1:mg "refuse_names"=some (.ref g1))(G2:FnOk P w K mg base (CX1 P w) 3 g2 gd2 ["text"] (spRead K CU))(b2:Binds K gd2 ["text"] [])(k2:PySem.W.keepIn K (.ref g2)=true)(m2:mg "read"=some (.ref g2))(G3:FnOk P w K mg base (CX1 P w) 4 g3 gd3 ["word","size"] (spRSV K CZ))(b3:Binds K gd3 ["word","size"] [])(k3:PySem.W.keepIn K (.ref g3)=true)(m3:mg "refuse_size"=some (.ref g3)){gCo:Addr}{gdCo:FuncData}(GCo:FnOk P w K mg base CX0 4 gCo gdCo ["self"] (spCoTG CY CP K))(bCo:Binds K gdCo ["self"] [])(mCo:Meth K CY "copy_of_told" gCo){gEn:Addr}{gdEn:FuncData}(GEn:FnOk P w K mg base CX0 2 gEn gdEn ["self","word","start","goal","size"] (spEnter CP K))(bEn:Binds K gdEn ["self","word","start","goal","size"] [])(mEn:Meth K CP "enter" gEn){gKe:Addr}{gdKe:FuncData}(GKe:FnOk P w K mg base (CX1 P w) 3 gKe gdKe ["self","plan"] (spKeepG CY CP CT K))(bKe:Binds K gdKe ["self","plan"] [])(mKe:Meth K CY "keep" gKe):FnOk P w K mg base (CX1 P w) 5 f fd ["self","words"] (spERowG CY CP CM CU CZ CT K):=by
 refine F.okX scERow (fun vs H Q E h=>?_) (fun cdv A outer s H vs Q E hr h=>?_)
 ·obtain⟨av,y,d,wl,Y,k,a,b,t,rfl,hW,YD,h300,d300,la,lb,lt,bd,q⟩:=h
  rfl
 obtain⟨av,y,d,wl,Y,k,a,b,t,rfl,hW,YD,h300,d300,la,lb,lt,bd,q⟩:=h
 have r2:=hr.mono (show 2≤4 by omega)
 have r3:=hr.mono (show 3≤4 by omega)
 refine⟨_,(pss_cons (ps_expr (pe_call G1 r2 rfl m1 k1 b1 .nil (passes_cx frm_cxOf xe_cxOf) (pa_cons (pe_slice sl_list (pv 1) (po_some pe_int) (po_some pe_int)) pa_nil)))
  (pss_cons (ps_set (i:=2) scERow.nd rfl (Or.inl rfl) (pe_call G2 r3 rfl m2 k2 b2 .nil (passes_cx frm_cxOf xe_cxOf) (pa_cons (pe_ix ix_list (pv 1) pe_int (fun _ _=>rfl)) pa_nil)))
  (pss_cons (ps_expr (pe_call G3 hr rfl m3 k3 b3 .nil (passes_cx frm_cxOf xe_cxOf) (pa_cons (pe_ix ix_list (pv 1) pe_int (fun _ _=>rfl)) (pa_cons (pv 2) pa_nil))))
  (pss_cons (ps_set (i:=3) scERow.nd rfl (Or.inl rfl) (pe_meth0 (pv 0) YTx.cl mCo GCo hr bCo .nil pass0))
  (pss_cons (ps_expr (pe_meth (pv 3) PTx.cl mEn GEn r2 bEn .nil pass0 (pa_cons (pe_ix ix_list (pv 1) pe_int (fun _ _=>rfl)) (pa_cons (pe_ix ix_list (pv 1) pe_int (fun _ _=>rfl)) (pa_cons (pe_ix ix_list (pv 1) pe_int (fun _ _=>rfl)) (pa_cons (pv 2) pa_nil))))))
  (pss_one (ps_expr (pe_meth (pv 0) YTx.cl mKe GKe r3 bKe .nil (passes_cx frm_cxOf xe_cxOf) (pa_cons (pv 3) pa_nil))))))))),?_⟩
 refine⟨_,rfl,1,rfl,3,rfl,wl,_,rfl,hW,fun A hA=>?_⟩
 rw[show cutV [V.str k.wd,.str (S a),.str (S b),.str (S t)] (some 1) (some 3)=[V.str (S a),.str (S b)] from rfl]
 have s1:=same_new hA (.lst [V.str (S a),.str (S b)])
 have e1:upd H A (.lst [V.str (S a),.str (S b)]) A=some (.lst [V.str (S a),.str (S b)]):=upd_same
 generalize upd H A (.lst [V.str (S a),.str (S b)])=H1 at s1 e1 ⊢
 refine⟨A,[a,b],rfl,SqL.of e1,by show 2≤1000;decide,fun cs hcs=>?_,fun H2 s2=>⟨fun ok=>?_,fun bad=>?_⟩⟩
 ·have:cs=a∨cs=b:=by simpa using hcs
  rcases this with rfl | rfl<;>omega
 ·have ok:(nmB a && nmB b)=true:=by simpa using ok
  have s02:=s1.trans s2
  have hW2:=s02.seq hW
  refine⟨_,rfl,wl,_,_,_,rfl,rfl,hW2,rfl,_,rfl,.inl ⟨t,rfl,by omega,fun p0 wr z H3 s3 e3=>?_,fun no H3 s3=>q.2.1 ok no H3 (s02.trans s3)⟩⟩
  have s03:=s02.trans s3
  have fz:Fq K H3 z p0:=Fq.of e3
  refine⟨_,rfl,wl,_,_,_,rfl,rfl,s03.seq hW,rfl,_,rfl,k,_,some p0,rfl,.fr fz wr.low,fun p' e=>by cases e;exact bd _ wr,fun okz1=>?_,fun no=>q.2.2.1 ok p0 wr no H3 s03⟩
  have YD3:=YD.same s03
  obtain⟨dy,g,o,q',kvs,hy,_,hd,_,_,ha⟩:=id YD
  have hy3:=s03 _ _ hy
  refine⟨_,rfl,y,dy,_,rfl,hy3,(by with_unfolding_all rfl),av,y,d,Y,rfl,YD3,fun g5 l5 t5 p5 es H5 s5 ng nl nt np PA5 hR5=>?_⟩
  obtain⟨dg5,hg5⟩:=PA5.ob
  have s05:=s03.trans s5
  have hy5:=s05 _ _ hy
  have hW5:=s05.seq hW
  have les:=hR5.length
  refine⟨_,rfl,g5,dg5,_,rfl,hg5,(by with_unfolding_all rfl),_,rfl,wl,_,_,_,rfl,rfl,hW5,rfl,_,rfl,wl,_,_,_,rfl,rfl,hW5,rfl,_,rfl,wl,_,_,_,rfl,rfl,hW5,rfl,_,rfl,g5,l5,t5,p5,_,_,es,_,_,_,_,_,rfl,PA5,by omega,by omega,fun i j u H6 k6 sq i1 j1 PA6=>?_⟩
  have nyl:y≠l5:=ne_of_none hy3 nl
  have nyt:y≠t5:=ne_of_none hy3 nt
  have s6:Same H3 H6:=fun b o h=>k6 _ _ (s5 _ _ h) (ne_of_none h nl) (ne_of_none h nt)
  have YD6:=YD3.same s6
  have hy6:=s6 _ _ hy3
  have far:∀b,H3 b=none→b∉av:=fun b hb z=>by
   cases o:H b with
   |none=>exact ha b z o
   |some o'=>rw[s03 _ _ o] at hb;cases hb
  have mR:Rts K H6 es Y.cur.ds:=by
   have mt:∀{a:Addr} {xs:List V},SqT K H5 a xs→SqT K H6 a xs:=fun h=>by
    rcases h with (h | ⟨u,h⟩) | h
    ·exact .inl (.inl (k6 _ _ h (ne_of h PA5.hl (fun z=>by cases z)) (ne_of h PA5.ht (fun z=>by cases z))))
    ·exact .inl (.inr ⟨u,k6 _ _ h (ne_of h PA5.hl (fun z=>by cases z)) (ne_of h PA5.ht (fun z=>by cases z))⟩)
    ·exact .inr h
   have mr:∀{xs:List V} {ds:List RD},Rts K H5 xs ds→Rts K H6 xs ds:=fun h=>by
    induction h with
    |nil=>exact .nil
    |cons a b c ih=>exact .cons (mt a) (mt b) ih
   exact mr hR5
  have hP:PlOk CP K av H6 g5 ⟨lp2 Y.cur.ls a b,Y.cur.e,Y.cur.ds++[(k,(i:Int),(j:Int),p0)],Y.cur.pn⟩:=⟨l5,t5,p5,es++[V.ref u],PA6,mR.app (.cons sq (s6.fq fz) .nil),far l5 nl,far t5 nt,far p5 np⟩
  obtain⟨qa,qb⟩:=q.2.2.2 ok p0 wr okz1 i j _ i1 j1 rfl
  exact⟨_,rfl,y,dy,_,rfl,hy6,(by with_unfolding_all rfl),_,rfl,av,y,d,g5,Y,_,rfl,YD6,hP,fun f H7 s7 yd7=>qa f H7 (fun b o h n1 n2=>s7 _ _ (s6 _ _ (s03 _ _ h)) n1 n2) yd7,fun f=>qb f H6 (s03.trans s6)⟩
 ·have bad:(nmB a && nmB b)=false:=by rw[← bad];simp
  exact q.1 bad H2 (s1.trans s2)
def partOf (pa:List (Str × PD))(n:Str):Option PD:=(pa.find? fun x=>decide (x.1=n)).map (·.2)
theorem PaOk.get {CP:Addr}{K:PySem.W.Frag}{av:List Addr}{H:Hp}{n:Str}:∀{kvs:List (Key × V)} {pa:List (Str × PD)},PaOk CP K av H kvs pa→(partOf pa n=none∧valV kvs (Sum.inr n:Key)=none)∨∃P g,partOf pa n=some P∧valV kvs (Sum.inr n:Key)=some (.ref g)∧PlOk CP K av H g P
 | [],[],_=>.inl ⟨rfl,rfl⟩
 | [],_ :: _,h=>h.elim
 |_ :: _,[],h=>h.elim
 |kv :: kvs,nP :: pa,⟨a,⟨g,b,c⟩,r⟩=>by
  have ih:=PaOk.get (n:=n) r
  by_cases e:nP.1=n
  ·refine .inr ⟨nP.2,g,?_,?_,c⟩
   ·simp[partOf,List.find?_cons,e]
   ·rw[valV_pos (by rw[a,e]),b]
  ·have e1:partOf (nP :: pa) n=partOf pa n:=by simp[partOf,List.find?_cons,e]
   have e2:valV (kv :: kvs) (Sum.inr n:Key)=valV kvs (Sum.inr n):=by
    have:¬kv.1=(Sum.inr n:Key):=by rw[a];intro z;injection z with z;exact e z
    simp[valV,List.find?_cons,this]
   rw[e1,e2]
   exact ih
def EPutG (CY CP CM CT:Addr)(K:PySem.W.Frag)(av:List Addr)(y d:Addr)(Y:YS)(n m:List Nat)(X:List (List Nat))(H:Hp)(Q:VK)(E:XK):Prop:=
 ((n :: m :: X).all nmB=false→∀H',Same H H'→E (.ref CM) none H')∧
 ((n :: m :: X).all nmB=true→(S n∈Y.cur.pn∨partOf Y.pa (S m)=none∨∃P,partOf Y.pa (S m)=some P∧X.length≠P.e)→∀H',Same H H'→E (.ref CM) none H')∧
 ((n :: m :: X).all nmB=true→S n∉Y.cur.pn→∀P,partOf Y.pa (S m)=some P→X.length=P.e→∀(sp:List Int) (P':PD),SpAt (lps Y.cur.ls (X.map S++inn (S n) P.e P.ls)) (X.map S++inn (S n) P.e P.ls) sp→P'=⟨lps Y.cur.ls (X.map S++inn (S n) P.e P.ls),Y.cur.e,Y.cur.ds++P.ds.map (mvD sp),Y.cur.pn++[S n]⟩→
  (fits P'→∀H',SYd y d H H'→YG CY CP K av H' y d (Y.keep P')→Q .non H')∧(¬fits P'→∀H',Same H H'→E (.ref CT) none H'))
theorem EPutG.mono {CY CP CM CT:Addr}{K:PySem.W.Frag}{av:List Addr}{y d:Addr}{Y:YS}{n m:List Nat}{X:List (List Nat)}{H H1:Hp}{Q:VK}{E:XK}(s:Same H H1)(h:EPutG CY CP CM CT K av y d Y n m X H Q E):EPutG CY CP CM CT K av y d Y n m X H1 Q E:=
 ⟨fun x H' s'=>h.1 x H' (s.trans s'),fun x c H' s'=>h.2.1 x c H' (s.trans s'),fun x c P hp hl sp P' hs eP=>⟨fun f H' s'=>(h.2.2 x c P hp hl sp P' hs eP).1 f H' (fun b o hb n1 n2=>s' b o (s _ _ hb) n1 n2),fun f H' s'=>(h.2.2 x c P hp hl sp P' hs eP).2 f H' (s.trans s')⟩⟩
def spEPutG (CY CP CM CT:Addr)(K:PySem.W.Frag):Sp:=fun vs H Q E=>∃(av:List Addr) (y d pt:Addr) (Y:YS) (n m:List Nat) (X:List (List Nat)),vs=[.ref y,.str (S n),.str (S m),.ref pt]∧YG CY CP K av H y d Y∧H pt=some (.lst (X.map fun x=>V.str (S x)))∧X.length≤100∧(∀x∈n :: m :: X,x.length≤1000)∧Y.cur.ls.length≤100∧Y.cur.ds.length≤200∧Y.cur.pn.length≤500∧
 (∀nP∈Y.pa,nP.2.ls.length≤100∧nP.2.ds.length≤200∧nP.2.e≤nP.2.ls.length∧(∀x∈nP.2.ls,x.length≤100000)∧∀d∈nP.2.ds,RdOk (nP.2.ls.length:Int) d)∧EPutG CY CP CM CT K av y d Y n m X H Q E
abbrev sEPut:Stmt:=inClass (top 46) 4
theorem scEPut:FnScope ["self","name","part_name","points","plan","part"] ["self","name","part_name","points"] (defScope sEPut):=⟨rfl,rfl,rfl,by decide +kernel,rfl,by decide +kernel,by decide +kernel⟩
theorem ok_eput {dV:Value}{CY:Addr}(F:FunD K "enter_put" "Yard.enter_put" sEPut dV f fd)(YTx:YaT K mg CY){CP CM CT:Addr}(PTx:PlT K mg CP)(ml:mg "len"=none)(G1:FnOk P w K mg base (CX1 P w) 2 g1 gd1 ["words"] (spRNames K CM))(b1:Binds K gd1 ["words"] [])(k1:PySem.W.keepIn K (.ref g1)=true)(m1:mg "refuse_names"=some (.ref g1)){gCo:Addr}{gdCo:FuncData}(GCo:FnOk P w K mg base CX0 4 gCo gdCo ["self"] (spCoTG CY CP K))(bCo:Binds K gdCo ["self"] [])(mCo:Meth K CY "copy_of_told" gCo){gPu:Addr}{gdPu:FuncData}(GPu:FnOk P w K mg base CX0 5 gPu gdPu ["self","name","part","points"] (spPut CP K))(bPu:Binds K gdPu ["self","name","part","points"] [])(mPu:Meth K CP "put_in" gPu){gKe:Addr}{gdKe:FuncData}(GKe:FnOk P w K mg base (CX1 P w) 3 gKe gdKe ["self","plan"] (spKeepG CY CP CT K))(bKe:Binds K gdKe ["self","plan"] [])(mKe:Meth K CY "keep" gKe)(mN:mg "NoName"=some (.ref CM))(xN:ExcC K CM):FnOk P w K mg base (CX1 P w) 6 f fd ["self","name","part_name","points"] (spEPutG CY CP CM CT K):=by
 refine F.okX scEPut (fun vs H Q E h=>?_) (fun cdv A outer s H vs Q E hr h=>?_)
 ·obtain⟨av,y,d,pt,Y,n,m,X,rfl,YD,hpt,hX,hlen,c1,c2,c3,hpa,q⟩:=h
  rfl
 obtain⟨av,y,d,pt,Y,n,m,X,rfl,YD,hpt,hX,hlen,c1,c2,c3,hpa,q⟩:=h
 have r2:=hr.mono (show 2≤5 by omega)
 have r3:=hr.mono (show 3≤5 by omega)
 have r4:=hr.mono (show 4≤5 by omega)
 refine⟨_,(pss_cons (ps_expr (pe_call G1 r2 rfl m1 k1 b1 .nil (passes_cx frm_cxOf xe_cxOf) (pa_cons (pe_op op_cat (pe_lst (pa_cons (pv 1) (pa_cons (pv 2) pa_nil))) (pv 3)) pa_nil)))
  (pss_cons (ps_set (i:=4) scEPut.nd rfl (Or.inl rfl) (pe_meth0 (pv 0) YTx.cl mCo GCo r4 bCo .nil pass0))
  (pss_cons (ps_if (pt_cmpR op_in_seq (pv 1) (pe_fld (pv 4) rfl) rfl) (pss_one (ps_raise frm_cxOf xe_cxOf rfl rfl mN xN (pa_cons pe_str pa_nil))) pss_nil)
  (pss_cons (ps_if (pt_cmp (pc_dnotin (hu_of hr) (pv 2) (pe_fld (pv 0) rfl))) (pss_one (ps_raise frm_cxOf xe_cxOf rfl rfl mN xN (pa_cons pe_str pa_nil))) pss_nil)
  (pss_cons (ps_set (i:=5) scEPut.nd rfl (Or.inl rfl) (pe_dget (hu_of hr) (pe_fld (pv 0) rfl) (pv 2) (fun _ _=>rfl)))
  (pss_cons (ps_if (pt_cmpR op_ne (pe_callB call_len_seq rfl ml PySem.boot_len (pa_cons (pv 3) pa_nil)) (pe_fld (pv 5) rfl) (nomark _)) (pss_one (ps_raise frm_cxOf xe_cxOf rfl rfl mN xN (pa_cons pe_str pa_nil))) pss_nil)
  (pss_cons (ps_expr (pe_meth (pv 4) PTx.cl mPu GPu hr bPu .nil pass0 (pa_cons (pv 1) (pa_cons (pv 5) (pa_cons (pv 3) pa_nil)))))
  (pss_one (ps_expr (pe_meth (pv 0) YTx.cl mKe GKe r3 bKe .nil (passes_cx frm_cxOf xe_cxOf) (pa_cons (pv 4) pa_nil))))))))))),?_⟩
 refine⟨_,rfl,_,rfl,by show 2≤sizeLine;decide,fun A hA=>?_⟩
 have s1:=same_new hA (.lst [.str (S n),.str (S m)])
 have e1:upd H A (.lst [.str (S n),.str (S m)]) A=some (.lst [.str (S n),.str (S m)]):=upd_same
 generalize upd H A (.lst [.str (S n),.str (S m)])=H1 at s1 e1 ⊢
 refine⟨_,rfl,A,pt,_,_,rfl,rfl,e1,s1 _ _ hpt,by rw[sizeLine_eq,List.length_map];simp only[List.length_cons,List.length_nil];omega,fun B hB=>?_⟩
 rw[show ([V.str (S n),.str (S m)]++X.map fun x=>V.str (S x))=((n :: m :: X).map fun x=>V.str (S x)) from rfl]
 have s2:=same_new hB (.lst ((n :: m :: X).map fun x=>V.str (S x)))
 have e2:upd H1 B (.lst ((n :: m :: X).map fun x=>V.str (S x))) B=some (.lst ((n :: m :: X).map fun x=>V.str (S x))):=upd_same
 generalize upd H1 B (.lst ((n :: m :: X).map fun x=>V.str (S x)))=H2 at s2 e2 ⊢
 have s02:=s1.trans s2
 refine⟨B,n :: m :: X,rfl,SqL.of e2,by rw[List.length_cons,List.length_cons];omega,fun x hx=>by have:=hlen x hx;omega,fun H3 s3=>⟨fun ok=>?_,fun bad=>q.1 bad H3 (s02.trans s3)⟩⟩
 have s03:=s02.trans s3
 have YD3:=YD.same s03
 obtain⟨dy,g,o,q',kvs,hy,_,hd,_,_,ha⟩:=id YD
 have hy3:=s03 _ _ hy
 refine⟨_,rfl,y,dy,_,rfl,hy3,(by with_unfolding_all rfl),av,y,d,Y,rfl,YD3,fun g5 l5 t5 p5 es H5 s5 ng nl nt np PA5 hR5=>?_⟩
 have s05:=s03.trans s5
 have hy5:=s05 _ _ hy
 have hd5:=s05 _ _ hd
 obtain⟨dg5,hg5⟩:=PA5.ob
 refine⟨_,rfl,_,rfl,g5,CP,dg5,_,_,rfl,hg5,PTx.cl,PTx.np,pfl_p _ _ _ _,p5,_,rfl,.inl (SqL.of PA5.hp),rfl,flat_strs _,_,rfl,?_⟩
 show (if inV (.str (S n)) (Y.cur.pn.map V.str)=true then _ else _)
 rw[inV_strs]
 by_cases hin:S n∈Y.cur.pn
 ·exact L2.ifT (decide_eq_true hin) ⟨by show 1≤sizeLine;decide,q.2.1 ok (.inl hin) H5 s05⟩
 refine L2.ifF (decide_eq_false hin) ?_
 obtain⟨dy',g',o',q'',kvs',hy',_,hd',hp',_,_⟩:=id YD3
 rw[s03 _ _ hd] at hd'
 cases hd'
 refine⟨_,rfl,_,rfl,y,CY,dy,_,_,rfl,hy5,YTx.cl,YTx.nd,yfl_d _ _ _ _,d,_,rfl,DGet.k (k:=Sum.inr (S m)) hd5,_,rfl,?_⟩
 rcases PaOk.get (n:=S m) hp' with ⟨en,ev⟩ | ⟨P,gp,en,ev,hP⟩
 ·rw[ev]
  exact L2.ifT rfl ⟨by show 1≤sizeLine;decide,q.2.1 ok (.inr (.inl en)) H5 s05⟩
 refine L2.ifF (by rw[ev];rfl) ?_
 refine⟨_,rfl,y,CY,dy,_,_,rfl,hy5,YTx.cl,YTx.nd,yfl_d _ _ _ _,_,rfl,d,_,rfl,by rw[← ev];exact DGet.k (k:=Sum.inr (S m)) hd5,?_⟩
 obtain⟨l2,t2,p2,es2,PB3,hRB3,_⟩:=id hP
 have PB:=PB3.same s5
 have hRB:=hRB3.same s5
 obtain⟨dgp,hgp⟩:=PB.ob
 have emap:(X.map fun x=>V.str (S x))=(X.map S).map V.str:=by rw[List.map_map];rfl
 have hpt5:H5 pt=some (.lst ((X.map S).map V.str)):=by rw[← emap];exact s05 _ _ hpt
 refine⟨_,rfl,pt,_,rfl,.inl (SqL.of hpt5),_,rfl,gp,CP,dgp,_,_,rfl,hgp,PTx.cl,PTx.ne,pfl_e _ _ _ _,rfl,_,rfl,?_⟩
 by_cases hl:X.length=P.e
 rotate_left
 ·refine L2.ifT ?_ ⟨by show 1≤sizeLine;decide,q.2.1 ok (.inr (.inr ⟨P,en,hl⟩)) H5 s05⟩
  rw[decide_eq_false (fun z=>hl (by injection z with z;rw[List.length_map,List.length_map] at z;omega))]
  rfl
 refine L2.ifF (by rw[decide_eq_true (by rw[List.length_map,List.length_map,hl])];rfl) ?_
 obtain⟨nPm,hnP,eP⟩:∃nP∈Y.pa,nP.2=P:=by
  unfold partOf at en
  obtain⟨nP,h1,h2⟩:=Option.map_eq_some_iff.mp en
  exact⟨nP,List.mem_of_find?_eq_some h1,h2⟩
 obtain⟨w1,w2,w3,w4,w5⟩:=hpa nPm hnP
 rw[eP] at w1 w2 w3 w4 w5
 have linn:(inn (S n) P.e P.ls).length=P.ls.length - P.e:=by unfold inn;rw[List.length_map,List.length_drop]
 have llab:(X.map S++inn (S n) P.e P.ls).length=P.ls.length:=by rw[List.length_append,List.length_map,linn];omega
 have hgp3:H3 gp≠none:=by obtain⟨dq,hq⟩:=PB3.ob;rw[hq];simp
 have fr:∀b,H3 b≠none→b≠l5∧b≠t5∧b≠p5:=fun b hb=>⟨fun z=>hb (by rw[z];exact nl),fun z=>hb (by rw[z];exact nt),fun z=>hb (by rw[z];exact np)⟩
 have f1:=fr l2 (by rw[PB3.hl];simp)
 have f2:=fr t2 (by rw[PB3.ht];simp)
 have f3:=fr pt (by rw[s03 _ _ hpt];simp)
 have ngg:gp≠g5:=fun z=>hgp3 (by rw[z];exact ng)
 have les:=hR5.length
 have les2:=hRB.length
 have lnm:(S n).length≤1000:=by rw[S_len];exact hlen n (by simp)
 refine⟨_,rfl,g5,dg5,_,rfl,hg5,(by with_unfolding_all rfl),_,rfl,_,rfl,_,rfl,g5,l5,t5,p5,gp,l2,t2,p2,pt,_,P.e,S n,Y.cur.ls,P.ls,X.map S,es,_,es2,_,P.ds,rfl,PA5,PB,hpt5,hRB,fun dd hdd=>?_,⟨f1.1,f1.2.1,f1.2.2,f2.1,f2.2.1,f2.2.2,f3.1,f3.2.1,f3.2.2⟩,ngg,c1,w1,by rw[List.length_map];exact hX,by omega,by omega,by rw[List.length_map];exact c3,lnm,w4,fun sp us H6 k6 PA6 R6 at6=>?_⟩
 ·obtain⟨u0,u1,v0,v1,_⟩:=w5 dd hdd
  rw[llab]
  exact⟨u0,by omega,v0,by omega⟩
 have s6:Same H3 H6:=fun b o h=>k6 _ _ (s5 _ _ h) (ne_of_none h nl) (ne_of_none h nt) (ne_of_none h np)
 have YD6:=YD3.same s6
 have hy6:=s6 _ _ hy3
 have far:∀b,H3 b=none→b∉av:=fun b hb z=>by
  cases o:H b with
  |none=>exact ha b z o
  |some o'=>rw[s03 _ _ o] at hb;cases hb
 have mR:Rts K H6 es Y.cur.ds:=by
  have mt:∀{a:Addr} {xs:List V},SqT K H5 a xs→SqT K H6 a xs:=fun h=>by
   rcases h with (h | ⟨u,h⟩) | h
   ·exact .inl (.inl (k6 _ _ h (ne_of h PA5.hl (fun z=>by cases z)) (ne_of h PA5.ht (fun z=>by cases z)) (ne_of h PA5.hp (fun z=>by cases z))))
   ·exact .inl (.inr ⟨u,k6 _ _ h (ne_of h PA5.hl (fun z=>by cases z)) (ne_of h PA5.ht (fun z=>by cases z)) (ne_of h PA5.hp (fun z=>by cases z))⟩)
   ·exact .inr h
  have mr:∀{xs:List V} {ds:List RD},Rts K H5 xs ds→Rts K H6 xs ds:=fun h=>by
   induction h with
   |nil=>exact .nil
   |cons a b c ih=>exact .cons (mt a) (mt b) ih
  exact mr hR5
 have PA6':PlAt CP H6 g5 l5 (Y.cur.e:Int) t5 p5 (lps Y.cur.ls (X.map S++inn (S n) P.e P.ls)) (es++us) ((Y.cur.pn++[S n]).map V.str):=by rw[List.map_append];exact PA6
 have hPn:PlOk CP K av H6 g5 ⟨lps Y.cur.ls (X.map S++inn (S n) P.e P.ls),Y.cur.e,Y.cur.ds++P.ds.map (mvD sp),Y.cur.pn++[S n]⟩:=⟨l5,t5,p5,es++us,PA6',mR.app R6,far l5 nl,far t5 nt,far p5 np⟩
 obtain⟨qa,qb⟩:=q.2.2 ok hin P en hl sp _ at6 rfl
 exact⟨_,rfl,y,dy,_,rfl,hy6,(by with_unfolding_all rfl),_,rfl,av,y,d,g5,Y,_,rfl,YD6,hPn,fun f H7 s7 yd7=>qa f H7 (fun b o h n1 n2=>s7 _ _ (s6 _ _ (s03 _ _ h)) n1 n2) yd7,fun f=>qb f H6 (s03.trans s6)⟩
structure SmY (Y:YS):Prop where
 l:Y.cur.ls.length≤100
 d:Y.cur.ds.length≤200
 p:Y.cur.pn.length≤500
 n:Y.pa.length≤100
 a:∀nP∈Y.pa,nP.2.ls.length≤100∧nP.2.ds.length≤200∧nP.2.e≤nP.2.ls.length∧(∀x∈nP.2.ls,x.length≤100000)∧∀d∈nP.2.ds,RdOk (nP.2.ls.length:Int) d
inductive TellG (CY CP CR' CM CU CZ CT:Addr) (K:PySem.W.Frag) (av:List Addr) (y d:Addr) (Y:YS) (H:Hp) (Q:VK) (E:XK):List (List Nat)→Prop where
 |no {w:List Nat} {r:List (List Nat)} (f:formM (S w) ((r.length:Int)+1)=false) (q:∀H',Same H H'→E (.ref CR') none H'):TellG CY CP CR' CM CU CZ CT K av y d Y H Q E (w :: r)
 |part {w n:List Nat} {X:List (List Nat)} (ew:S w = "part") (lx:1≤X.length) (lX:X.length≤900) (q:BegG CY CP CR' CM CT K av y d Y n X H Q E):TellG CY CP CR' CM CU CZ CT K av y d Y H Q E (w :: n :: X)
 |done {w:List Nat} (ew:S w = "done") (q:EndG CY CP CR' K av y d Y H Q E):TellG CY CP CR' CM CU CZ CT K av y d Y H Q E [w]
 |put {w n m:List Nat} {X:List (List Nat)} (ew:S w = "put") (lx:1≤X.length) (lX:X.length≤100) (q:EPutG CY CP CM CT K av y d Y n m X H Q E):TellG CY CP CR' CM CU CZ CT K av y d Y H Q E (w :: n :: m :: X)
 |row {w a b t:List Nat} {k:Kd} (ew:S w=k.wd) (bd:∀p,Wr p t→Mq.Bd 100 p) (q:ERowG CY CP CM CU CZ CT K av y d Y k a b t H Q E):TellG CY CP CR' CM CU CZ CT K av y d Y H Q E [w,a,b,t]
def spTellG (CY CP CR' CM CU CZ CT:Addr)(K:PySem.W.Frag):Sp:=fun vs H Q E=>∃(y:Addr) (x:V),vs=[.ref y,x]∧((NoStr K H x∧E (.ref CR') none H)∨
 ∃(av:List Addr) (d:Addr) (Y:YS) (ws:List (List Nat)),x=.str (S (jnc 32 ws))∧(∀z∈ws,32∉z)∧(∀z∈ws,z.length≤1000)∧(jnc 32 ws).length≤1000000∧ws.length≤1000∧YG CY CP K av H y d Y∧SmY Y∧TellG CY CP CR' CM CU CZ CT K av y d Y H Q E ws)
theorem kd_row (k:Kd):k.wd∈rowW:=by cases k<;>decide +kernel
theorem kd_no (k:Kd):k.wd≠"part"∧k.wd≠"put"∧k.wd≠"done":=by cases k<;>exact⟨by decide +kernel,by decide +kernel,by decide +kernel⟩
abbrev sTell:Stmt:=inClass (top 46) 1
theorem scTell:FnScope ["self","row","words"] ["self","row"] (defScope sTell):=⟨rfl,rfl,rfl,by decide +kernel,rfl,by decide +kernel,by decide +kernel⟩
theorem ok_tell {dV:Value}{CY:Addr}(F:FunD K "tell" "Yard.tell" sTell dV f fd)(YTx:YaT K mg CY){CP CR' CM CU CZ CT:Addr}(G1:FnOk P w K mg base (CX1 P w) 1 g1 gd1 ["row"] (spWordsX K CR'))(b1:Binds K gd1 ["row"] [])(k1:PySem.W.keepIn K (.ref g1)=true)(m1:mg "words_of"=some (.ref g1))(G2:FnOk P w K mg base (CX1 P w) 2 g2 gd2 ["words"] (spRFormX K CR'))(b2:Binds K gd2 ["words"] [])(k2:PySem.W.keepIn K (.ref g2)=true)(m2:mg "refuse_form"=some (.ref g2)){gBe:Addr}{gdBe:FuncData}(GBe:FnOk P w K mg base (CX1 P w) 4 gBe gdBe ["self","name","ends"] (spBegG CY CP CR' CM CT K))(bBe:Binds K gdBe ["self","name","ends"] [])(mBe:Meth K CY "begin_part" gBe){gEn:Addr}{gdEn:FuncData}(GEn:FnOk P w K mg base (CX1 P w) 1 gEn gdEn ["self"] (spEndG CY CP CR' K))(bEn:Binds K gdEn ["self"] [])(mEn:Meth K CY "end_part" gEn){gPu:Addr}{gdPu:FuncData}(GPu:FnOk P w K mg base (CX1 P w) 6 gPu gdPu ["self","name","part_name","points"] (spEPutG CY CP CM CT K))(bPu:Binds K gdPu ["self","name","part_name","points"] [])(mPu:Meth K CY "enter_put" gPu){gER:Addr}{gdER:FuncData}(GER:FnOk P w K mg base (CX1 P w) 5 gER gdER ["self","words"] (spERowG CY CP CM CU CZ CT K))(bER:Binds K gdER ["self","words"] [])(mER:Meth K CY "enter_row" gER):FnOk P w K mg base (CX1 P w) 7 f fd ["self","row"] (spTellG CY CP CR' CM CU CZ CT K):=by
 refine F.okX scTell (fun vs H Q E h=>?_) (fun cdv A outer s H vs Q E hr h=>?_)
 ·obtain⟨y,x,rfl,h⟩:=h
  rfl
 obtain⟨y,x,rfl,h⟩:=h
 have r1:=hr.mono (show 1≤6 by omega)
 have r2:=hr.mono (show 2≤6 by omega)
 have r4:=hr.mono (show 4≤6 by omega)
 have r5:=hr.mono (show 5≤6 by omega)
 refine⟨_,(pss_cons (ps_set (i:=2) scTell.nd rfl (Or.inl rfl) (pe_call G1 r1 rfl m1 k1 b1 .nil (passes_cx frm_cxOf xe_cxOf) (pa_cons (pv 1) pa_nil)))
  (pss_cons (ps_expr (pe_call G2 r2 rfl m2 k2 b2 .nil (passes_cx frm_cxOf xe_cxOf) (pa_cons (pv 2) pa_nil)))
  (pss_one (ps_if (pt_cmpR op_eq (pe_ix ix_list (pv 2) pe_int (fun _ _=>rfl)) pe_str (nomark _)) (pss_one (ps_expr (pe_meth (pv 0) YTx.cl mBe GBe r4 bBe .nil (passes_cx frm_cxOf xe_cxOf) (pa_cons (pe_ix ix_list (pv 2) pe_int (fun _ _=>rfl)) (pa_cons (pe_slice sl_list (pv 2) (po_some pe_int) po_none) pa_nil))))) (pss_one (ps_if (pt_cmpR op_eq (pe_ix ix_list (pv 2) pe_int (fun _ _=>rfl)) pe_str (nomark _)) (pss_one (ps_expr (pe_meth0 (pv 0) YTx.cl mEn GEn r1 bEn .nil (passes_cx frm_cxOf xe_cxOf)))) (pss_one (ps_if (pt_cmpR op_eq (pe_ix ix_list (pv 2) pe_int (fun _ _=>rfl)) pe_str (nomark _)) (pss_one (ps_expr (pe_meth (pv 0) YTx.cl mPu GPu hr bPu .nil (passes_cx frm_cxOf xe_cxOf) (pa_cons (pe_ix ix_list (pv 2) pe_int (fun _ _=>rfl)) (pa_cons (pe_ix ix_list (pv 2) pe_int (fun _ _=>rfl)) (pa_cons (pe_slice sl_list (pv 2) (po_some pe_int) po_none) pa_nil)))))) (pss_one (ps_expr (pe_meth (pv 0) YTx.cl mER GER r5 bER .nil (passes_cx frm_cxOf xe_cxOf) (pa_cons (pv 2) pa_nil)))))))))))),?_⟩
 rcases h with ⟨nx,q⟩ | ⟨av,d,Y,ws,rfl,h32,hl,hj,hw,YD,sm,tg⟩
 ·exact⟨_,rfl,x,rfl,.inr ⟨nx,q⟩⟩
 have hne:ws≠[]:=by cases tg<;>simp
 refine⟨_,rfl,_,rfl,.inl ⟨ws,rfl,hne,h32,hj,fun wl H1 s1 nw ew=>?_⟩⟩
 have YD1:=YD.same s1
 obtain⟨dy,g,o,q',kvs,hy1,_⟩:=id YD1
 cases tg with
 | @no w r f q=>
  refine⟨_,rfl,wl,S w,r.map fun x=>V.str (S x),rfl,SqL.of ew,by rw[List.length_map];simp only[List.length_cons] at hw;omega,fun z=>?_,fun _=>q H1 s1⟩
  rw[List.length_map,f] at z
  cases z
 | @part w n X ewd lx lX q=>
  have eW:H1 wl=some (.lst (.str "part" :: .str (S n) :: X.map fun x=>V.str (S x))):=by rw[← ewd];exact ew
  refine⟨_,rfl,wl,"part",_,rfl,SqL.of eW,by rw[List.length_cons,List.length_map];omega,fun _=>?_,fun z=>?_⟩
  rotate_left
  ·have:formM "part" ((((V.str (S n) :: X.map fun x=>V.str (S x)).length:Nat):Int)+1)=true:=by
    unfold formM
    rw[if_neg (by decide +kernel),if_pos rfl]
    exact decide_eq_true (by rw[List.length_cons,List.length_map];omega)
   rw[this] at z
   cases z
  refine⟨_,rfl,wl,_,_,_,rfl,rfl,SqL.of eW,atI_nat (j:=0) rfl,rfl,_,rfl,L2.ifT (decide_eq_true rfl) ?_⟩
  refine⟨_,rfl,y,dy,_,rfl,hy1,(by with_unfolding_all rfl),_,rfl,wl,_,_,_,rfl,rfl,SqL.of eW,atI_nat (j:=1) rfl,_,rfl,2,rfl,wl,_,rfl,SqL.of eW,fun E1 hE1=>?_⟩
  rw[show (2:Int)=((2:Nat):Int) from rfl,cut_from]
  show spBegG CY CP CR' CM CT K [.ref y,.str (S n),.ref E1] (upd H1 E1 (.lst (X.map fun x=>V.str (S x)))) _ _
  have s2:=same_new hE1 (.lst (X.map fun x=>V.str (S x)))
  have e2:upd H1 E1 (.lst (X.map fun x=>V.str (S x))) E1=some (.lst (X.map fun x=>V.str (S x))):=upd_same
  exact⟨av,y,d,E1,Y,n,X,rfl,YD1.same s2,e2,lX,fun x hx=>by have:=hl x (List.mem_cons_of_mem _ hx);omega,sm.n,BegG.mono (s1.trans s2) q⟩
 | @done w ewd q=>
  have eW:H1 wl=some (.lst [.str "done"]):=by rw[← ewd];exact ew
  refine⟨_,rfl,wl,"done",_,rfl,SqL.of eW,by show 0≤1000000;decide,fun _=>?_,fun z=>?_⟩
  rotate_left
  ·have:formM "done" (((([]:List V).length:Nat):Int)+1)=true:=by decide +kernel
   rw[this] at z
   cases z
  refine⟨_,rfl,wl,_,_,_,rfl,rfl,SqL.of eW,atI_nat (j:=0) rfl,rfl,_,rfl,L2.ifF (by decide +kernel) ?_⟩
  refine⟨_,rfl,wl,_,_,_,rfl,rfl,SqL.of eW,atI_nat (j:=0) rfl,rfl,_,rfl,L2.ifT (decide_eq_true rfl) ?_⟩
  exact⟨_,rfl,y,dy,_,rfl,hy1,(by with_unfolding_all rfl),av,y,d,Y,rfl,YD1,sm.n,EndG.mono s1 q⟩
 | @put w n m X ewd lx lX q=>
  have eW:H1 wl=some (.lst (.str "put" :: .str (S n) :: .str (S m) :: X.map fun x=>V.str (S x))):=by rw[← ewd];exact ew
  refine⟨_,rfl,wl,"put",_,rfl,SqL.of eW,by rw[List.length_cons,List.length_cons,List.length_map];omega,fun _=>?_,fun z=>?_⟩
  rotate_left
  ·have:formM "put" ((((V.str (S n) :: V.str (S m) :: X.map fun x=>V.str (S x)).length:Nat):Int)+1)=true:=by
    unfold formM
    rw[if_neg (by decide +kernel),if_neg (by decide +kernel),if_pos rfl]
    exact decide_eq_true (by rw[List.length_cons,List.length_cons,List.length_map];omega)
   rw[this] at z
   cases z
  refine⟨_,rfl,wl,_,_,_,rfl,rfl,SqL.of eW,atI_nat (j:=0) rfl,rfl,_,rfl,L2.ifF (by decide +kernel) ?_⟩
  refine⟨_,rfl,wl,_,_,_,rfl,rfl,SqL.of eW,atI_nat (j:=0) rfl,rfl,_,rfl,L2.ifF (by decide +kernel) ?_⟩
  refine⟨_,rfl,wl,_,_,_,rfl,rfl,SqL.of eW,atI_nat (j:=0) rfl,rfl,_,rfl,L2.ifT (decide_eq_true rfl) ?_⟩
  refine⟨_,rfl,y,dy,_,rfl,hy1,(by with_unfolding_all rfl),_,rfl,wl,_,_,_,rfl,rfl,SqL.of eW,atI_nat (j:=1) rfl,_,rfl,wl,_,_,_,rfl,rfl,SqL.of eW,atI_nat (j:=2) rfl,_,rfl,3,rfl,wl,_,rfl,SqL.of eW,fun E1 hE1=>?_⟩
  rw[show (3:Int)=((3:Nat):Int) from rfl,cut_from]
  show spEPutG CY CP CM CT K [.ref y,.str (S n),.str (S m),.ref E1] (upd H1 E1 (.lst (X.map fun x=>V.str (S x)))) _ _
  have s2:=same_new hE1 (.lst (X.map fun x=>V.str (S x)))
  have e2:upd H1 E1 (.lst (X.map fun x=>V.str (S x))) E1=some (.lst (X.map fun x=>V.str (S x))):=upd_same
  exact⟨av,y,d,E1,Y,n,m,X,rfl,YD1.same s2,e2,lX,fun x hx=>hl x (List.mem_cons_of_mem _ hx),sm.l,sm.d,sm.p,sm.a,EPutG.mono (s1.trans s2) q⟩
 | @row w a b t k ewd bd q=>
  have eW:H1 wl=some (.lst [.str k.wd,.str (S a),.str (S b),.str (S t)]):=by rw[← ewd];exact ew
  obtain⟨n1,n2,n3⟩:=kd_no k
  have e:∀x:Str,k.wd≠x→decide (V.str k.wd=V.str x)=false:=fun x h=>decide_eq_false (fun z=>h (by injection z))
  refine⟨_,rfl,wl,k.wd,_,rfl,SqL.of eW,by show 3≤1000000;decide,fun _=>?_,fun z=>?_⟩
  rotate_left
  ·have:formM k.wd (((([V.str (S a),.str (S b),.str (S t)]:List V).length:Nat):Int)+1)=true:=by
    unfold formM
    rw[if_pos (kd_row k)]
    exact decide_eq_true rfl
   rw[this] at z
   cases z
  refine⟨_,rfl,wl,_,_,_,rfl,rfl,SqL.of eW,atI_nat (j:=0) rfl,rfl,_,rfl,L2.ifF (e _ n1) ?_⟩
  refine⟨_,rfl,wl,_,_,_,rfl,rfl,SqL.of eW,atI_nat (j:=0) rfl,rfl,_,rfl,L2.ifF (e _ n3) ?_⟩
  refine⟨_,rfl,wl,_,_,_,rfl,rfl,SqL.of eW,atI_nat (j:=0) rfl,rfl,_,rfl,L2.ifF (e _ n2) ?_⟩
  have l1:=sm.l
  have l2:=sm.d
  exact⟨_,rfl,y,dy,_,rfl,hy1,(by with_unfolding_all rfl),_,rfl,av,y,d,wl,Y,k,a,b,t,rfl,SqL.of eW,YD1,by omega,by omega,hl a (by simp),hl b (by simp),hl t (by simp),bd,ERowG.mono s1 q⟩
end
end K84
namespace Shp
open PySem L2
theorem ps_nox {X:Cx}{st:Stmt}{t:TS}(h:PS X.nox st t):PS X st t:=fun pins s σ H D I hq=>wpAny_mono (h pins s σ H D (I.wish _) hq) (fun _ _ q=>SP.unwish q) fun _ _ z=>False.elim z
end Shp
namespace K84
open PySem L2 Tx Shp
section
variable {P:Program} {w:World} {K:PySem.W.Frag} {mg:Str→Option Value} {base:Heap} {f g1 g2 g3 g4 g5 g6 g7 g8:Addr} {fd gd1 gd2 gd3 gd4 gd5 gd6 gd7 gd8:FuncData} {CX:CXT}
variable {CR:Addr} {CK:Kd→Addr} {fW fJ fT fS:Kd→Addr} {fdW fdJ fdT fdS:Kd→FuncData}
def spPNet (CP CN CO:Addr)(K:PySem.W.Frag):Sp:=fun vs H Q E=>∃(g l t p:Addr) (e:Int) (ls:List Str) (es ps:List V) (ds:List RD),vs=[.ref g]∧PlAt CP H g l e t p ls es ps∧Rts K H es ds∧(∀x∈ds,RdOk (ls.length:Int) x)∧ls.length≤20∧ds.length≤40∧
 (ls=[]→∀H',Same H H'→E (.ref CO) none H')∧(ls≠[]→∀n nl H',Same H H'→H nl=none→NetAt CN K H' n nl (ls.length:Int) ds→Q (.ref n) H')
abbrev sPNet:Stmt:=inClass (top 39) 6
theorem scPNet:FnScope ["self","made","entry"] ["self"] (defScope sPNet):=⟨rfl,rfl,rfl,by decide +kernel,rfl,by decide +kernel,by decide +kernel⟩
theorem ok_pnet {dV:Value}{CP:Addr}(F:FunD K "net" "Plan.net" sPNet dV f fd)(PTx:PlT K mg CP){CN CO:Addr}(NTx:NT K mg CN)(ml:mg "len"=none){gNI:Addr}{gdNI:FuncData}(GNI:FnOk P w K mg base (CX1 P w) 2 gNI gdNI ["self","many"] (spNInitX CN K CO))(bNI:Binds K gdNI ["self","many"] [])(MN:Mk K CN gNI){gAd:Addr}{gdAd:FuncData}(GAd:FnOk P w K mg base CX0 5 gAd gdAd ["self","row"] (spAdd CN K CK))(bAd:Binds K gdAd ["self","row"] [])(mAd:Meth K CN "add" gAd)(G1:FnOk P w K mg base CX0 3 g1 gd1 ["told"] (spRowOfG K CK))(b1:Binds K gd1 ["told"] [])(k1:PySem.W.keepIn K (.ref g1)=true)(m1:mg "row_of"=some (.ref g1)):FnOk P w K mg base (CX1 P w) 6 f fd ["self"] (spPNet CP CN CO K):=by
 refine F.okX scPNet (fun vs H Q E h=>?_) (fun cdv A outer s H vs Q E hr h=>?_)
 ·obtain⟨g,l,t,p,e,ls,es,ps,ds,rfl,PA,hR,hK,h20,h40,qe,q⟩:=h
  rfl
 obtain⟨g,l,t,p,e,ls,es,ps,ds,rfl,PA,hR,hK,h20,h40,qe,q⟩:=h
 have r3:=hr.mono (show 3≤5 by omega)
 obtain⟨⟨dg,hg⟩,hl,ht,hp,lt,lp,tp⟩:=PA
 refine⟨_,(pss_cons (ps_set (i:=1) scPNet.nd rfl (Or.inl rfl) (pe_make MN GNI r3 rfl NTx.mN bNI .nil (passes_cx frm_cxOf xe_cxOf) (pa_cons (pe_callB call_len_seq rfl ml PySem.boot_len (pa_cons (pe_fld (pv 0) rfl) pa_nil)) pa_nil)))
  (pss_cons (ps_nox (ps_for PassesOwn.never rfl (pi_list (pe_fld (pv 0) rfl)) (pg_name (i:=2) scPNet.nd rfl (Or.inl rfl))
   (pss_one (ps_expr (pe_meth (pv 1) NTx.cl mAd GAd hr bAd .nil pass0 (pa_cons (pe_call G1 r3 rfl m1 k1 b1 .nil pass0 (pa_cons (pv 2) pa_nil)) pa_nil))))))
  (pss_one (ps_ret (pv 1))))),?_⟩
 refine⟨_,rfl,g,CP,dg,_,_,rfl,hg,PTx.cl,PTx.nl,pfl_l _ _ _ _,l,_,rfl,.inl (SqL.of hl),fun n dx h1 h2 ne=>?_⟩
 have hgx:∀b o,H b=some o→(upd (upd H dx (.own n)) n (.ins CN dx [])) b=some o:=fun b o h=>by rw[upd_ne (ne_of_none h h1),upd_ne (ne_of_none h h2)];exact h
 by_cases e0:ls=[]
 ·exact⟨n,dx,_,rfl,upd_same,.inr ⟨.inl ⟨((ls.map V.str).length:Int),rfl,.inl (by rw[e0];decide)⟩,qe e0 _ hgx⟩⟩
 have l1:1≤ls.length:=List.length_pos_iff.mpr e0
 have lm:((ls.map V.str).length:Int)=(ls.length:Int):=by rw[List.length_map]
 refine⟨n,dx,_,rfl,upd_same,.inl ⟨((ls.map V.str).length:Int),rfl,by omega,by omega,fun nl H2 nn keep hn hnl=>⟨rfl,?_⟩⟩⟩
 rw[lm] at hn
 have s2:Same H H2:=fun b o h=>keep b o (hgx b o h) (ne_of_none h h1)
 have hl0:H nl=none:=by
  cases o:H nl with
  |none=>rfl
  |some o'=>rw[hgx _ _ o] at nn;cases nn
 clear keep
 have les:=hR.length
 refine⟨_,rfl,g,CP,dg,_,_,rfl,(s2 _ _ hg),PTx.cl,PTx.nt,pfl_t _ _ _ _,t,rfl,⟨_,SqL.of (s2 _ _ ht)⟩,?_⟩
 refine for_list (xs:=es) (fun i σ H'=>Same H H'∧NetAt CN K H' n nl (ls.length:Int) (ds.take i)∧∃z,σ=[some (.ref g),some (.ref n),z]) ⟨s2,⟨⟨dx,hn⟩,[],hnl,.nil⟩,none,rfl⟩ (fun i σ H' _ h=>h.1.seq (SqL.of ht)) ?_ ?_
 ·rintro i x σ H3 hx ⟨s3,N3,z,rfl⟩
  have hi:i < ds.length:=by
   have:=(List.getElem?_eq_some_iff.mp hx).1
   omega
  obtain⟨⟨k,u,v,p'⟩,hd⟩:∃d,ds[i]?=some d:=⟨_,List.getElem?_eq_getElem hi⟩
  obtain⟨t',z',et,hT,fz⟩:=hR.at hd
  have ex:x=.ref t':=by rw[et] at hx;exact(Option.some.inj hx).symm
  subst ex
  obtain⟨dn,hn3⟩:=N3.ob
  refine⟨_,rfl,n,dn,_,rfl,hn3,nflds_no _ _ (by decide +kernel) (by decide +kernel),_,rfl,t',_,_,_,_,rfl,s3.seqT hT,k,rfl,fun y H4 s4 ny rw=>?_⟩
  refine⟨n,nl,y,z',_,ds.take i,k,u,v,p',rfl,N3.same s4,rw,(s3.trans s4).fq fz,hK _ (List.mem_of_getElem? hd),by rw[List.length_take];omega,fun H5 x5 N5=>?_⟩
  refine⟨fun b o e=>x5 _ _ ((s3.trans s4) _ _ e) (ne_of_none e hl0),?_,_,rfl⟩
  rw[List.take_add_one,hd]
  exact N5
 ·rintro σ H3 ⟨s3,N3,z,rfl⟩
  rw[les,List.take_length] at N3
  exact⟨_,rfl,q e0 n nl H3 s3 hl0 N3⟩
def spYNetG (CY CP CN CO:Addr)(K:PySem.W.Frag):Sp:=fun vs H Q E=>∃(av:List Addr) (y d:Addr) (Y:YS),vs=[.ref y]∧YG CY CP K av H y d Y∧(∀x∈Y.gr.ds,RdOk (Y.gr.ls.length:Int) x)∧Y.gr.ls.length≤20∧Y.gr.ds.length≤40∧
 (Y.gr.ls=[]→∀H',Same H H'→E (.ref CO) none H')∧(Y.gr.ls≠[]→∀n nl H',Same H H'→H nl=none→NetAt CN K H' n nl (Y.gr.ls.length:Int) Y.gr.ds→Q (.ref n) H')
def spNamesG (CY CP:Addr)(K:PySem.W.Frag):Sp:=fun vs H Q _=>∃(av:List Addr) (y d:Addr) (Y:YS),vs=[.ref y]∧YG CY CP K av H y d Y∧∀r H',Same H H'→H r=none→H' r=some (.lst (Y.gr.ls.map V.str))→Q (.ref r) H'
abbrev sYNet:Stmt:=inClass (top 46) 10
theorem scYNet:FnScope ["self"] ["self"] (defScope sYNet):=⟨rfl,rfl,rfl,by decide +kernel,rfl,by decide +kernel,by decide +kernel⟩
theorem ok_ynet {dV:Value}{CY:Addr}(F:FunD K "net" "Yard.net" sYNet dV f fd)(YTx:YaT K mg CY){CP CN CO:Addr}(PTx:PlT K mg CP){gNe:Addr}{gdNe:FuncData}(GNe:FnOk P w K mg base (CX1 P w) 6 gNe gdNe ["self"] (spPNet CP CN CO K))(bNe:Binds K gdNe ["self"] [])(mNe:Meth K CP "net" gNe):FnOk P w K mg base (CX1 P w) 7 f fd ["self"] (spYNetG CY CP CN CO K):=by
 refine F.okX scYNet (fun vs H Q E h=>?_) (fun cdv A outer s H vs Q E hr h=>?_)
 ·obtain⟨av,y,d,Y,rfl,⟨dy,g,o,q',kvs,hy,hg,_⟩,hK,h20,h40,qe,q⟩:=h
  rfl
 obtain⟨av,y,d,Y,rfl,⟨dy,g,o,q',kvs,hy,hg,_⟩,hK,h20,h40,qe,q⟩:=h
 obtain⟨l,t,p,es,PA,hR,_⟩:=hg
 obtain⟨dg,hgo⟩:=PA.ob
 refine⟨_,(pss_one (ps_ret (pe_meth0 (pe_fld (pv 0) rfl) PTx.cl mNe GNe hr bNe .nil (passes_cx frm_cxOf xe_cxOf)))),?_⟩
 exact⟨_,rfl,y,CY,dy,_,_,rfl,hy,YTx.cl,YTx.ng,yfl_g _ _ _ _,g,dg,_,rfl,hgo,(by with_unfolding_all rfl),g,l,t,p,_,_,es,_,Y.gr.ds,rfl,PA,hR,hK,h20,h40,qe,q⟩
abbrev sNames:Stmt:=inClass (top 46) 8
theorem scNames:FnScope ["self"] ["self"] (defScope sNames):=⟨rfl,rfl,rfl,by decide +kernel,rfl,by decide +kernel,by decide +kernel⟩
theorem ok_names {dV:Value}{CY:Addr}(F:FunD K "names" "Yard.names" sNames dV f fd)(YTx:YaT K mg CY){CP:Addr}(PTx:PlT K mg CP)(mli:mg "list"=none):FnOk P w K mg base CX 1 f fd ["self"] (spNamesG CY CP K):=by
 refine F.ok scNames (fun vs H Q E h=>?_) (fun cdv A outer s H vs Q E hr h=>?_)
 ·obtain⟨av,y,d,Y,rfl,⟨dy,g,o,q',kvs,hy,hg,_⟩,q⟩:=h
  rfl
 obtain⟨av,y,d,Y,rfl,⟨dy,g,o,q',kvs,hy,hg,_⟩,q⟩:=h
 obtain⟨l,t,p,es,PA,hR,_⟩:=hg
 obtain⟨dg,hgo⟩:=PA.ob
 refine⟨_,(pss_one (ps_ret (pe_callTy call_list_of rfl mli PyProof.Rows.boot_list (pa_cons (pe_fld (pe_fld (pv 0) rfl) rfl) pa_nil)))),?_⟩
 refine⟨_,rfl,y,CY,dy,_,_,rfl,hy,YTx.cl,YTx.ng,yfl_g _ _ _ _,g,CP,dg,_,_,rfl,hgo,PTx.cl,PTx.nl,pfl_l _ _ _ _,l,_,rfl,.inl (SqL.of PA.hl),fun r hr0=>?_⟩
 exact q r _ (same_new hr0 _) hr0 upd_same
end
end K84
namespace K84
open PySem L2 Tx
section
variable {P:Program} {w:World} {K:PySem.W.Frag} {mg:Str→Option Value} {base:Heap} {f g1 g2 g3 g4 g5 g6 g7 g8:Addr} {fd gd1 gd2 gd3 gd4 gd5 gd6 gd7 gd8:FuncData} {CX:CXT}
inductive Er where
 |row | name | num | size | many
noncomputable def rdV (t:List Nat):Option Mq.Q2:=open Classical in if h:∃p,Wr p t then some h.choose else none
theorem rdV_some {t:List Nat}{p:Mq.Q2}(h:Wr p t):rdV t=some p:=by
 unfold rdV
 rw[dif_pos ⟨p,h⟩]
 exact congrArg some (Tx.wr_one (Exists.choose_spec (⟨p,h⟩:∃p,Wr p t)) h)
theorem rdV_none {t:List Nat}(h:¬∃p,Wr p t):rdV t=none:=by
 unfold rdV
 rw[dif_neg h]
theorem rdV_wr {t:List Nat}{p:Mq.Q2}(h:rdV t=some p):Wr p t:=by
 by_cases e:∃p,Wr p t
 ·obtain⟨q,hq⟩:=e
  rw[rdV_some hq] at h
  injection h with h
  exact h ▸ hq
 ·rw[rdV_none e] at h
  cases h
def lIx (ls:List Str)(x:Str):Nat:=ls.findIdx (fun z=>decide (z=x))
theorem lIx_at {ls:List Str}{x:Str}(h:x∈ls):ls[lIx ls x]?=some x:=by
 have h1:lIx ls x < ls.length:=List.findIdx_lt_length_of_exists ⟨x,h,by simp⟩
 have h2:=List.findIdx_getElem (w:=h1)
 simp only[decide_eq_true_eq] at h2
 rw[List.getElem?_eq_getElem h1]
 exact congrArg some h2
theorem lIx_eq {ls:List Str}{x:Str}{i:Nat}(nd:ls.Nodup)(h:ls[i]?=some x):i=lIx ls x:=by
 have h1:=lIx_at (List.mem_of_getElem? h)
 obtain⟨a,ea⟩:=List.getElem?_eq_some_iff.mp h
 obtain⟨b,eb⟩:=List.getElem?_eq_some_iff.mp h1
 exact(List.getElem_inj nd).mp (ea.trans eb.symm)
theorem lIx_lt {ls:List Str}{x:Str}(h:x∈ls):lIx ls x < ls.length:=(List.getElem?_eq_some_iff.mp (lIx_at h)).1
theorem spAt_eq {ls labs:List Str}{sp:List Int}(nd:ls.Nodup)(h:SpAt ls labs sp):sp=labs.map fun x=>(lIx ls x:Int):=by
 obtain⟨hl,hi⟩:=h
 apply List.ext_getElem?
 intro i
 rw[List.getElem?_map]
 cases e:labs[i]? with
 |none=>
  have:=List.getElem?_eq_none_iff.mp e
  exact List.getElem?_eq_none_iff.mpr (by omega)
 |some x=>
  obtain⟨j,h1,h2⟩:=hi i x e
  rw[h1,lIx_eq nd h2]
  rfl
def addRow (P:PD)(k:Kd)(a b:List Nat)(p:Mq.Q2):PD:=
 ⟨lp2 P.ls a b,P.e,P.ds++[(k,(lIx (lp2 P.ls a b) (S a):Int),(lIx (lp2 P.ls a b) (S b):Int),p)],P.pn⟩
def labsV (n:List Nat)(X:List (List Nat))(P2:PD):List Str:=X.map S++inn (S n) P2.e P2.ls
def addPut (P:PD)(n:List Nat)(X:List (List Nat))(P2:PD):PD:=
 ⟨lps P.ls (labsV n X P2),P.e,P.ds++P2.ds.map (mvD ((labsV n X P2).map fun x=>(lIx (lps P.ls (labsV n X P2)) x:Int))),P.pn++[S n]⟩
instance (P:PD):Decidable (fits P):=by unfold fits;infer_instance
def fitV (Y:YS)(P:PD):Except Er YS:=if fits P then .ok (Y.keep P) else .error .many
noncomputable def rowV (Y:YS)(k:Kd)(a b t:List Nat):Except Er YS:=
 if (nmB a && nmB b)=false then .error .name else match rdV t with
 |none=>.error .num
 |some p=>if okz k (some p)=false then .error .size else fitV Y (addRow Y.cur k a b p)
def putV (Y:YS)(n m:List Nat)(X:List (List Nat)):Except Er YS:=
 if (n :: m :: X).all nmB=false then .error .name else if S n∈Y.cur.pn then .error .name else match partOf Y.pa (S m) with
 |none=>.error .name
 |some P=>if X.length≠P.e then .error .name else fitV Y (addPut Y.cur n X P)
def begV (Y:YS)(n:List Nat)(X:List (List Nat)):Except Er YS:=
 match Y.op with
 |some _=>.error .row
 |none=>if (n :: X).all nmB=false then .error .name else if ¬(X.map S).Nodup∨S n∈Y.pa.map (·.1) then .error .name else if 20≤Y.pa.length∨20 < X.length then .error .many else .ok { Y with op:=some (S n,⟨X.map S,X.length,[],[]⟩) }
def endV (Y:YS):Except Er YS:=
 match Y.op with
 |none=>.error .row
 |some nP=>.ok { Y with pa:=Y.pa++[nP],op:=none }
def kdOf (w:Str):Option Kd:=if w = "piece" then some .pc else if w = "push" then some .pu else if w = "hold" then some .ho else none
noncomputable def tV (Y:YS):List (List Nat)→Except Er YS
 | []=>.error .row
 |w :: r=>if formM (S w) ((r.length:Int)+1)=false then .error .row else if S w = "part" then (match r with
   |n :: X=>begV Y n X
   | []=>.error .row)
  else if S w = "done" then endV Y else if S w = "put" then (match r with
   |n :: m :: X=>putV Y n m X
   |_=>.error .row)
  else match kdOf (S w),r with
   |some k,[a,b,t]=>rowV Y k a b t
   |_,_=>.error .row
structure WfQ (c B:Nat) (P:PD):Prop where
 nd:P.ls.Nodup
 rd:∀d∈P.ds,RdOk (P.ls.length:Int) d
 le:P.e≤P.ls.length
 l20:P.ls.length≤20
 d40:P.ds.length≤40
 pc:P.pn.length≤c
 ll:∀x∈P.ls,x.length≤B
theorem WfQ.mono {c c' B B':Nat}{P:PD}(hc:c≤c')(hB:B≤B')(h:WfQ c B P):WfQ c' B' P:=⟨h.nd,h.rd,h.le,h.l20,h.d40,Nat.le_trans h.pc hc,fun x hx=>Nat.le_trans (h.ll x hx) hB⟩
structure WfY (c:Nat) (Y:YS):Prop where
 gr:WfQ c (9*(Y.pa.length+2)) Y.gr
 ge:Y.gr.e=0
 pa:∀nP∈Y.pa,WfQ c (9*(Y.pa.length+1)) nP.2∧1≤nP.2.e
 n20:Y.pa.length≤20
 o20:∀nP,Y.op=some nP→Y.pa.length < 20
 op:∀nP,Y.op=some nP→WfQ c (9*(Y.pa.length+2)) nP.2∧1≤nP.2.e∧nP.1∉Y.pa.map (·.1)
theorem WfY.mono {c c':Nat}{Y:YS}(hc:c≤c')(h:WfY c Y):WfY c' Y:=
 ⟨h.gr.mono hc (Nat.le_refl _),h.ge,fun nP hn=>⟨(h.pa nP hn).1.mono hc (Nat.le_refl _),(h.pa nP hn).2⟩,h.n20,h.o20,fun nP e=>⟨(h.op nP e).1.mono hc (Nat.le_refl _),(h.op nP e).2⟩⟩
theorem WfY.cur {c:Nat}{Y:YS}(h:WfY c Y):WfQ c (9*(Y.pa.length+2)) Y.cur:=by
 unfold YS.cur
 cases e:Y.op with
 |none=>exact h.gr
 |some q=>exact(h.op q e).1
theorem keep_gr {Y:YS}{P:PD}(h:Y.op=none):Y.keep P={ Y with gr:=P }:=by unfold YS.keep;rw[h]
theorem keep_op {Y:YS}{P:PD}{q:Str × PD}(h:Y.op=some q):Y.keep P={ Y with op:=some (q.1,P) }:=by unfold YS.keep;rw[h]
theorem WfY.keep {c:Nat}{Y:YS}{P:PD}(h:WfY c Y)(w:WfQ c (9*(Y.pa.length+2)) P)(e:P.e=Y.cur.e):WfY c (Y.keep P):=by
 cases o:Y.op with
 |none=>
  rw[keep_gr o]
  have ec:Y.cur=Y.gr:=by unfold YS.cur;rw[o]
  exact⟨w,by rw[e,ec];exact h.ge,h.pa,h.n20,h.o20,h.op⟩
 |some q=>
  rw[keep_op o]
  have ec:Y.cur=q.2:=by unfold YS.cur;rw[o]
  obtain⟨_,h2,h3⟩:=h.op q o
  exact⟨h.gr,h.ge,h.pa,h.n20,fun _ _=>h.o20 q o,fun nP e2=>by injection e2 with e2;subst e2;exact⟨w,by show 1≤P.e;rw[e,ec];exact h2,h3⟩⟩
theorem SmY.of {c:Nat}{Y:YS}(h:WfY c Y)(hc:c≤400):SmY Y:=by
 have hg:=h.cur
 have n:=h.n20
 refine⟨Nat.le_trans hg.l20 (by omega),Nat.le_trans hg.d40 (by omega),Nat.le_trans hg.pc (by omega),by omega,fun nP hn=>?_⟩
 obtain⟨w,_⟩:=h.pa nP hn
 exact⟨Nat.le_trans w.l20 (by omega),Nat.le_trans w.d40 (by omega),w.le,fun x hx=>Nat.le_trans (w.ll x hx) (by omega),w.rd⟩
theorem lput_nd {ls:List Str}{x:Str}(h:ls.Nodup):(lput ls x).Nodup:=by
 unfold lput
 by_cases e:x∈ls
 ·rw[if_pos e];exact h
 ·rw[if_neg e]
  exact List.nodup_append.mpr ⟨h,by simp,fun a ha b hb z=>by simp only[List.mem_singleton] at hb;subst hb;subst z;exact e ha⟩
theorem lput_ge (ls:List Str)(x:Str):ls.length≤(lput ls x).length:=by
 unfold lput
 by_cases e:x∈ls
 ·rw[if_pos e];omega
 ·rw[if_neg e];simp
theorem lput_mem {ls:List Str}{x y:Str}:y∈lput ls x↔y∈ls∨y=x:=by
 unfold lput
 by_cases e:x∈ls
 ·rw[if_pos e];exact⟨.inl,fun h=>h.elim id (fun z=>z ▸ e)⟩
 ·rw[if_neg e];simp
theorem lps_nd:∀{labs ls:List Str},ls.Nodup→(lps ls labs).Nodup
 | [],_,h=>h
 |x :: r,ls,h=>lps_nd (labs:=r) (lput_nd h)
theorem lps_ge:∀(labs ls:List Str),ls.length≤(lps ls labs).length
 | [],_=>Nat.le_refl _
 |x :: r,ls=>Nat.le_trans (lput_ge ls x) (lps_ge r (lput ls x))
theorem lps_mem {y:Str}:∀{labs ls:List Str},y∈lps ls labs↔y∈ls∨y∈labs
 | [],ls=>by show y∈ls↔_;simp
 |x :: r,ls=>by
  show y∈lps (lput ls x) r↔_
  rw[lps_mem (labs:=r),lput_mem,List.mem_cons]
  constructor
  ·rintro ((h | h) | h)
   ·exact .inl h
   ·exact .inr (.inl h)
   ·exact .inr (.inr h)
  ·rintro (h | h | h)
   ·exact .inl (.inl h)
   ·exact .inl (.inr h)
   ·exact .inr h
theorem rdok_up {m m':Int}{d:RD}(h:m≤m')(r:RdOk m d):RdOk m' d:=by
 obtain⟨a,b,c,e,f⟩:=r
 exact⟨a,by omega,c,by omega,f⟩
theorem lp2_is (ls:List Str)(a b:List Nat):lp2 ls a b=lput (lput ls (S a)) (S b):=rfl
theorem nmB_len {a:List Nat}(h:nmB a=true):a.length≤8:=by
 unfold nmB at h
 rw[Bool.and_eq_true,decide_eq_true_eq] at h
 exact h.1.2
theorem S_len (a:List Nat):(S a).length=a.length:=by
 first | exact Tx.len_S a | simp[S,Str.length] | rfl
theorem addRow_wf {c B:Nat}{P:PD}{k:Kd}{a b:List Nat}{p:Mq.Q2}(h:WfQ c B P)(hB:8≤B)(ha:nmB a=true)(hb:nmB b=true)(lo:Mq.Low p)(ok:okz k (some p)=true)(bd:Mq.Bd 100 p)(f:fits (addRow P k a b p)):WfQ c B (addRow P k a b p):=by
 obtain⟨f1,f2⟩:=f
 have g1:=Nat.le_trans (lput_ge P.ls (S a)) (lput_ge (lput P.ls (S a)) (S b))
 have la:=nmB_len ha
 have lb:=nmB_len hb
 have ma:S a∈lp2 P.ls a b:=by rw[lp2_is,lput_mem,lput_mem];exact .inl (.inr rfl)
 have mb:S b∈lp2 P.ls a b:=by rw[lp2_is,lput_mem];exact .inr rfl
 have ia:=lIx_lt ma
 have ib:=lIx_lt mb
 refine⟨lput_nd (lput_nd h.nd),fun d hd=>?_,Nat.le_trans h.le g1,f1,f2,h.pc,fun x hx=>?_⟩
 ·rcases List.mem_append.mp hd with hd | hd
  ·exact rdok_up (Int.ofNat_le.mpr g1) (h.rd d hd)
  ·rw[List.mem_singleton] at hd
   subst hd
   exact⟨Int.natCast_nonneg _,Int.ofNat_lt.mpr ia,Int.natCast_nonneg _,Int.ofNat_lt.mpr ib,lo,fun e=>by change k=.pc at e;subst e;exact of_decide_eq_true ok,bd⟩
 ·have hx:x∈lput (lput P.ls (S a)) (S b):=hx
  rw[lput_mem,lput_mem] at hx
  rcases hx with (hx | hx) | hx
  ·exact h.ll x hx
  ·rw[hx,S_len];omega
  ·rw[hx,S_len];omega
theorem inn_len {nm:Str}{e B:Nat}{ls:List Str}(hn:nm.length≤8)(h:∀x∈ls,x.length≤B):∀x∈inn nm e ls,x.length≤B+9:=by
 intro x hx
 obtain⟨z,hz,rfl⟩:=List.mem_map.mp hx
 have:=h z (List.mem_of_mem_drop hz)
 have e1:(nm++"."++z:Str).length=nm.length+1+z.length:=by
  show ((nm.cps++(".":Str).cps)++z.cps).size=_
  rw[Array.size_append,Array.size_append];rfl
 omega
theorem getD_map_lIx {ls labs:List Str}(h:∀x∈labs,x∈ls){i:Nat}(hi:i < labs.length):0≤(labs.map fun x=>(lIx ls x:Int)).getD i 0∧(labs.map fun x=>(lIx ls x:Int)).getD i 0 < (ls.length:Int):=by
 rw[List.getD_eq_getElem?_getD,List.getElem?_map,List.getElem?_eq_getElem hi]
 exact⟨Int.natCast_nonneg _,Int.ofNat_lt.mpr (lIx_lt (h _ (List.getElem_mem hi)))⟩
theorem labs_len (n:List Nat){X:List (List Nat)}{P2:PD}(hX:X.length=P2.e)(le:P2.e≤P2.ls.length):(labsV n X P2).length=P2.ls.length:=by
 unfold labsV inn
 rw[List.length_append,List.length_map,List.length_map,List.length_drop]
 omega
theorem addPut_wf {c c2 B B2:Nat}{P P2:PD}{n:List Nat}{X:List (List Nat)}(h:WfQ c B P)(h2:WfQ c2 B2 P2)(hB:B2+9≤B)(hn:nmB n=true)(hX:X.all nmB=true)(eX:X.length=P2.e)(f:fits (addPut P n X P2)):WfQ (c+1) B (addPut P n X P2):=by
 obtain⟨f1,f2⟩:=f
 have g1:=lps_ge (labsV n X P2) P.ls
 have ln:=nmB_len hn
 have mem:∀x∈labsV n X P2,x∈lps P.ls (labsV n X P2):=fun x hx=>lps_mem.mpr (.inr hx)
 have ll:=labs_len n eX h2.le
 refine⟨lps_nd h.nd,fun d hd=>?_,Nat.le_trans h.le g1,f1,f2,?_,fun x hx=>?_⟩
 ·rcases List.mem_append.mp hd with hd | hd
  ·exact rdok_up (Int.ofNat_le.mpr g1) (h.rd d hd)
  ·obtain⟨r,hr,rfl⟩:=List.mem_map.mp hd
   obtain⟨r1,r2,r3,r4,r5⟩:=h2.rd r hr
   obtain⟨a1,a2⟩:=getD_map_lIx mem (i:=r.2.1.toNat) (by omega)
   obtain⟨b1,b2⟩:=getD_map_lIx mem (i:=r.2.2.1.toNat) (by omega)
   exact⟨a1,a2,b1,b2,r5⟩
 ·show (P.pn++[S n]).length≤c+1
  rw[List.length_append]
  have:=h.pc
  simp only[List.length_cons,List.length_nil]
  omega
 ·have hx:x∈lps P.ls (labsV n X P2):=hx
  rcases lps_mem.mp hx with hx | hx
  ·exact h.ll x hx
  ·rcases List.mem_append.mp hx with hx | hx
   ·obtain⟨z,hz,rfl⟩:=List.mem_map.mp hx
    have:=nmB_len (List.all_eq_true.mp hX z hz)
    rw[S_len]
    omega
   ·have:=inn_len (by rw[S_len];exact ln) h2.ll x hx
    omega
def ErX (CR' CM CU CZ CT:Addr):Er→Addr
 | .row=>CR'
 | .name=>CM
 | .num=>CU
 | .size=>CZ
 | .many=>CT
def AftT (CY CP CR' CM CU CZ CT:Addr)(K:PySem.W.Frag)(av:List Addr)(y d:Addr)(H:Hp)(Q:VK)(E:XK):Except Er YS→Prop
 | .ok Y'=>∀H',SYd y d H H'→YG CY CP K av H' y d Y'→Q .non H'
 | .error e=>∀H',Same H H'→E (.ref (ErX CR' CM CU CZ CT e)) none H'
section
variable {CY CP CR' CM CU CZ CT y d:Addr} {av:List Addr} {H:Hp} {Q:VK} {E:XK} {Y:YS}
theorem beg_of {n:List Nat}{X:List (List Nat)}(h:AftT CY CP CR' CM CU CZ CT K av y d H Q E (begV Y n X)):BegG CY CP CR' CM CT K av y d Y n X H Q E:=by
 unfold begV at h
 cases o:Y.op with
 |some q=>
  rw[o] at h
  have nn:¬Y.op=none:=by rw[o];exact fun z=>by cases z
  exact⟨fun _=>h,fun z=>absurd z nn,fun z=>absurd z nn,fun z=>absurd z nn,fun z=>absurd z nn⟩
 |none=>
  rw[o] at h
  refine⟨fun z=>absurd o z,fun _ a=>?_,fun _ a b=>?_,fun _ a b c e=>?_,fun _ a b c e f=>?_⟩
  ·dsimp only at h
   rw[if_pos a] at h;exact h
  ·dsimp only at h
   rw[if_neg (by rw[a];exact fun z=>by cases z),if_pos b] at h;exact h
  ·dsimp only at h
   rw[if_neg (by rw[a];exact fun z=>by cases z),if_neg (fun z=>z.elim (fun z=>z b) c),if_pos e] at h;exact h
  ·dsimp only at h
   rw[if_neg (by rw[a];exact fun z=>by cases z),if_neg (fun z=>z.elim (fun z=>z b) c),if_neg (by omega)] at h;exact h
theorem end_of {c:Nat}(W:WfY c Y)(h:AftT CY CP CR' CM CU CZ CT K av y d H Q E (endV Y)):EndG CY CP CR' K av y d Y H Q E:=by
 unfold endV at h
 cases o:Y.op with
 |none=>
  rw[o] at h
  exact⟨fun _=>h,fun n P z=>by rw[o] at z;cases z⟩
 |some q=>
  rw[o] at h
  refine⟨fun z=>absurd (o.symm.trans z) (fun z=>by cases z),fun n P z=>?_⟩
  rw[o] at z
  injection z with z
  subst z
  exact⟨(W.op _ o).2.2,h⟩
theorem fit_of {P:PD}(h:AftT CY CP CR' CM CU CZ CT K av y d H Q E (fitV Y P)):(fits P→∀H',SYd y d H H'→YG CY CP K av H' y d (Y.keep P)→Q .non H')∧(¬fits P→∀H',Same H H'→E (.ref CT) none H'):=by
 unfold fitV at h
 constructor
 ·intro f
  rw[if_pos f] at h
  exact h
 ·intro f
  rw[if_neg f] at h
  exact h
theorem row_of {c:Nat}{k:Kd}{a b t:List Nat}(W:WfY c Y)(h:AftT CY CP CR' CM CU CZ CT K av y d H Q E (rowV Y k a b t)):ERowG CY CP CM CU CZ CT K av y d Y k a b t H Q E:=by
 unfold rowV at h
 refine⟨fun e=>?_,fun e no=>?_,fun e p wr ok=>?_,fun e p wr ok i j P' hi hj eP=>?_⟩
 ·rw[if_pos e] at h;exact h
 ·rw[if_neg (by rw[e];exact fun z=>by cases z),rdV_none no] at h;exact h
 ·rw[if_neg (by rw[e];exact fun z=>by cases z),rdV_some wr] at h
  dsimp only at h
  rw[if_pos ok] at h;exact h
 ·rw[if_neg (by rw[e];exact fun z=>by cases z),rdV_some wr] at h
  dsimp only at h
  rw[if_neg (by rw[ok];exact fun z=>by cases z)] at h
  have nd:(lp2 Y.cur.ls a b).Nodup:=lput_nd (lput_nd W.cur.nd)
  have e1:=lIx_eq nd hi
  have e2:=lIx_eq nd hj
  have eP2:P'=addRow Y.cur k a b p:=by rw[eP,e1,e2];rfl
  rw[eP2]
  exact fit_of h
theorem put_of {c:Nat}{n m:List Nat}{X:List (List Nat)}(W:WfY c Y)(h:AftT CY CP CR' CM CU CZ CT K av y d H Q E (putV Y n m X)):EPutG CY CP CM CT K av y d Y n m X H Q E:=by
 unfold putV at h
 refine⟨fun e=>?_,fun e no=>?_,fun e nn P hP hX sp P' hs eP=>?_⟩
 ·rw[if_pos e] at h;exact h
 ·rw[if_neg (by rw[e];exact fun z=>by cases z)] at h
  by_cases c1:S n∈Y.cur.pn
  ·rw[if_pos c1] at h;exact h
  ·rw[if_neg c1] at h
   rcases no with no | no | ⟨P,hP,hX⟩
   ·exact absurd no c1
   ·rw[no] at h;exact h
   ·rw[hP] at h
    dsimp only at h
    rw[if_pos hX] at h;exact h
 ·rw[if_neg (by rw[e];exact fun z=>by cases z),if_neg nn,hP] at h
  dsimp only at h
  rw[if_neg (fun z=>z hX)] at h
  have nd:(lps Y.cur.ls (labsV n X P)).Nodup:=lps_nd W.cur.nd
  have es:=spAt_eq nd hs
  have eP2:P'=addPut Y.cur n X P:=by rw[eP,es];rfl
  rw[eP2]
  exact fit_of h
theorem kdOf_wd (k:Kd):kdOf k.wd=some k:=by cases k<;>decide +kernel
theorem kdOf_some {w:Str}{k:Kd}(h:kdOf w=some k):w=k.wd:=by
 unfold kdOf at h
 split at h
 ·injection h with h;subst h;assumption
 ·split at h
  ·injection h with h;subst h;assumption
  ·split at h
   ·injection h with h;subst h;assumption
   ·cases h
theorem form_row {w:Str}{n:Int}(h:¬formM w n=false)(n1:w≠"part")(n2:w≠"done")(n3:w≠"put"):(∃k,kdOf w=some k)∧n=4:=by
 unfold formM at h
 by_cases c:w∈rowW
 ·rw[if_pos c,decide_eq_false_iff_not,Classical.not_not] at h
  refine⟨?_,h⟩
  unfold rowW at c
  simp only[List.mem_cons,List.not_mem_nil,or_false] at c
  rcases c with c | c | c
  ·exact⟨.pc,c ▸ kdOf_wd .pc⟩
  ·exact⟨.pu,c ▸ kdOf_wd .pu⟩
  ·exact⟨.ho,c ▸ kdOf_wd .ho⟩
 ·rw[if_neg c,if_neg n1,if_neg n3,decide_eq_false n2] at h
  exact absurd rfl h
theorem form_part {n:Int}(h:¬formM "part" n=false):3≤n:=by
 unfold formM at h
 rw[if_neg (by decide +kernel),if_pos rfl,decide_eq_false_iff_not,Classical.not_not] at h
 exact h
theorem form_put {n:Int}(h:¬formM "put" n=false):4≤n:=by
 unfold formM at h
 rw[if_neg (by decide +kernel),if_neg (by decide +kernel),if_pos rfl,decide_eq_false_iff_not,Classical.not_not] at h
 exact h
theorem form_done {n:Int}(h:¬formM "done" n=false):n=1:=by
 unfold formM at h
 rw[if_neg (by decide +kernel),if_neg (by decide +kernel),if_neg (by decide +kernel)] at h
 by_cases e:n=1
 ·exact e
 ·rw[decide_eq_false e,Bool.and_false] at h
  exact absurd rfl h
inductive TVs (Y:YS):List (List Nat)→Except Er YS→Prop where
 |no {w:List Nat} {r:List (List Nat)} (f:formM (S w) ((r.length:Int)+1)=false):TVs Y (w :: r) (.error .row)
 |part {w n:List Nat} {X:List (List Nat)} (ew:S w = "part") (lx:1≤X.length):TVs Y (w :: n :: X) (begV Y n X)
 |done {w:List Nat} (ew:S w = "done"):TVs Y [w] (endV Y)
 |put {w n m:List Nat} {X:List (List Nat)} (ew:S w = "put") (lx:1≤X.length):TVs Y (w :: n :: m :: X) (putV Y n m X)
 |row {w a b t:List Nat} {k:Kd} (ew:S w=k.wd):TVs Y [w,a,b,t] (rowV Y k a b t)
theorem tvs (Y:YS):∀{ws:List (List Nat)},ws≠[]→TVs Y ws (tV Y ws)
 | [],h=>absurd rfl h
 |w :: r,_=>by
  by_cases f:formM (S w) ((r.length:Int)+1)=false
  ·have:tV Y (w :: r)=.error .row:=by unfold tV;dsimp only;rw[if_pos f]
   rw[this];exact .no f
  by_cases e1:S w = "part"
  ·rw[e1] at f
   have:=form_part f
   match r,f,this with
   | [],_,h=>simp at h
   |n :: X,f,h=>
    have:tV Y (w :: n :: X)=begV Y n X:=by unfold tV;dsimp only;rw[if_neg (show ¬formM (S w) _=false by rw[e1];exact f),if_pos e1]
    rw[this];exact .part e1 (by simp only[List.length_cons] at h;omega)
  by_cases e2:S w = "done"
  ·rw[e2] at f
   have:=form_done f
   match r,f,this with
   | [],f,_=>
    have:tV Y [w]=endV Y:=by unfold tV;dsimp only;rw[if_neg (show ¬formM (S w) _=false by rw[e2];exact f),if_neg e1,if_pos e2]
    rw[this];exact .done e2
   |n :: X,_,h=>simp only[List.length_cons] at h;omega
  by_cases e3:S w = "put"
  ·rw[e3] at f
   have:=form_put f
   match r,f,this with
   | [],_,h=>simp at h
   | [_],_,h=>simp at h
   |n :: m :: X,f,h=>
    have:tV Y (w :: n :: m :: X)=putV Y n m X:=by unfold tV;dsimp only;rw[if_neg (show ¬formM (S w) _=false by rw[e3];exact f),if_neg e1,if_neg e2,if_pos e3]
    rw[this];exact .put e3 (by simp only[List.length_cons] at h;omega)
  ·obtain⟨⟨k,hk⟩,h4⟩:=form_row f e1 e2 e3
   match r,f,h4 with
   | [a,b,t],f,_=>
    have:tV Y [w,a,b,t]=rowV Y k a b t:=by unfold tV;dsimp only;rw[if_neg f,if_neg e1,if_neg e2,if_neg e3,hk]
    rw[this];exact .row (kdOf_some hk)
   | [],_,h=>simp at h
   | [_],_,h=>simp at h
   | [_,_],_,h=>simp at h
   |_ :: _ :: _ :: _ :: _,_,h=>simp only[List.length_cons] at h;omega
abbrev BdW (ws:List (List Nat)):Prop:=∀w a b t,ws=[w,a,b,t]→∀p,Wr p t→Mq.Bd 100 p
theorem tell_of {c:Nat}{ws:List (List Nat)}(W:WfY c Y)(hw:ws≠[])(hl:ws.length≤100)(bd:BdW ws)(h:AftT CY CP CR' CM CU CZ CT K av y d H Q E (tV Y ws)):TellG CY CP CR' CM CU CZ CT K av y d Y H Q E ws:=by
 have v:=tvs Y hw
 generalize tV Y ws=r at h v
 cases v with
 |no f=>exact .no f h
 |part ew lx=>exact .part ew lx (by simp only[List.length_cons] at hl;omega) (beg_of h)
 |done ew=>exact .done ew (end_of W h)
 |put ew lx=>exact .put ew lx (by simp only[List.length_cons] at hl;omega) (put_of W h)
 |row ew=>exact .row ew (bd _ _ _ _ rfl) (row_of W h)
theorem fitV_ok {P:PD}{Y':YS}(h:fitV Y P=.ok Y'):fits P∧Y'=Y.keep P:=by
 unfold fitV at h
 by_cases f:fits P
 ·rw[if_pos f] at h
  injection h with h
  exact⟨f,h.symm⟩
 ·rw[if_neg f] at h
  cases h
theorem partOf_mem {pa:List (Str × PD)}{n:Str}{P:PD}(h:partOf pa n=some P):∃nP∈pa,nP.2=P:=by
 unfold partOf at h
 obtain⟨q,hq,rfl⟩:=Option.map_eq_some_iff.mp h
 exact⟨q,List.mem_of_find?_eq_some hq,rfl⟩
theorem tV_wf {c:Nat}{ws:List (List Nat)}{Y':YS}(W:WfY c Y)(hw:ws≠[])(bd:BdW ws)(h:tV Y ws=.ok Y'):WfY (c+1) Y':=by
 have v:=tvs Y hw
 rw[h] at v
 generalize er:Except.ok Y'=r at v
 cases v with
 |no f=>cases er
 | @part w n X ew lx=>
  unfold begV at er
  cases o:Y.op with
  |some q=>rw[o] at er;cases er
  |none=>
   rw[o] at er
   dsimp only at er
   split at er
   ·cases er
   ·rename_i c1
    split at er
    ·cases er
    ·rename_i c2
     split at er
     ·cases er
     ·rename_i c3
      injection er with er
      subst er
      have W':=W.mono (Nat.le_succ c)
      have al:(n :: X).all nmB=true:=by cases e:(n :: X).all nmB with | true=>rfl | false=>exact absurd e c1
      have c2':(X.map S).Nodup∧S n∉Y.pa.map (·.1):=⟨Classical.byContradiction fun z=>c2 (.inl z),fun z=>c2 (.inr z)⟩
      refine⟨W'.gr,W'.ge,W'.pa,W'.n20,fun _ _=>by show Y.pa.length < 20;omega,fun nP e=>?_⟩
      injection e with e
      subst e
      refine⟨⟨c2'.1,fun d hd=>(by cases hd),by show X.length≤(X.map S).length;rw[List.length_map];omega,by show (X.map S).length≤20;rw[List.length_map];omega,by show 0≤40;decide,by show 0≤c+1;omega,fun x hx=>?_⟩,lx,c2'.2⟩
      obtain⟨z,hz,rfl⟩:=List.mem_map.mp hx
      have:=nmB_len (List.all_eq_true.mp al z (List.mem_cons_of_mem _ hz))
      rw[S_len]
      show z.length≤9*(Y.pa.length+2)
      omega
 |done ew=>
  unfold endV at er
  cases o:Y.op with
  |none=>rw[o] at er;cases er
  |some q=>
   rw[o] at er
   injection er with er
   subst er
   have W':=W.mono (Nat.le_succ c)
   obtain⟨w1,w2,w3⟩:=W'.op q o
   have lt:=W.o20 q o
   have len:(Y.pa++[q]).length=Y.pa.length+1:=by simp
   refine⟨W'.gr.mono (Nat.le_refl _) (by show 9*(Y.pa.length+2)≤9*((Y.pa++[q]).length+2);omega),W'.ge,fun nP hn=>?_,by show (Y.pa++[q]).length≤20;omega,fun _ z=>(by cases z),fun _ z=>(by cases z)⟩
   rcases List.mem_append.mp hn with hn | hn
   ·exact⟨(W'.pa nP hn).1.mono (Nat.le_refl _) (by show 9*(Y.pa.length+1)≤9*((Y.pa++[q]).length+1);omega),(W'.pa nP hn).2⟩
   ·rw[List.mem_singleton] at hn
    subst hn
    exact⟨w1.mono (Nat.le_refl _) (by show 9*(Y.pa.length+2)≤9*((Y.pa++[nP]).length+1);rw[List.length_append];simp only[List.length_cons,List.length_nil];omega),w2⟩
 | @put w n m X ew lx=>
  unfold putV at er
  split at er
  ·cases er
  ·rename_i c1
   split at er
   ·cases er
   ·split at er
    ·cases er
    ·rename_i P hP
     split at er
     ·cases er
     ·rename_i c3
      obtain⟨f,rfl⟩:=fitV_ok er.symm
      have al:(n :: m :: X).all nmB=true:=by cases e:(n :: m :: X).all nmB with | true=>rfl | false=>exact absurd e c1
      have al:=List.all_eq_true.mp al
      obtain⟨nP,hn,rfl⟩:=partOf_mem hP
      have eX:X.length=nP.2.e:=Classical.byContradiction c3
      have w:=addPut_wf W.cur (W.pa nP hn).1 (by omega) (al n (by simp)) (List.all_eq_true.mpr fun x hx=>al x (by simp[hx])) eX f
      exact(W.mono (Nat.le_succ c)).keep w rfl
 | @row w a b t k ew=>
  unfold rowV at er
  split at er
  ·cases er
  ·rename_i c1
   split at er
   ·cases er
   ·rename_i p hp
    split at er
    ·cases er
    ·rename_i c3
     obtain⟨f,rfl⟩:=fitV_ok er.symm
     have al:nmB a=true∧nmB b=true:=by
      cases e:nmB a<;>cases e':nmB b<;>simp[e,e'] at c1 ⊢
     have wr:=rdV_wr hp
     have w:=addRow_wf W.cur (by omega) al.1 al.2 wr.low (by cases e:okz k (some p) with | true=>rfl | false=>exact absurd e c3) (bd _ _ _ _ rfl p wr) f
     exact(W.mono (Nat.le_succ c)).keep (w.mono (Nat.le_succ c) (Nat.le_refl _)) rfl
end
noncomputable def fV (Y:YS):List (List (List Nat))→Except Er YS
 | []=>.ok Y
 |ws :: r=>match tV Y ws with
  | .ok Y'=>fV Y' r
  | .error e=>.error e
def Y0:YS:=⟨⟨[],0,[],[]⟩,[],none⟩
theorem wf0:WfY 0 Y0:=⟨⟨.nil,fun d h=>(by cases h),Nat.le_refl _,by show 0≤20;decide,by show 0≤40;decide,Nat.le_refl _,fun x h=>(by cases h)⟩,rfl,fun nP h=>(by cases h),by show 0≤20;decide,fun nP h=>(by cases h),fun nP h=>(by cases h)⟩
theorem fV_cons {Y Y':YS}{ws:List (List Nat)}{r:List (List (List Nat))}(h:fV Y (ws :: r)=.ok Y'):∃Y1,tV Y ws=.ok Y1∧fV Y1 r=.ok Y':=by
 unfold fV at h
 cases e:tV Y ws with
 |error x=>rw[e] at h;cases h
 |ok Y1=>rw[e] at h;exact⟨Y1,rfl,h⟩
structure TxOk (ws:List (List Nat)):Prop where
 ne:ws≠[]
 s32:∀z∈ws,32∉z
 s10:10∉jnc 32 ws
 ln:∀z∈ws,z.length≤1000
 wl:ws.length≤100
 jl:(jnc 32 ws).length≤1000000
 bd:BdW ws
end
end K84
namespace L2
open PySem PySem.Spec PyProof.Rows PySem.Builtin.Str PySem.SeqAt
variable {X:Cx}
def rJoin (K:PySem.W.Frag):V→List V→Hp→VK→Prop:=fun x vs H Q=>∃(a:Str) (p:Addr) (ns:List Str),x=.str a∧vs=[.ref p]∧SqL K H p (ns.map V.str)∧(ns.map (·.length)).sum+ns.length*a.length≤1000000∧Q (.str (Str.join a ns)) H
theorem strs_of:∀{ns:List Str} {us:List Value},Vals (ns.map V.str) us→∃l:List (Str × Tok),l.map (·.1)=ns∧strValues l=us
 | [],_,.nil=>⟨[],rfl,rfl⟩
 |n :: ns,_,.cons ⟨t,e⟩ q=>by
  obtain⟨l,h1,h2⟩:=strs_of q
  exact⟨(n,t) :: l,by rw[List.map_cons,h1],by subst e;rw[← h2];rfl⟩
theorem mt_join:MtR X "str.join" (rJoin X.K):=by
 intro pins s σ H x xs v us Q I rx rv h
 obtain⟨a,p,ns,rfl,rfl,hq,hz,q⟩:=h
 obtain⟨t,rfl⟩:=rx
 obtain⟨u,rfl,e⟩:=vals1 rv
 cases e
 obtain⟨its,r,pl,_⟩:=I.list hq
 obtain⟨l,h1,h2⟩:=strs_of r
 subst h2
 have hs:sizeLine=16777216:=sizeLine_eq
 refine SC.join (l:=l) (texts:=ns) pl.isList h1 ?_ fun t' k=>⟨.str (Str.join a ns),H,I.tok _,⟨t',?_⟩,q⟩
 ·unfold JoinOk
  rw[StrLaws.joinTotal]
  rw[Bool.not_eq_true']
  unfold tooLong
  first | exact decide_eq_false (by omega) | (simp;omega)
 ·show Value.str (Txt.join a ns) t'=_
  rw[show Txt.join a ns=Str.join a ns from StrLaws.glued_eq_join ..]
theorem S_jnc (c:Nat)(xs:List (List Nat)):Str.join ⟨#[c]⟩ (xs.map Tx.S)=Tx.S (jnc c xs):=by
 have h:=join_jnc c (xs.map Tx.S)
 rw[List.map_map] at h
 have e:(xs.map ((fun x:Str=>x.cps.toList) ∘ Tx.S))=xs:=by
  conv=>rhs;rw[← List.map_id xs]
  exact List.map_congr_left fun y _=>Tx.S_list y
 rw[e] at h
 rw[← h]
 exact Tx.S_self _
end L2
namespace K84
open PySem L2 Tx
section
variable {P:Program} {w:World} {K:PySem.W.Frag} {mg:Str→Option Value} {base:Heap} {f g1 g2 g3 g4 g5 g6 g7 g8:Addr} {fd gd1 gd2 gd3 gd4 gd5 gd6 gd7 gd8:FuncData} {CX:CXT}
theorem gc_one (t:Int):Mq.gc t 1=1:=by unfold Mq.gc;rw[Int.gcd_one];rfl
theorem one_gc (t:Int):Mq.gc 1 t=1:=by unfold Mq.gc;rw[Int.one_gcd];rfl
theorem okz_pp {k:Kd}{p:Mq.Q2}(h:k=.pc→0 < p.1):okz k (some p)=true:=by cases k<;>first | exact decide_eq_true (h rfl) | rfl
theorem wr_bd {p:Mq.Q2}{t:List Nat}(h:Wr p t)(l:t.length≤28):Mq.Bd 100 p:=by
 have ge:∀i:Int,(dg i.natAbs).length≤(itx i).length:=fun i=>by unfold itx;split<;>simp
 have l1:(itx p.1).length≤t.length:=by rw[h.txt];unfold shw;split<;>simp
 have k:∀n:Nat,n < 10 ^ 28→n < 2 ^ 100:=fun n hn=>Nat.lt_trans hn (by decide)
 have b1:p.1.natAbs < 10 ^ 28:=(dg_len (by decide)).mp (Nat.le_trans (ge p.1) (by omega))
 have b2:p.2.natAbs < 10 ^ 28:=by
  by_cases e:p.2=1
  ·rw[e];decide
  ·have l2:(itx p.2).length≤t.length:=by rw[h.txt];unfold shw;rw[if_neg e];simp;omega
   exact(dg_len (by decide)).mp (Nat.le_trans (ge p.2) (by omega))
 exact⟨k _ b1,k _ b2⟩
def wdC:Kd→List Nat
 | .pc=>[112,105,101,99,101]
 | .pu=>[112,117,115,104]
 | .ho=>[104,111,108,100]
theorem wdC_S (k:Kd):S (wdC k)=k.wd:=by cases k<;>decide +kernel
theorem wdC_no (k:Kd):32∉wdC k∧10∉wdC k∧(wdC k).length≤5:=by cases k<;>decide
section
variable {Y:YS}
theorem tV_row {k:Kd}{a b t:List Nat}:tV Y [wdC k,a,b,t]=rowV Y k a b t:=by
 obtain⟨n1,n2,n3⟩:=kd_no k
 have f:¬formM k.wd ((([a,b,t]:List (List Nat)).length:Int)+1)=false:=by unfold formM;rw[if_pos (kd_row k)];exact fun z=>by cases z
 unfold tV
 dsimp only
 rw[wdC_S,if_neg f,if_neg n1,if_neg n3,if_neg n2,kdOf_wd]
theorem S_put:S [112,117,116] = "put":=by decide +kernel
theorem S_part:S [112,97,114,116] = "part":=by decide +kernel
theorem S_done:S [100,111,110,101] = "done":=by decide +kernel
theorem tV_put {n m x:List Nat}{X:List (List Nat)}:tV Y ([112,117,116] :: n :: m :: x :: X)=putV Y n m (x :: X):=by
 have f:¬formM "put" (((n :: m :: x :: X).length:Int)+1)=false:=by
  unfold formM
  rw[if_neg (by decide +kernel),if_neg (by decide +kernel),if_pos rfl,decide_eq_true (by simp only[List.length_cons];omega)]
  exact fun z=>by cases z
 unfold tV
 dsimp only
 rw[S_put,if_neg f,if_neg (by decide +kernel),if_neg (by decide +kernel),if_pos rfl]
theorem tV_part {n x:List Nat}{X:List (List Nat)}:tV Y ([112,97,114,116] :: n :: x :: X)=begV Y n (x :: X):=by
 have f:¬formM "part" (((n :: x :: X).length:Int)+1)=false:=by
  unfold formM
  rw[if_neg (by decide +kernel),if_pos rfl,decide_eq_true (by simp only[List.length_cons];omega)]
  exact fun z=>by cases z
 unfold tV
 dsimp only
 rw[S_part,if_neg f,if_pos rfl]
theorem tV_done:tV Y [[100,111,110,101]]=endV Y:=by
 have f:¬formM "done" ((([]:List (List Nat)).length:Int)+1)=false:=by decide +kernel
 unfold tV
 dsimp only
 rw[S_done,if_neg f,if_neg (by decide +kernel),if_pos rfl]
theorem rowV_ok {k:Kd}{a b t:List Nat}{p:Mq.Q2}(hn:(nmB a && nmB b)=true)(wr:Wr p t)(ok:okz k (some p)=true)(f:fits (addRow Y.cur k a b p)):rowV Y k a b t=.ok (Y.keep (addRow Y.cur k a b p)):=by
 unfold rowV
 rw[if_neg (by rw[hn];exact fun z=>by cases z),rdV_some wr]
 dsimp only
 rw[if_neg (by rw[ok];exact fun z=>by cases z)]
 unfold fitV
 rw[if_pos f]
theorem putV_ok {n m:List Nat}{X:List (List Nat)}{P:PD}(hn:(n :: m :: X).all nmB=true)(nn:S n∉Y.cur.pn)(hP:partOf Y.pa (S m)=some P)(eX:X.length=P.e)(f:fits (addPut Y.cur n X P)):putV Y n m X=.ok (Y.keep (addPut Y.cur n X P)):=by
 unfold putV
 rw[if_neg (by rw[hn];exact fun z=>by cases z),if_neg nn,hP]
 dsimp only
 rw[if_neg (fun z=>z eX)]
 unfold fitV
 rw[if_pos f]
theorem begV_ok {n:List Nat}{X:List (List Nat)}(ho:Y.op=none)(hn:(n :: X).all nmB=true)(nd:(X.map S).Nodup)(nn:S n∉Y.pa.map (·.1))(h1:Y.pa.length < 20)(h2:X.length≤20):begV Y n X=.ok { Y with op:=some (S n,⟨X.map S,X.length,[],[]⟩) }:=by
 unfold begV
 rw[ho]
 dsimp only
 rw[if_neg (by rw[hn];exact fun z=>by cases z),if_neg (fun z=>z.elim (fun z=>z nd) nn),if_neg (by omega)]
theorem fV_step {Y1:YS}{ws:List (List Nat)}{r:List (List (List Nat))}(h:tV Y ws=.ok Y1):fV Y (ws :: r)=fV Y1 r:=by
 show (match tV Y ws with | .ok Y'=>fV Y' r | .error e=>.error e)=_
 rw[h]
theorem fV_app {Y2:YS}{ws:List (List Nat)}:∀{A:List (List (List Nat))} {Y Y1:YS},fV Y A=.ok Y1→tV Y1 ws=.ok Y2→fV Y (A++[ws])=.ok Y2
 | [],Y,Y1,h,h2=>by
  have:Y=Y1:=by unfold fV at h;injection h
  subst this
  exact(fV_step h2).trans rfl
 |a :: A,Y,Y1,h,h2=>by
  obtain⟨Y3,h3,h4⟩:=fV_cons h
  exact(fV_step h3).trans (fV_app h4 h2)
end
theorem wr1 {d:Nat}(h:d < 10):Wr ((d:Int),1) [48+d]:=⟨⟨by show (0:Int) < 1;decide,by show Mq.gc (d:Int) 1=1;exact gc_one _⟩,by
  show [48+d]=shw ((d:Int),1)
  unfold shw
  rw[if_pos rfl]
  show [48+d]=itx (d:Int)
  rw[itx_pos (by omega),show ((d:Int)).natAbs=d by omega]
  have:∀d:Fin 10,[48+d.val]=dg d.val:=by decide
  exact this ⟨d,h⟩,by show ((d:Int)).natAbs < 10 ^ 200;exact Nat.lt_of_lt_of_le (show ((d:Int)).natAbs < 10 ^ 1 by omega) (Nat.pow_le_pow_right (by decide) (show 1≤200 by decide)),by show 1 < 10 ^ 200;exact Nat.lt_of_lt_of_le (by decide) (Nat.pow_le_pow_right (by decide) (show 1≤200 by decide))⟩
theorem bdw {ws:List (List Nat)}(h:∀z∈ws,z.length≤28):BdW ws:=fun w a b t e p wr=>wr_bd wr (h t (by rw[e];simp))
theorem ok_all {k:Kd}{p:Mq.Q2}(h:0 < p.1):okz k (some p)=true:=okz_pp fun _=>h
theorem tx_of {ws:List (List Nat)}(h0:ws≠[])(h:∀z∈ws,32∉z∧10∉z∧z.length≤28)(hl:ws.length≤10):TxOk ws:=by
 have j10:∀xs:List (List Nat),(∀z∈xs,10∉z)→10∉jnc 32 xs∧(jnc 32 xs).length≤(xs.map (·.length+1)).sum:=by
  intro xs
  induction xs with
  |nil=>intro _;exact⟨by simp[jnc],by simp[jnc]⟩
  |cons x r ih=>
   intro h
   obtain⟨i1,i2⟩:=ih fun z hz=>h z (List.mem_cons_of_mem _ hz)
   cases r with
   |nil=>exact⟨h x (by simp),by simp[jnc]⟩
   |cons y r=>
    constructor
    ·show 10∉x++32 :: jnc 32 (y :: r)
     simp only[List.mem_append,List.mem_cons,not_or]
     exact⟨h x (by simp),by decide,i1⟩
    ·show (x++32 :: jnc 32 (y :: r)).length≤_
     rw[List.map_cons,List.sum_cons,List.length_append,List.length_cons]
     omega
 obtain⟨b1,b2⟩:=j10 ws fun z hz=>(h z hz).2.1
 have b3:∀xs:List (List Nat),(∀z∈xs,z.length≤28)→(xs.map (·.length+1)).sum≤29*xs.length:=by
  intro xs
  induction xs with
  |nil=>intro _;simp
  |cons x r ih=>
   intro h
   have i1:=ih fun z hz=>h z (List.mem_cons_of_mem _ hz)
   have i2:=h x (by simp)
   rw[List.map_cons,List.sum_cons,List.length_cons]
   omega
 have b4:=b3 ws fun z hz=>(h z hz).2.2
 exact⟨h0,fun z hz=>(h z hz).1,b1,fun z hz=>by have:=(h z hz).2.2;omega,by omega,by omega,bdw fun z hz=>(h z hz).2.2⟩
theorem tx_row {k:Kd}{a b t:List Nat}(h:∀z∈[a,b,t],32∉z∧10∉z∧z.length≤28):TxOk [wdC k,a,b,t]:=by
 obtain⟨w1,w2,w3⟩:=wdC_no k
 refine tx_of (by simp) (fun z hz=>?_) (by show 4≤10;decide)
 rcases List.mem_cons.mp hz with rfl | hz
 ·exact⟨w1,w2,by omega⟩
 ·exact h z hz
def txts (wss:List (List (List Nat))):List Str:=wss.map fun ws=>S (jnc 32 ws)
theorem txts_app (a b:List (List (List Nat))):txts (a++b)=txts a++txts b:=by unfold txts;rw[List.map_append]
theorem len2 (x y:Str):(x++y).length=x.length+y.length:=by
 show (x.cps++y.cps).size=_
 rw[Array.size_append];rfl
theorem at3 {r:Int}(h0:0≤r)(h3:r < 3):∃k:Kd,atI [V.str "piece",.str "push",.str "hold"] r=some (.str k.wd):=by
 have:r=0∨r=1∨r=2:=by omega
 rcases this with rfl | rfl | rfl
 ·exact⟨.pc,rfl⟩
 ·exact⟨.pu,rfl⟩
 ·exact⟨.ho,rfl⟩
theorem jnc_le (c:Nat):∀xs:List (List Nat),(jnc c xs).length≤(xs.map (·.length)).sum+xs.length
 | []=>by simp[jnc]
 | [x]=>by simp[jnc]
 |x :: y :: r=>by
  have:=jnc_le c (y :: r)
  show (x++c :: jnc c (y :: r)).length≤_
  rw[List.map_cons,List.sum_cons,List.length_append,List.length_cons,List.length_cons]
  omega
theorem strs_dat {K:PySem.W.Frag}{H:Hp}:∀ls:List Str,DatVs K H (ls.map V.str) (ls.map PyData.str)
 | []=>.nil
 |x :: r=>.cons (.str x) (strs_dat r)
theorem strs_lay:∀{ls:List Str},(∀x∈ls,PyData.canLay0 (.str x)=true)→PyData.canLayAll0 (ls.map PyData.str)=true
 | [],_=>rfl
 |x :: r,h=>by
  show (PyData.canLay0 (.str x) && PyData.canLayAll0 (r.map PyData.str))=true
  rw[strs_lay fun y hy=>h y (List.mem_cons_of_mem _ hy),h x (by simp)]
  rfl
theorem strs_depth:∀ls:List Str,PyData.depthAll (ls.map PyData.str)≤1
 | []=>by simp[PyData.depthAll]
 |x :: r=>by
  have b:=strs_depth r
  simp only[List.map_cons,PyData.depthAll,PyData.depth] at b ⊢
  omega
theorem ix_listK {X:Cx}{K:PySem.W.Frag}(h:X.K=K):IxR X (rIxL K):=by subst h;exact ix_list
inductive It where
 |row (k:Kd) (a b:List Nat) (p:Mq.Q2)
 |put (n:List Nat) (w:Nat) (X:List (List Nat))
def addIt (PS:List PD)(P:PD):It→PD
 | .row k a b p=>addRow P k a b p
 | .put n w X=>addPut P n X (PS.getD w ⟨[],0,[],[]⟩)
def plan (PS:List PD)(P:PD)(its:List It):PD:=its.foldl (addIt PS) P
theorem plan_snoc (PS:List PD)(P:PD)(its:List It)(it:It):plan PS P (its++[it])=addIt PS (plan PS P its) it:=by unfold plan;rw[List.foldl_append];rfl
theorem lps_app (ls A B:List Str):lps ls (A++B)=lps (lps ls A) B:=by unfold lps;rw[List.foldl_append]
theorem lps_old:∀{L ls:List Str},(∀x∈L,x∈ls)→lps ls L=ls
 | [],ls,_=>rfl
 |x :: r,ls,h=>by
  show lps (lput ls x) r=_
  rw[show lput ls x=ls from if_pos (h x (by simp))]
  exact lps_old fun z hz=>h z (List.mem_cons_of_mem _ hz)
theorem lps_map1 (F:Str→Str)(N L:List Str)(x:Str):lps N ((lput L x).map F)=lput (lps N (L.map F)) (F x):=by
 by_cases h:x∈L
 ·rw[show lput L x=L from if_pos h]
  exact(if_pos (lps_mem.mpr (.inr (List.mem_map.mpr ⟨x,h,rfl⟩)))).symm
 ·rw[show lput L x=L++[x] from if_neg h,List.map_append]
  exact lps_snoc _ _ _
theorem lps_mapL (F:Str→Str)(N:List Str):∀(labs L:List Str),lps N ((lps L labs).map F)=lps (lps N (L.map F)) (labs.map F)
 | [],_=>rfl
 |x :: r,L=>by
  show lps N ((lps (lput L x) r).map F)=lps (lput (lps N (L.map F)) (F x)) (r.map F)
  rw[lps_mapL F N r (lput L x),lps_map1]
abbrev LD:=Kd × Str × Str × Mq.Q2
def fl (L:List Str)(F:Str→Str)(d:RD):LD:=(d.1,F (L.getD d.2.1.toNat ""),F (L.getD d.2.2.1.toNat ""),d.2.2.2)
theorem getD_of {L:List Str}{i:Nat}{x:Str}(h:L[i]?=some x):L.getD i ""=x:=by rw[List.getD_eq_getElem?_getD,h];rfl
theorem fl_keep {L:List Str}{F:Str→Str}{d:RD}(labs:List Str)(r:RdOk (L.length:Int) d):fl (lps L labs) F d=fl L F d:=by
 obtain⟨a,b,c,e,_⟩:=r
 have h1:d.2.1.toNat < L.length:=by omega
 have h2:d.2.2.1.toNat < L.length:=by omega
 unfold fl
 rw[getD_of (lps_keep labs (List.getElem?_eq_getElem h1)),getD_of (lps_keep labs (List.getElem?_eq_getElem h2)),getD_of (List.getElem?_eq_getElem h1),getD_of (List.getElem?_eq_getElem h2)]
theorem out_row (F:Str→Str)(N:List Str){P:PD}{k:Kd}{a b:List Nat}{p:Mq.Q2}(rd:∀d∈P.ds,RdOk (P.ls.length:Int) d) :
  lps N ((addRow P k a b p).ls.map F)=lput (lput (lps N (P.ls.map F)) (F (S a))) (F (S b))∧(addRow P k a b p).ds.map (fl (addRow P k a b p).ls F)=P.ds.map (fl P.ls F)++[(k,F (S a),F (S b),p)]:=by
 have el:(addRow P k a b p).ls=lps P.ls [S a,S b]:=rfl
 have ma:S a∈lps P.ls [S a,S b]:=lps_mem.mpr (.inr (by simp))
 have mb:S b∈lps P.ls [S a,S b]:=lps_mem.mpr (.inr (by simp))
 refine⟨?_,?_⟩
 ·rw[el,lps_mapL]
  rfl
 ·show (P.ds++[(k,(lIx (lps P.ls [S a,S b]) (S a):Int),(lIx (lps P.ls [S a,S b]) (S b):Int),p)]).map (fl (lps P.ls [S a,S b]) F)=_
  rw[List.map_append]
  congr 1
  ·exact List.map_congr_left fun d hd=>fl_keep _ (rd d hd)
  ·show [fl (lps P.ls [S a,S b]) F (k,(lIx (lps P.ls [S a,S b]) (S a):Int),(lIx (lps P.ls [S a,S b]) (S b):Int),p)]=_
   unfold fl
   dsimp only
   rw[show ((lIx (lps P.ls [S a,S b]) (S a):Nat):Int).toNat=lIx (lps P.ls [S a,S b]) (S a) by omega,show ((lIx (lps P.ls [S a,S b]) (S b):Nat):Int).toNat=lIx (lps P.ls [S a,S b]) (S b) by omega,getD_of (lIx_at ma),getD_of (lIx_at mb)]
structure Inn (F F':Str→Str) (n:List Nat) (X:List (List Nat)) (Q:PD):Prop where
 e:X.length=Q.e
 le:Q.e≤Q.ls.length
 en:∀(i:Nat) (x:List Nat) (z:Str),X[i]?=some x→Q.ls[i]?=some z→F' z=F (S x)
 inn:∀z∈Q.ls.drop Q.e,F' z=F (S n++"."++z)
 rd:∀d∈Q.ds,RdOk (Q.ls.length:Int) d
theorem Inn.map {F F':Str→Str}{n:List Nat}{X:List (List Nat)}{Q:PD}(h:Inn F F' n X Q):Q.ls.map F'=(labsV n X Q).map F:=by
 apply List.ext_getElem?
 intro i
 unfold labsV K84.inn
 rw[List.map_append,List.map_map,List.map_map]
 have lx:(X.map (F ∘ S)).length=Q.e:=by rw[List.length_map];exact h.e
 by_cases c:i < Q.e
 ·rw[List.getElem?_append_left (by omega),List.getElem?_map,List.getElem?_map]
  have h1:i < X.length:=by rw[h.e];exact c
  have h2:i < Q.ls.length:=Nat.lt_of_lt_of_le c h.le
  rw[List.getElem?_eq_getElem h1,List.getElem?_eq_getElem h2]
  exact congrArg some (h.en i _ _ (List.getElem?_eq_getElem h1) (List.getElem?_eq_getElem h2))
 ·rw[List.getElem?_append_right (by omega),lx,List.getElem?_map,List.getElem?_map,List.getElem?_drop,show Q.e+(i - Q.e)=i by omega]
  cases e:Q.ls[i]? with
  |none=>rfl
  |some z=>
   refine congrArg some (h.inn z ?_)
   refine List.mem_of_getElem? (i:=i - Q.e) ?_
   rw[List.getElem?_drop,show Q.e+(i - Q.e)=i by omega,e]
theorem out_put (F F':Str→Str)(N:List Str){P Q:PD}{n:List Nat}{X:List (List Nat)}(rd:∀d∈P.ds,RdOk (P.ls.length:Int) d)(h:Inn F F' n X Q) :
  lps N ((addPut P n X Q).ls.map F)=lps (lps (lps N (P.ls.map F)) (X.map (F ∘ S))) (Q.ls.map F')∧(addPut P n X Q).ds.map (fl (addPut P n X Q).ls F)=P.ds.map (fl P.ls F)++Q.ds.map (fl Q.ls F'):=by
 have el:(addPut P n X Q).ls=lps P.ls (labsV n X Q):=rfl
 refine⟨?_,?_⟩
 ·rw[el,lps_mapL,h.map]
  unfold labsV
  rw[List.map_append,List.map_map,lps_app,lps_app]
  congr 1
  rw[lps_old fun x hx=>lps_mem.mpr (.inr hx)]
 ·show (P.ds++Q.ds.map (mvD ((labsV n X Q).map fun x=>(lIx (lps P.ls (labsV n X Q)) x:Int)))).map (fl (lps P.ls (labsV n X Q)) F)=_
  rw[List.map_append,List.map_map]
  congr 1
  ·exact List.map_congr_left fun d hd=>fl_keep _ (rd d hd)
  ·refine List.map_congr_left fun d hd=>?_
   obtain⟨a,b,c,e,_⟩:=h.rd d hd
   have hm:=h.map
   have ll:(labsV n X Q).length=Q.ls.length:=by have:=congrArg List.length hm;simpa using this.symm
   have key:∀i:Nat,i < Q.ls.length→F ((lps P.ls (labsV n X Q)).getD (((labsV n X Q).map fun x=>(lIx (lps P.ls (labsV n X Q)) x:Int)).getD i 0).toNat "")=F' (Q.ls.getD i ""):=fun i hi=>by
    have hi':i < (labsV n X Q).length:=by omega
    have e1:((labsV n X Q).map fun x=>(lIx (lps P.ls (labsV n X Q)) x:Int)).getD i 0=(lIx (lps P.ls (labsV n X Q)) (labsV n X Q)[i]:Int):=by
     rw[List.getD_eq_getElem?_getD,List.getElem?_map,List.getElem?_eq_getElem hi'];rfl
    rw[e1,show ((lIx (lps P.ls (labsV n X Q)) (labsV n X Q)[i]:Nat):Int).toNat=lIx (lps P.ls (labsV n X Q)) (labsV n X Q)[i] by omega,getD_of (lIx_at (lps_mem.mpr (.inr (List.getElem_mem hi')))),getD_of (List.getElem?_eq_getElem hi)]
    have:=congrArg (fun l=>l[i]?) hm
    simp only[List.getElem?_map,List.getElem?_eq_getElem hi,List.getElem?_eq_getElem hi',Option.map_some] at this
    exact(Option.some.inj this).symm
   show fl (lps P.ls (labsV n X Q)) F (mvD _ d)=fl Q.ls F' d
   unfold fl mvD
   dsimp only
   rw[key d.2.1.toNat (by omega),key d.2.2.1.toNat (by omega)]
end
end K84
set_option maxHeartbeats 2000000
set_option maxHeartbeats 4000000
namespace K84
open PySem L2 Tx
section
variable {P:Program} {w:World} {K:PySem.W.Frag} {mg:Str→Option Value} {base:Heap} {f g1 g2 g3 g4 g5 g6 g7 g8:Addr} {fd gd1 gd2 gd3 gd4 gd5 gd6 gd7 gd8:FuncData} {CX:CXT}
def mk2 (n f:Addr)(H:Hp):Hp:=fun a=>if a=n∨a=f then none else H a
section
variable {n f a:Addr} {H H':Hp}
theorem mk2_at {o:HO}(h1:a≠n)(h2:a≠f)(e:H a=some o):mk2 n f H a=some o:=by
 unfold mk2;rw[if_neg (fun z=>z.elim h1 h2)];exact e
theorem mk2_in {o:HO}(e:mk2 n f H a=some o):H a=some o∧a≠n∧a≠f:=by
 unfold mk2 at e
 by_cases h:a=n∨a=f
 ·rw[if_pos h] at e;cases e
 ·rw[if_neg h] at e
  exact⟨e,fun z=>h (.inl z),fun z=>h (.inr z)⟩
theorem mk2_same:Same (mk2 n f H) H:=fun _ _ e=>(mk2_in e).1
theorem mk2_mono (s:Same H H'):Same (mk2 n f H) (mk2 n f H'):=fun _ _ e=>let ⟨e,a,b⟩:=mk2_in e;mk2_at a b (s _ _ e)
theorem mk2_updN {o:HO}:Same (mk2 n f H) (mk2 n f (upd H n o)):=fun _ _ e=>let ⟨e,a,b⟩:=mk2_in e;mk2_at a b (by rw[upd_ne a];exact e)
theorem mk2_updF {o:HO}:Same (mk2 n f H) (mk2 n f (upd H f o)):=fun _ _ e=>let ⟨e,a,b⟩:=mk2_in e;mk2_at a b (by rw[upd_ne b];exact e)
theorem mk2_new {p:Addr}{o:HO}(hp:H p=none):Same (mk2 n f H) (mk2 n f (upd H p o)):=mk2_mono (same_new hp o)
theorem mk2_chg {p:Addr}{o:HO}(s:Same (mk2 n f H) (mk2 n f H'))(hp:H p=none):Same (mk2 n f H) (mk2 n f (upd H' p o)):=fun b u e=>by
 obtain⟨e1,e2,e3⟩:=mk2_in e
 have:=mk2_in (s _ _ e)
 exact mk2_at e2 e3 (by rw[upd_ne (ne_of_none e1 hp)];exact this.1)
end
inductive Lrs (K:PySem.W.Frag) (H:Hp):List V→List LD→Prop where
 |nil:Lrs K H [] []
 |cons {t z:Addr} {d:LD} {xs:List V} {rs:List LD} (h:SqT K H t [.str d.1.wd,.str d.2.1,.str d.2.2.1,.ref z]) (f:Fq K H z d.2.2.2) (r:Lrs K H xs rs):Lrs K H (.ref t :: xs) (d :: rs)
theorem Lrs.same {K:PySem.W.Frag}{H H':Hp}(s:Same H H'):∀{xs:List V} {rs:List LD},Lrs K H xs rs→Lrs K H' xs rs
 |_,_,.nil=>.nil
 |_,_,.cons h f r=>.cons (s.seqT h) (s.fq f) (Lrs.same s r)
theorem Lrs.length {K:PySem.W.Frag}{H:Hp}:∀{xs:List V} {rs:List LD},Lrs K H xs rs→xs.length=rs.length
 |_,_,.nil=>rfl
 |_,_,.cons _ _ r=>by rw[List.length_cons,List.length_cons,r.length]
theorem Lrs.app {K:PySem.W.Frag}{H:Hp}:∀{xs ys:List V} {rs qs:List LD},Lrs K H xs rs→Lrs K H ys qs→Lrs K H (xs++ys) (rs++qs)
 |_,_,_,_,.nil,h=>h
 |_,_,_,_,.cons a b r,h=>.cons a b (Lrs.app r h)
inductive ItAt (K:PySem.W.Frag) (H:Hp):V→It→Prop where
 |row {t:Addr} {k:Kd} {a b:List Nat} {pz:Int} (h:SqT K H t [.str "row",.str k.wd,.str (S a),.str (S b),.int pz]):ItAt K H (.ref t) (.row k a b (pz,1))
 |put {t l:Addr} {n:List Nat} {w:Nat} {X:List (List Nat)} (h:SqT K H t [.str "put",.str (S n),.int (w:Int),.ref l]) (e:SqL K H l (X.map fun x=>V.str (S x))):ItAt K H (.ref t) (.put n w X)
theorem ItAt.same {K:PySem.W.Frag}{H H':Hp}(s:Same H H'){v:V}{it:It}(h:ItAt K H v it):ItAt K H' v it:=by
 cases h with
 |row h=>exact .row (s.seqT h)
 |put h e=>exact .put (s.seqT h) (s.seq e)
inductive Its (K:PySem.W.Frag) (H:Hp):List V→List It→Prop where
 |nil:Its K H [] []
 |cons {v:V} {it:It} {vs:List V} {its:List It} (h:ItAt K H v it) (r:Its K H vs its):Its K H (v :: vs) (it :: its)
theorem Its.same {K:PySem.W.Frag}{H H':Hp}(s:Same H H'):∀{xs:List V} {rs:List It},Its K H xs rs→Its K H' xs rs
 |_,_,.nil=>.nil
 |_,_,.cons h r=>.cons (h.same s) (Its.same s r)
theorem Its.length {K:PySem.W.Frag}{H:Hp}:∀{xs:List V} {rs:List It},Its K H xs rs→xs.length=rs.length
 |_,_,.nil=>rfl
 |_,_,.cons _ r=>by rw[List.length_cons,List.length_cons,r.length]
theorem Its.at {K:PySem.W.Frag}{H:Hp}:∀{xs:List V} {rs:List It} {i:Nat} {x:V},Its K H xs rs→xs[i]?=some x→∃it,rs[i]?=some it∧ItAt K H x it
 |_,_,i,_,.nil,h=>by simp at h
 |_,_,0,_,.cons a _,h=>⟨_,rfl,by cases h;exact a⟩
 |_,_,i+1,_,.cons _ r,h=>Its.at (i:=i) r (by simpa using h)
abbrev Bk:=List (List (List Nat) × List It)
def BkE (K:PySem.W.Frag)(H:Hp)(v:V)(e:List (List Nat) × List It):Prop:=∃(t l1 l2:Addr) (vs:List V),v=.ref t∧SqT K H t [.ref l1,.ref l2]∧SqL K H l1 (e.1.map fun x=>V.str (S x))∧SqL K H l2 vs∧Its K H vs e.2
def BkAt (K:PySem.W.Frag)(H:Hp)(vs:List V)(bk:Bk):Prop:=vs.length=bk.length∧∀(i:Nat) (v:V) (e:List (List Nat) × List It),vs[i]?=some v→bk[i]?=some e→BkE K H v e
theorem BkE.same {K:PySem.W.Frag}{H H':Hp}(s:Same H H'){v:V}{e:List (List Nat) × List It}(h:BkE K H v e):BkE K H' v e:=
 let ⟨t,l1,l2,vs,e,a,b,c,d⟩:=h;⟨t,l1,l2,vs,e,s.seqT a,s.seq b,s.seq c,d.same s⟩
theorem BkAt.same {K:PySem.W.Frag}{H H':Hp}(s:Same H H'){vs:List V}{bk:Bk}(h:BkAt K H vs bk):BkAt K H' vs bk:=⟨h.1,fun i v e a b=>(h.2 i v e a b).same s⟩
def ItOk (d:Nat)(bk:Bk):It→Prop
 | .row k a b p=>a.length≤8∧b.length≤8
 | .put n w X=>w < d∧n.length≤8∧(∀x∈X,x.length≤8)∧∃e,bk[w]?=some e∧X.length=e.1.length
def pd0:PD:=⟨[],0,[],[]⟩
def st0 (E:List (List Nat)):PD:=⟨E.map S,E.length,[],[]⟩
def Sml (PS:List PD)(P0:PD)(its:List It):Prop:=∀i,i≤its.length→(plan PS P0 (its.take i)).ls.length≤20∧(plan PS P0 (its.take i)).ds.length≤40∧∀d∈(plan PS P0 (its.take i)).ds,RdOk ((plan PS P0 (its.take i)).ls.length:Int) d
structure BkOk (bk:Bk) (PS:List PD):Prop where
 l:PS.length=bk.length
 p:∀(w:Nat) (e:List (List Nat) × List It),bk[w]?=some e→PS.getD w pd0=plan PS (st0 e.1) e.2∧(∀it∈e.2,ItOk w bk it)∧(e.1.map S).Nodup∧e.1.length≤10∧(∀x∈e.1,46∉x∧x.length≤8)∧Sml PS (st0 e.1) e.2∧e.2.length≤20∧(PS.getD w pd0).ls.Nodup
def Fm (f:Str→Option Str)(ah x:Str):Str:=(f x).getD (ah++x)
def DicF (H:Hp)(D:Addr)(f:Str→Option Str):Prop:=∃kvs:List (Key × V),H D=some (.dK kvs)∧∀x:Str,valV kvs (Sum.inr x:Key)=(f x).map V.str
theorem plan_keep (PS:List PD):∀(its:List It) {P:PD} {i:Nat} {x:Str},P.ls[i]?=some x→(plan PS P its).ls[i]?=some x∧(plan PS P its).e=P.e
 | [],_,_,_,h=>⟨h,rfl⟩
 | .row k a b p :: r,P,i,x,h=>plan_keep PS r (P:=addRow P k a b p) (lput_keep _ (lput_keep _ h))
 | .put n w X :: r,P,i,x,h=>plan_keep PS r (P:=addPut P n X (PS.getD w ⟨[],0,[],[]⟩)) (lps_keep _ h)
theorem plan_e (PS:List PD):∀(its:List It) (P:PD),(plan PS P its).e=P.e
 | [],_=>rfl
 | .row k a b p :: r,P=>plan_e PS r (addRow P k a b p)
 | .put n w X :: r,P=>plan_e PS r (addPut P n X (PS.getD w ⟨[],0,[],[]⟩))
theorem plan_le (PS:List PD):∀(its:List It) (P:PD),P.ls.length≤(plan PS P its).ls.length
 | [],_=>Nat.le_refl _
 | .row k a b p :: r,P=>Nat.le_trans (lps_ge [S a,S b] P.ls) (plan_le PS r (addRow P k a b p))
 | .put n w X :: r,P=>Nat.le_trans (lps_ge _ P.ls) (plan_le PS r (addPut P n X (PS.getD w ⟨[],0,[],[]⟩)))
def spO (K:PySem.W.Frag):Nat→Sp
 |0=>fun _ _ _ _=>False
 |d+1=>fun vs H Q _=>∃(B I D N F:Addr) (ah:Str) (bk:Bk) (PS:List PD) (its:List It) (f:Str→Option Str) (P0:PD) (names:List Str) (pre:List LD) (fs bs is:List V),vs=[.ref B,.ref I,.str ah,.ref D,.ref N,.ref F]∧N≠F∧
   H N=some (.lst ((lps names (P0.ls.map (Fm f ah))).map V.str))∧H F=some (.lst fs)∧Lrs K (mk2 N F H) fs (pre++P0.ds.map (fl P0.ls (Fm f ah)))∧SqL K (mk2 N F H) B bs∧BkAt K (mk2 N F H) bs bk∧SqL K (mk2 N F H) I is∧Its K (mk2 N F H) is its∧DicF (mk2 N F H) D f∧
   BkOk bk PS∧Sml PS P0 its∧(∀it∈its,ItOk d bk it)∧(∀x:Str,46∈x.cps.toList→f x=none)∧names.length+50*(d+1)≤900∧pre.length+50*(d+1)≤900∧ah.length+20*(d+1)≤10000∧its.length≤20∧(∀x s,f x=some s→s.length≤20000)∧
   ∀H' fs',Same (mk2 N F H) (mk2 N F H')→H' N=some (.lst ((lps names ((plan PS P0 its).ls.map (Fm f ah))).map V.str))→H' F=some (.lst fs')→Lrs K (mk2 N F H') fs' (pre++(plan PS P0 its).ds.map (fl (plan PS P0 its).ls (Fm f ah)))→Q .non H'
def msOf:It→List Str
 | .row _ a b _=>[S a,S b]
 | .put _ _ X=>X.map S
theorem get_fm (f:Str→Option Str)(ah m:Str):((f m).map V.str).getD (.str (ah++m))=.str (Fm f ah m):=by
 unfold Fm
 cases f m<;>rfl
theorem str_assoc (a b c:Str):a++b++c=a++(b++c):=by
 show (⟨(a.cps++b.cps)++c.cps⟩:Str)=⟨a.cps++(b.cps++c.cps)⟩
 rw[Array.append_assoc]
theorem dot_in (n:List Nat)(z:Str):46∈(S n++"."++z).cps.toList:=by
 show 46∈((S n).cps++(".": Str).cps++z.cps).toList
 rw[Array.toList_append,Array.toList_append]
 have e:((".": Str).cps).toList=[46]:=by decide +kernel
 rw[e]
 simp
theorem fm_len {f:Str→Option Str}{ah m:Str}(h1:∀x s,f x=some s→s.length≤20000)(h2:ah.length≤10000)(h3:m.length≤100):(Fm f ah m).length≤20000:=by
 unfold Fm
 cases e:f m with
 |some s=>exact h1 m s e
 |none=>show (ah++m).length≤20000;rw[len2];omega
theorem at_here {xs:List V}{v:V}{k:Nat}(h:xs[k]?=some v):atI xs (0+(k:Int))=some v:=by rw[Int.zero_add];exact atI_nat h
theorem lIx_no {ls:List Str}{x:Str}(h:x∉ls):ls.length≤lIx ls x:=by
 refine Nat.le_of_not_lt fun c=>h ?_
 have:=List.findIdx_getElem (xs:=ls) (w:=c)
 have e:ls[lIx ls x]'c=x:=of_decide_eq_true this
 rw[← e]
 exact List.getElem_mem c
theorem in_S {x:List Nat}{E:List (List Nat)}{z:Str}(h:z∈E.map S)(d:∀x∈E,46∉x∧x.length≤8):46∉z.cps.toList:=by
 obtain⟨y,hy,rfl⟩:=List.mem_map.mp h
 have:=(d y hy).1
 show 46∉(List.toArray y).toList
 simpa using this
theorem ItOk.up {d d':Nat}{bk:Bk}{it:It}(h:ItOk d bk it)(l:d≤d'):ItOk d' bk it:=by
 cases it with
 |row k a b p=>exact h
 |put n w X=>exact⟨Nat.lt_of_lt_of_le h.1 l,h.2⟩
def wi (E Sp:List Str)(x:Str):Option Str:=Sp[lIx E x]?
theorem wi_map {E Sp:List Str}{ah:Str}(nd:E.Nodup)(l:E.length=Sp.length):E.map (Fm (wi E Sp) ah)=Sp:=by
 apply List.ext_getElem?
 intro i
 rw[List.getElem?_map]
 cases h:E[i]? with
 |none=>exact(List.getElem?_eq_none (by rw[← l];exact List.getElem?_eq_none_iff.mp h)).symm
 |some z=>
  have:i < Sp.length:=by rw[← l];exact(List.getElem?_eq_some_iff.mp h).1
  rw[Option.map_some]
  unfold Fm wi
  rw[← lIx_eq nd h,List.getElem?_eq_getElem this]
  rfl
theorem wi_put {E Sp:List Str}{i:Nat}{z s:Str}{kvs:List (Key × V)}(nd:E.Nodup)(hz:E[i]?=some z)(hs:Sp[i]?=some s)(h:∀x:Str,valV kvs (Sum.inr x:Key)=if lIx E x < i then (wi E Sp x).map V.str else none)(x:Str) :
  valV (putK kvs (Sum.inr z:Key) (V.str s)) (Sum.inr x:Key)=if lIx E x < i+1 then (wi E Sp x).map V.str else none:=by
 rw[valV_put]
 by_cases c:x=z
 ·subst c
  have e:=lIx_eq nd hz
  rw[if_pos rfl,if_pos (by omega)]
  unfold wi
  rw[← e,hs]
  rfl
 ·rw[if_neg (fun y=>c (Sum.inr.inj y)),h x]
  have ne:lIx E x≠i:=fun y=>by
   by_cases m:x∈E
   ·have:=lIx_at m
    rw[y,hz] at this
    exact c (Option.some.inj this).symm
   ·have:=lIx_no m
    have:=(List.getElem?_eq_some_iff.mp hz).1
    omega
  by_cases l:lIx E x < i
  ·rw[if_pos l,if_pos (by omega)]
  ·rw[if_neg l,if_neg (by omega)]
theorem wi_end {E Sp:List Str}{kvs:List (Key × V)}(l:E.length=Sp.length)(h:∀x:Str,valV kvs (Sum.inr x:Key)=if lIx E x < E.length then (wi E Sp x).map V.str else none)(x:Str):valV kvs (Sum.inr x:Key)=(wi E Sp x).map V.str:=by
 rw[h x]
 by_cases c:lIx E x < E.length
 ·rw[if_pos c]
 ·rw[if_neg c]
  unfold wi
  rw[List.getElem?_eq_none (by omega)]
  rfl
theorem wi_inn {F:Str→Str}{f:Str→Option Str}{ah:Str}{n:List Nat}{X:List (List Nat)}{PS:List PD}{e:List (List Nat) × List It}{Q:PD}(hF:Fm f ah=F)(dot:∀x:Str,46∈x.cps.toList→f x=none)(hQ:Q=plan PS (st0 e.1) e.2)(el:X.length=e.1.length)(nd:(e.1.map S).Nodup)(ndQ:Q.ls.Nodup)(sm:Sml PS (st0 e.1) e.2) :
  Inn F (Fm (wi (e.1.map S) ((X.map S).map F)) (ah++S n++".")) n X Q:=by
 have le:(st0 e.1).ls.length=e.1.length:=List.length_map ..
 have kp:∀{i:Nat} {z:Str},(e.1.map S)[i]?=some z→Q.ls[i]?=some z:=fun h=>by rw[hQ];exact(plan_keep PS e.2 (P:=st0 e.1) h).1
 have eq:Q.e=e.1.length:=by rw[hQ,plan_e];rfl
 have ll:e.1.length≤Q.ls.length:=by rw[hQ,← le];exact plan_le PS e.2 (st0 e.1)
 refine⟨by rw[eq,el],by rw[eq];exact ll,fun i x z hx hz=>?_,fun z hz=>?_,?_⟩
 ·have hi:i < e.1.length:=by rw[← el];exact(List.getElem?_eq_some_iff.mp hx).1
  have hi':i < (e.1.map S).length:=by rw[List.length_map];exact hi
  have hk:=kp (List.getElem?_eq_getElem hi')
  rw[hz] at hk
  have hE:(e.1.map S)[i]?=some z:=by rw[List.getElem?_eq_getElem hi',← hk]
  unfold Fm wi
  rw[← lIx_eq nd hE,List.getElem?_map,List.getElem?_map,hx]
  rfl
 ·have nz:z∉e.1.map S:=fun m=>by
   have h1:=kp (lIx_at m)
   have h2:=lIx_lt m
   rw[List.length_map] at h2
   obtain⟨j,hj⟩:=List.getElem?_of_mem hz
   rw[List.getElem?_drop] at hj
   have:=lIx_eq ndQ h1
   have:=lIx_eq ndQ hj
   omega
  have hn:wi (e.1.map S) ((X.map S).map F) z=none:=by
   have:=lIx_no nz
   unfold wi
   exact List.getElem?_eq_none (by rw[List.length_map,List.length_map,el];rwa [List.length_map] at this)
  unfold Fm
  rw[hn,← hF]
  unfold Fm
  rw[dot _ (dot_in n z)]
  show (ah++S n++"."++z:Str)=ah++(S n++"."++z)
  rw[str_assoc ah (S n) ".",str_assoc ah,str_assoc]
 ·have:=(sm e.2.length (Nat.le_refl _)).2.2
  rw[List.take_length,← hQ] at this
  exact this
abbrev sOut:Stmt:=top 60
theorem scOut:FnScope ["_law_book_here","_law_items_here","_law_ahead","_law_places","_law_names","_law_flat","_law_item","_law_met","_law_spots","_law_one","_law_ends","_law_inner","_law_within","_law_k"] ["_law_book_here","_law_items_here","_law_ahead","_law_places","_law_names","_law_flat"] (defScope sOut):=⟨rfl,rfl,rfl,by decide +kernel,rfl,by decide +kernel,by decide +kernel⟩
theorem ok_out1 {dV:Value}{d:Nat}(F:FunD K "_law_out" "_law_out" sOut dV f fd)(ml:mg "len"=none)(mr:mg "range"=none)(G1:FnOk P w K mg base CX0 d f fd ["_law_book_here","_law_items_here","_law_ahead","_law_places","_law_names","_law_flat"] (spO K d))(b1:Binds K fd ["_law_book_here","_law_items_here","_law_ahead","_law_places","_law_names","_law_flat"] [])(k1:PySem.W.keepIn K (.ref f)=true)(m1:mg "_law_out"=some (.ref f)) :
  FnOk P w K mg base CX0 (d+1) f fd ["_law_book_here","_law_items_here","_law_ahead","_law_places","_law_names","_law_flat"] (spO K (d+1)):=by
 refine F.ok scOut (fun vs H Q E h=>?_) (fun cdv A outer s H vs Q E hr h=>?_)
 ·obtain⟨B,I,D,N,F',ah,bk,PS,its,f',P0,names,pre,fs,bs,is,rfl,h⟩:=h
  rfl
 obtain⟨B,I,D,N,F',ah,bk,PS,its,f',P0,names,pre,fs,bs,is,rfl,nNF,hN,hF,hL,hB,hBk,hI,hIt,hD,bko,sml,ito,dot,nl,pl,al,il,fsz,q⟩:=h
 have hz:sizeLine=16777216:=sizeLine_eq
 have hu1:=hu_of hr
 refine⟨_,(pss_one (ps_for PassesOwn.never rfl (pi_list (pv 1)) (pg_name (i:=6) scOut.nd rfl (Or.inl rfl))
   (pss_cons (ps_set (i:=7) scOut.nd rfl (Or.inl rfl) (pe_lst (pa_cons (pe_ix ix_tup (pv 6) pe_int (fun _ _=>rfl)) (pa_cons (pe_ix ix_tup (pv 6) pe_int (fun _ _=>rfl)) pa_nil))))
  (pss_cons (ps_if (pt_cmpR op_eq (pe_ix ix_tup (pv 6) pe_int (fun _ _=>rfl)) pe_str (nomark _)) (pss_one (ps_set (i:=7) scOut.nd rfl (Or.inl rfl) (pe_ix ix_tup (pv 6) pe_int (fun _ _=>rfl)))) pss_nil)
  (pss_cons (ps_set (i:=8) scOut.nd rfl (Or.inl rfl) (pe_lst pa_nil))
  (pss_cons (ps_for PassesOwn.never rfl (pi_list (pv 7)) (pg_name (i:=9) scOut.nd rfl (Or.inl rfl))
   (pss_cons (ps_expr (pe_bm PySem.F.plainAttrs_list PySem.F.slot_list_append PySem.F.type_list_append mt_append (pv 8) (pa_cons (pe_dget2 hu1 (pv 3) (pv 9) (pe_op op_add_str (pv 2) (pv 9)) ⟨rfl,rfl,rfl,rfl⟩) pa_nil)))
  (pss_one (ps_if (pt_cmpR op_notIn_seq (pe_ix ix_list (pv 8) (pe_un un_neg pe_int) (fun _ _=>rfl)) (pv 4) rfl) (pss_one (ps_expr (pe_bm PySem.F.plainAttrs_list PySem.F.slot_list_append PySem.F.type_list_append mt_append (pv 4) (pa_cons (pe_ix ix_list (pv 8) (pe_un un_neg pe_int) (fun _ _=>rfl)) pa_nil)))) pss_nil))))
  (pss_one (ps_if (pt_cmpR op_eq (pe_ix ix_tup (pv 6) pe_int (fun _ _=>rfl)) pe_str (nomark _)) (pss_one (ps_expr (pe_bm PySem.F.plainAttrs_list PySem.F.slot_list_append PySem.F.type_list_append mt_append (pv 5) (pa_cons (pe_tup (pa_cons (pe_ix ix_tup (pv 6) pe_int (fun _ _=>rfl)) (pa_cons (pe_ix ix_list (pv 8) pe_int (fun _ _=>rfl)) (pa_cons (pe_ix ix_list (pv 8) pe_int (fun _ _=>rfl)) (pa_cons (pe_tup (pa_cons (pe_ix ix_tup (pv 6) pe_int (fun _ _=>rfl)) (pa_cons pe_int pa_nil))) pa_nil))))) pa_nil)))) (pss_cons (ps_asg (pe_ix ix_list (pv 0) (pe_ix ix_tup (pv 6) pe_int (fun _ _=>rfl)) (fun _ _=>rfl)) (pg_tup rfl (pgs_cons (pg_name (i:=10) scOut.nd rfl (Or.inl rfl)) (pgs_cons (pg_name (i:=11) scOut.nd rfl (Or.inl rfl)) pgs_nil))))
  (pss_cons (ps_set (i:=12) scOut.nd rfl (Or.inl rfl) pe_dnewK)
  (pss_cons (ps_for PassesOwn.never rfl (pi_range1 rfl mr (pa_cons (pe_callB call_len_seq rfl ml PySem.boot_len (pa_cons (pv 10) pa_nil)) pa_nil)) (pg_name (i:=13) scOut.nd rfl (Or.inl rfl))
   (pss_one (ps_dput hu1 (pv 12) (pe_ix ix_list (pv 10) (pv 13) (fun _ _=>rfl)) (pe_ix ix_list (pv 8) (pv 13) (fun _ _=>rfl)) rfl)))
  (pss_one (ps_expr (pe_call G1 hr rfl m1 k1 b1 .nil pass0 (pa_cons (pv 0) (pa_cons (pv 11) (pa_cons (pe_op op_add_str (pe_op op_add_str (pv 2) (pe_ix ix_tup (pv 6) pe_int (fun _ _=>rfl))) pe_str) (pa_cons (pv 12) (pa_cons (pv 4) (pa_cons (pv 5) pa_nil)))))))))))))))))))),?_⟩
 obtain⟨FF,hFF⟩:∃FF,Fm f' ah=FF:=⟨_,rfl⟩
 rw[hFF] at hN hL q
 have sE:∀{H':Hp},Same (mk2 N F' H) (mk2 N F' H')→Same (mk2 N F' H) H':=fun s=>s.trans mk2_same
 refine⟨_,rfl,I,rfl,⟨_,mk2_same.seq hI⟩,?_⟩
 refine for_list (xs:=is) (fun i σ H'=>Same (mk2 N F' H) (mk2 N F' H')∧(∃(z6 z7 z8 z9 z10 z11 z12 z13:Option V),σ=[some (.ref B),some (.ref I),some (.str ah),some (.ref D),some (.ref N),some (.ref F'),z6,z7,z8,z9,z10,z11,z12,z13])∧H' N=some (.lst ((lps names ((plan PS P0 (its.take i)).ls.map FF)).map V.str))∧∃fs',H' F'=some (.lst fs')∧Lrs K (mk2 N F' H') fs' (pre++(plan PS P0 (its.take i)).ds.map (fl (plan PS P0 (its.take i)).ls FF))) ⟨Same.refl _,⟨none,none,none,none,none,none,none,none,rfl⟩,hN,fs,hF,hL⟩ (fun i σ H' _ h=>(sE h.1).seq hI) ?_ ?_
 ·rintro i x σ Ha hx ⟨sa,⟨z6,z7,z8,z9,z10,z11,z12,z13,rfl⟩,hNa,fa,hFa,hLa⟩
  obtain⟨it,hit,hAt⟩:=hIt.at hx
  have hi:i < its.length:=(List.getElem?_eq_some_iff.mp hit).1
  have iok:=ito it (List.mem_of_getElem? hit)
  have et:its.take (i+1)=its.take i++[it]:=by rw[List.take_add_one,hit];rfl
  obtain⟨s20,s40,srd⟩:=sml i (by omega)
  rw[et,plan_snoc]
  generalize plan PS P0 (its.take i)=Pi at hNa hLa s20 s40 srd ⊢
  have hAa:=hAt.same sa
  have lcur:(lps names (Pi.ls.map FF)).length≤names.length+20:=by
   have:=lps_len (Pi.ls.map FF) names
   rw[List.length_map] at this
   omega
  generalize hcur:lps names (Pi.ls.map FF)=cur at hNa lcur
  have mlen:(msOf it).length≤10∧∀m∈msOf it,m.length≤8:=by
   cases it with
   |row k a b p=>
    refine⟨by show 2≤10;decide,fun m hm=>?_⟩
    have h:m=S a∨m=S b:=by simpa[msOf] using hm
    rcases h with rfl | rfl
    ·rw[S_len];exact iok.1
    ·rw[S_len];exact iok.2
   |put n w X=>
    obtain⟨_,_,xl,e,he,el⟩:=iok
    have:=(bko.p w e he).2.2.2.1
    refine⟨by show (X.map S).length≤10;rw[List.length_map];omega,fun m hm=>?_⟩
    obtain⟨y,hy,rfl⟩:=List.mem_map.mp hm
    rw[S_len]
    exact xl y hy
  refine cut3 (fun σ H'=>∃M SP Hm,σ=[some (.ref B),some (.ref I),some (.str ah),some (.ref D),some (.ref N),some (.ref F'),some x,some (.ref M),some (.ref SP),z9,z10,z11,z12,z13]∧Same (mk2 N F' Ha) (mk2 N F' Hm)∧Same (mk2 N F' Hm) (mk2 N F' H')∧SqL K (mk2 N F' Hm) M ((msOf it).map V.str)∧H' SP=some (.lst [])∧Hm SP=none∧Ha SP=none∧H' N=Ha N∧H' F'=Ha F') (fun X hX=>?_) ?_
  ·have nw:∀{H':Hp} {p:Addr} {o:HO},H' p=none→H' N=Ha N→(upd H' p o) N=Ha N:=fun h1 h2=>by rw[upd_ne (fun z=>by rw[← z] at h1;rw[h2,hNa] at h1;cases h1)];exact h2
   have nf:∀{H':Hp} {p:Addr} {o:HO},H' p=none→H' F'=Ha F'→(upd H' p o) F'=Ha F':=fun h1 h2=>by rw[upd_ne (fun z=>by rw[← z] at h1;rw[h2,hFa] at h1;cases h1)];exact h2
   cases hAa with
   | @row t k a b pz hT=>
    have hT':=mk2_same.seqT hT
    refine⟨_,rfl,t,_,2,_,rfl,rfl,hT',rfl,_,rfl,t,_,3,_,rfl,rfl,hT',rfl,by show 2≤sizeLine;decide,fun M hM=>?_⟩
    have n1:=nw (o:=.lst [V.str (S a),.str (S b)]) hM rfl
    have f1:=nf (o:=.lst [V.str (S a),.str (S b)]) hM rfl
    have k1':=mk2_new (n:=N) (f:=F') (o:=.lst [V.str (S a),.str (S b)]) hM
    have MN:M≠N:=fun z=>by rw[z,hNa] at hM;cases hM
    have MF:M≠F':=fun z=>by rw[z,hFa] at hM;cases hM
    have eM:mk2 N F' (upd Ha M (.lst [V.str (S a),.str (S b)])) M=some (.lst [V.str (S a),.str (S b)]):=mk2_at MN MF upd_same
    have sM:=same_new hM (.lst [V.str (S a),.str (S b)])
    generalize upd Ha M (.lst [V.str (S a),.str (S b)])=Hb at n1 f1 k1' eM sM ⊢
    refine⟨_,rfl,t,_,0,_,rfl,rfl,sM.seqT hT',rfl,rfl,_,rfl,L2.ifF (by decide) ?_⟩
    refine⟨by show 0≤sizeLine;decide,fun SP hSP=>?_⟩
    refine hX _ _ ⟨M,SP,Hb,rfl,k1',mk2_new hSP,SqL.of eM,upd_same,hSP,sM.free hSP,nw hSP n1,nf hSP f1⟩
   | @put t l n w X' hT hl=>
    have hT':=mk2_same.seqT hT
    refine⟨_,rfl,t,_,2,_,rfl,rfl,hT',rfl,_,rfl,t,_,3,_,rfl,rfl,hT',rfl,by show 2≤sizeLine;decide,fun M hM=>?_⟩
    have n1:=nw (o:=.lst [V.int (w:Int),.ref l]) hM rfl
    have f1:=nf (o:=.lst [V.int (w:Int),.ref l]) hM rfl
    have k1':=mk2_new (n:=N) (f:=F') (o:=.lst [V.int (w:Int),.ref l]) hM
    have sM:=same_new hM (.lst [V.int (w:Int),.ref l])
    generalize upd Ha M (.lst [V.int (w:Int),.ref l])=Hb at n1 f1 k1' sM ⊢
    refine⟨_,rfl,t,_,0,_,rfl,rfl,sM.seqT hT',rfl,rfl,_,rfl,L2.ifT (by decide) ?_⟩
    refine⟨_,rfl,t,_,3,_,rfl,rfl,sM.seqT hT',rfl,?_⟩
    refine⟨by show 0≤sizeLine;decide,fun SP hSP=>?_⟩
    have hl':SqL K (mk2 N F' Ha) l ((X'.map S).map V.str):=by rw[List.map_map];exact hl
    exact hX _ _ ⟨l,SP,Hb,rfl,k1',mk2_new hSP,k1'.seq hl',upd_same,hSP,sM.free hSP,nw hSP n1,nf hSP f1⟩
  rintro σ Hb ⟨M,SP,Hm,rfl,sm,sb,hM,hSP,gSP,fSP,nb,fb⟩
  have hNb:Hb N=some (.lst (cur.map V.str)):=nb.trans hNa
  have hFb:Hb F'=some (.lst fa):=fb.trans hFa
  have SPN:SP≠N:=fun z=>by rw[z,hNa] at fSP;cases fSP
  have SPF:SP≠F':=fun z=>by rw[z,hFa] at fSP;cases fSP
  obtain⟨kvs,hDk,hDv⟩:=hD
  refine cut1 (fun σ H'=>(∃z9,σ=[some (.ref B),some (.ref I),some (.str ah),some (.ref D),some (.ref N),some (.ref F'),some x,some (.ref M),some (.ref SP),z9,z10,z11,z12,z13])∧Same (mk2 N F' Hm) (mk2 N F' H')∧H' SP=some (.lst (((msOf it).map FF).map V.str))∧H' N=some (.lst ((lps cur ((msOf it).map FF)).map V.str))∧H' F'=some (.lst fa)) (fun X hX=>?_) ?_
  ·refine⟨_,rfl,M,rfl,⟨_,(sb.trans mk2_same).seq hM⟩,?_⟩
   refine for_list (xs:=(msOf it).map V.str) (fun j σ H'=>(∃z9,σ=[some (.ref B),some (.ref I),some (.str ah),some (.ref D),some (.ref N),some (.ref F'),some x,some (.ref M),some (.ref SP),z9,z10,z11,z12,z13])∧Same (mk2 N F' Hm) (mk2 N F' H')∧H' SP=some (.lst ((((msOf it).take j).map FF).map V.str))∧H' N=some (.lst ((lps cur (((msOf it).take j).map FF)).map V.str))∧H' F'=some (.lst fa)) ⟨⟨z9,rfl⟩,sb,hSP,hNb,hFb⟩ (fun j σ H' _ h=>(h.2.1.trans mk2_same).seq hM) ?_ ?_
   ·rintro j y σ Hc hy ⟨⟨z9,rfl⟩,sc,hSc,hNc,hFc⟩
    obtain⟨m,hm,rfl⟩:∃m,(msOf it)[j]?=some m∧y=.str m:=by
     rw[List.getElem?_map] at hy
     obtain⟨m,h1,h2⟩:=Option.map_eq_some_iff.mp hy
     exact⟨m,h1,h2.symm⟩
    have ml:=mlen.2 m (List.mem_of_getElem? hm)
    have tj:((msOf it).take j).length≤10:=by rw[List.length_take];have:=mlen.1;omega
    have tk:(msOf it).take (j+1)=(msOf it).take j++[m]:=by rw[List.take_add_one,hm];rfl
    have hDc:=(sE (sa.trans (sm.trans sc))) _ _ hDk
    rw[tk,List.map_append]
    have lc:=lps_len (((msOf it).take j).map FF) cur
    rw[List.length_map] at lc
    generalize hsj:((msOf it).take j).map FF=sj at hSc hNc lc ⊢
    have sjl:sj.length≤10:=by rw[← hsj,List.length_map];exact tj
    refine⟨_,rfl,.inl ⟨rfl,_,SqL.of hSc⟩,_,rfl,D,rfl,.inl ⟨kvs,Rd.of hDc⟩,_,rfl,_,rfl,_,rfl,_,_,rfl,rfl,(by omega),(f' m).map V.str,.inl ⟨kvs,Sum.inr m,Rd.of hDc,rfl,(hDv m).symm⟩,SP,_,_,rfl,rfl,hSc,small1000 (by rw[List.length_map];omega),?_⟩
    rw[get_fm,hFF]
    have hS2:upd Hc SP (.lst (sj.map V.str++[V.str (FF m)])) SP=some (.lst (sj.map V.str++[V.str (FF m)])):=upd_same
    have hN2:upd Hc SP (.lst (sj.map V.str++[V.str (FF m)])) N=some (.lst ((lps cur sj).map V.str)):=by rw[upd_ne (Ne.symm SPN)];exact hNc
    have hF2:upd Hc SP (.lst (sj.map V.str++[V.str (FF m)])) F'=some (.lst fa):=by rw[upd_ne (Ne.symm SPF)];exact hFc
    have sc2:Same (mk2 N F' Hm) (mk2 N F' (upd Hc SP (.lst (sj.map V.str++[V.str (FF m)])))):=mk2_chg sc gSP
    generalize upd Hc SP (.lst (sj.map V.str++[V.str (FF m)]))=Hd at hS2 hN2 hF2 sc2 ⊢
    refine⟨_,rfl,_,rfl,SP,_,_,_,rfl,rfl,SqL.of hS2,atI_last _ _,_,rfl,N,_,rfl,.inl (SqL.of hN2),rfl,flat_strs _,_,rfl,?_⟩
    show (if (!inV (.str (FF m)) ((lps cur sj).map V.str))=true then _ else _)
    rw[inV_strs]
    have eS:sj.map V.str++[V.str (FF m)]=(sj++[FF m]).map V.str:=by rw[List.map_append];rfl
    have eL:lps cur (sj++[FF m])=lput (lps cur sj) (FF m):=lps_snoc _ _ _
    by_cases hin:FF m∈lps cur sj
    ·refine L2.ifF (by rw[decide_eq_true hin];rfl) ?_
     refine⟨⟨_,rfl⟩,sc2,by rw[hS2,eS];rfl,?_,hF2⟩
     rw[show [m].map FF=[FF m] from rfl,eL,show lput (lps cur sj) (FF m)=lps cur sj from if_pos hin]
     exact hN2
    ·refine L2.ifT (by rw[decide_eq_false hin];rfl) ?_
     refine⟨_,rfl,.inl ⟨rfl,_,SqL.of hN2⟩,_,rfl,_,rfl,SP,_,_,_,rfl,rfl,SqL.of hS2,atI_last _ _,N,_,_,rfl,rfl,hN2,small1000 (by rw[List.length_map];omega),?_⟩
     refine⟨⟨_,rfl⟩,sc2.trans mk2_updN,by rw[upd_ne SPN,hS2,eS];rfl,?_,by rw[upd_ne (Ne.symm nNF)];exact hF2⟩
     rw[show [m].map FF=[FF m] from rfl,eL,show lput (lps cur sj) (FF m)=lps cur sj++[FF m] from if_neg hin,List.map_append]
     exact upd_same
   ·rintro σ Hc ⟨⟨z9,rfl⟩,sc,hSc,hNc,hFc⟩
    rw[List.length_map,List.take_length] at hSc hNc
    exact hX _ _ ⟨⟨z9,rfl⟩,sc,hSc,hNc,hFc⟩
  rintro σ Hc ⟨⟨z9,rfl⟩,sc,hSc,hNc,hFc⟩
  have sc':=sm.trans sc
  cases hAa with
  | @row t k a b pz hT=>
   have hT':=(sc'.trans mk2_same).seqT hT
   refine⟨_,rfl,t,_,0,_,rfl,rfl,hT',rfl,rfl,_,rfl,L2.ifT (by decide) ?_⟩
   refine⟨_,rfl,.inl ⟨rfl,_,SqL.of hFc⟩,_,rfl,t,_,1,_,rfl,rfl,hT',rfl,_,rfl,SP,_,0,_,rfl,rfl,SqL.of hSc,rfl,_,rfl,SP,_,1,_,rfl,rfl,SqL.of hSc,rfl,_,rfl,t,_,4,_,rfl,rfl,hT',rfl,by show 2≤sizeLine;decide,fun Z hZ=>?_⟩
   have ZN:Z≠N:=fun z=>by rw[z,hNc] at hZ;cases hZ
   have ZF:Z≠F':=fun z=>by rw[z,hFc] at hZ;cases hZ
   have eZ:mk2 N F' (upd Hc Z (.tup [V.int pz,.int 1])) Z=some (.tup [V.int pz,.int 1]):=mk2_at ZN ZF upd_same
   have sZ:=mk2_new (n:=N) (f:=F') (o:=.tup [V.int pz,.int 1]) hZ
   have nZ:upd Hc Z (.tup [V.int pz,.int 1]) N=_:=(upd_ne (Ne.symm ZN)).trans hNc
   have fZ:upd Hc Z (.tup [V.int pz,.int 1]) F'=_:=(upd_ne (Ne.symm ZF)).trans hFc
   generalize upd Hc Z (.tup [V.int pz,.int 1])=Hz at eZ sZ nZ fZ ⊢
   refine⟨by show 4≤sizeLine;decide,fun T hT2=>?_⟩
   have TN:T≠N:=fun z=>by rw[z,nZ] at hT2;cases hT2
   have TF:T≠F':=fun z=>by rw[z,fZ] at hT2;cases hT2
   have eT:mk2 N F' (upd Hz T (.tup [V.str k.wd,.str (FF (S a)),.str (FF (S b)),.ref Z])) T=some (.tup [V.str k.wd,.str (FF (S a)),.str (FF (S b)),.ref Z]):=mk2_at TN TF upd_same
   have sT:=mk2_new (n:=N) (f:=F') (o:=.tup [V.str k.wd,.str (FF (S a)),.str (FF (S b)),.ref Z]) hT2
   have nT:upd Hz T (.tup [V.str k.wd,.str (FF (S a)),.str (FF (S b)),.ref Z]) N=_:=(upd_ne (Ne.symm TN)).trans nZ
   have fT:upd Hz T (.tup [V.str k.wd,.str (FF (S a)),.str (FF (S b)),.ref Z]) F'=_:=(upd_ne (Ne.symm TF)).trans fZ
   generalize upd Hz T (.tup [V.str k.wd,.str (FF (S a)),.str (FF (S b)),.ref Z])=Hd at eT sT nT fT ⊢
   have sd:=((sc'.trans sZ).trans sT).trans (mk2_updF (o:=.lst (fa++[V.ref T])))
   obtain⟨o1,o2⟩:=out_row FF names (P:=Pi) (k:=k) (a:=a) (b:=b) (p:=(pz,1)) srd
   refine⟨F',_,_,rfl,rfl,fT,small1000 (by rw[hLa.length,List.length_append,List.length_map];omega),?_⟩
   refine⟨sa.trans sd,⟨_,_,_,_,_,_,_,_,rfl⟩,?_,_,upd_same,?_⟩
   ·rw[upd_ne nNF,nT]
    show _=some (HO.lst ((lps names ((addRow Pi k a b (pz,1)).ls.map FF)).map V.str))
    rw[o1,hcur]
    rfl
   ·show Lrs K _ _ (pre++(addRow Pi k a b (pz,1)).ds.map (fl (addRow Pi k a b (pz,1)).ls FF))
    rw[o2,← List.append_assoc]
    exact(hLa.same sd).app (.cons (SqT.of (mk2_updF _ _ eT)) (SqT.of (mk2_updF _ _ (sT _ _ eZ))) .nil)
  | @put t l n w X' hT hl=>
   have hT':=(sc'.trans mk2_same).seqT hT
   refine⟨_,rfl,t,_,0,_,rfl,rfl,hT',rfl,rfl,_,rfl,L2.ifF (by decide) ?_⟩
   obtain⟨wd,nlen,xl,e,he,el⟩:=iok
   obtain⟨b1',b2',b3',b4',b5',b6',b7',b8'⟩:=bko.p w e he
   have sac:=sa.trans sc'
   have hwl:w < bs.length:=by rw[hBk.1];exact(List.getElem?_eq_some_iff.mp he).1
   obtain⟨tt,l1,l2,ivs,hv,hTT,h1,h2,hIts⟩:=hBk.2 w _ e (List.getElem?_eq_getElem hwl) he
   refine⟨_,rfl,_,rfl,t,_,2,_,rfl,rfl,hT',rfl,B,bs,(w:Int),.ref tt,rfl,rfl,(sE sac).seq hB,atI_nat (by rw[List.getElem?_eq_getElem hwl,hv]),tt,_,rfl,(sE sac).seqT hTT,rfl,?_⟩
   refine⟨_,_,rfl,_,_,rfl,rfl,fun W hW=>?_⟩
   have hE:=(sE sac).seq h1
   have sW:=mk2_new (n:=N) (f:=F') (o:=.dK []) hW
   have hW1:upd Hc W (.dK []) W=some (.dK []):=upd_same
   have WN:W≠N:=fun z=>by rw[z,hNc] at hW;cases hW
   have WF:W≠F':=fun z=>by rw[z,hFc] at hW;cases hW
   have WS:W≠SP:=fun z=>by rw[z,hSc] at hW;cases hW
   have hN3:upd Hc W (.dK []) N=_:=(upd_ne (Ne.symm WN)).trans hNc
   have hF3:upd Hc W (.dK []) F'=_:=(upd_ne (Ne.symm WF)).trans hFc
   have hS3:upd Hc W (.dK []) SP=_:=(upd_ne (Ne.symm WS)).trans hSc
   generalize upd Hc W (.dK [])=He at sW hW1 hN3 hF3 hS3 ⊢
   have sEe:=sE (sac.trans sW)
   dsimp only[gName]
   have hE2:=sEe.seq h1
   generalize hSp:(msOf (.put n w X')).map FF=Sp at hNc hSc hN3 hS3
   have lSp:(e.1.map S).length=Sp.length:=by rw[← hSp];show _=((X'.map S).map FF).length;rw[List.length_map,List.length_map,List.length_map,el]
   have hEl:e.1.length=Sp.length:=by rw[← lSp,List.length_map]
   refine cut1 (fun σ H'=>(∃z13,σ=[some (.ref B),some (.ref I),some (.str ah),some (.ref D),some (.ref N),some (.ref F'),some (.ref t),some (.ref M),some (.ref SP),z9,some (.ref l1),some (.ref l2),some (.ref W),z13])∧Same (mk2 N F' Hc) (mk2 N F' H')∧(∃kvs,H' W=some (.dK kvs)∧∀x:Str,valV kvs (Sum.inr x:Key)=(wi (e.1.map S) Sp x).map V.str)∧H' N=some (.lst ((lps cur Sp).map V.str))∧H' F'=some (.lst fa)) (fun X hX=>?_) ?_
   ·refine⟨_,rfl,l1,_,rfl,.inl hE2,_,rfl,by omega,?_,?_⟩
    ·rw[List.length_map];omega
    refine for_range (n:=(((e.1.map fun x=>V.str (S x)).length:Nat):Int).toNat) (fun i σ H'=>(∃z13,σ=[some (.ref B),some (.ref I),some (.str ah),some (.ref D),some (.ref N),some (.ref F'),some (.ref t),some (.ref M),some (.ref SP),z9,some (.ref l1),some (.ref l2),some (.ref W),z13])∧Same (mk2 N F' Hc) (mk2 N F' H')∧(∃kvs,H' W=some (.dK kvs)∧kvs.length≤i∧∀x:Str,valV kvs (Sum.inr x:Key)=if lIx (e.1.map S) x < i then (wi (e.1.map S) Sp x).map V.str else none)∧H' SP=some (.lst (Sp.map V.str))∧H' N=some (.lst ((lps cur Sp).map V.str))∧H' F'=some (.lst fa)) ⟨⟨_,rfl⟩,sW,⟨[],hW1,Nat.le_refl _,fun x=>rfl⟩,hS3,hN3,hF3⟩ ?_ ?_
    ·rintro i σ Hf hi ⟨⟨z13,rfl⟩,sf,⟨kv,hWf,kl,hv2⟩,hSf,hNf,hFf⟩
     have hi2:i < e.1.length:=by rw[List.length_map] at hi;omega
     have hi3:i < Sp.length:=by omega
     have gS:(Sp.map V.str)[i]?=some (V.str Sp[i]):=by rw[List.getElem?_map,List.getElem?_eq_getElem hi3];rfl
     have gE:(e.1.map fun x=>V.str (S x))[i]?=some (V.str (S e.1[i])):=by rw[List.getElem?_map,List.getElem?_eq_getElem hi2];rfl
     have gE2:(e.1.map S)[i]?=some (S e.1[i]):=by rw[List.getElem?_map,List.getElem?_eq_getElem hi2];rfl
     have hE3:=(sE (sac.trans sf)).seq h1
     refine⟨_,rfl,_,rfl,SP,_,_,_,rfl,rfl,SqL.of hSf,at_here gS,_,rfl,_,rfl,_,rfl,l1,_,_,_,rfl,rfl,hE3,at_here gE,W,_,rfl,DPut.k (k:=(Sum.inr (S e.1[i]):Key)) hWf (by omega),?_⟩
     refine⟨⟨_,rfl⟩,mk2_chg sf hW,⟨_,upd_same,?_,wi_put b3' gE2 (List.getElem?_eq_getElem hi3) hv2⟩,by rw[upd_ne (Ne.symm WS)];exact hSf,by rw[upd_ne (Ne.symm WN)];exact hNf,by rw[upd_ne (Ne.symm WF)];exact hFf⟩
     have:=length_putK kv (Sum.inr (S e.1[i]):Key) (V.str Sp[i])
     omega
    ·rintro σ Hf ⟨⟨z13,rfl⟩,sf,⟨kv,hWf,kl,hv2⟩,hSf,hNf,hFf⟩
     refine hX _ _ ⟨⟨_,rfl⟩,sf,⟨kv,hWf,wi_end lSp fun x=>?_⟩,hNf,hFf⟩
     rw[hv2 x,List.length_map,List.length_map]
     rfl
   rintro σ Hf ⟨⟨z13,rfl⟩,sf,⟨kv,hWf,hv2⟩,hNf,hFf⟩
   have sg:=sac.trans sf
   cases d with
   |zero=>exact absurd wd (Nat.not_lt_zero _)
   |succ d=>
   have hTf:=((sc'.trans sf).trans mk2_same).seqT hT
   refine⟨_,rfl,_,rfl,_,rfl,_,rfl,t,_,1,_,rfl,rfl,hTf,rfl,?_⟩
   have sn:(S n).length=n.length:=S_len n
   have dl:((".": Str)).length=1:=by decide +kernel
   have inn:=wi_inn (n:=n) hFF dot b1' el b3' b8' b6'
   have hSp':(X'.map S).map FF=Sp:=hSp
   rw[hSp'] at inn
   have hd:wi (e.1.map S) Sp=wi (e.1.map S) Sp:=rfl
   have spl:Sp.length≤10:=by omega
   obtain⟨o1,o2⟩:=out_put FF _ names srd inn
   rw[hcur,show X'.map (FF ∘ S)=Sp by rw[← hSp',List.map_map]] at o1
   have lpl:=lps_len Sp cur
   refine⟨_,_,rfl,rfl,by omega,_,_,rfl,rfl,by rw[len2];omega,_,rfl,_,rfl,_,rfl,?_⟩
   refine⟨B,l2,W,N,F',ah++S n++".",bk,PS,e.2,wi (e.1.map S) Sp,st0 e.1,lps cur Sp,pre++Pi.ds.map (fl Pi.ls FF),fa,bs,ivs,rfl,nNF,?_,hFf,?_,sg.seq hB,hBk.same sg,sg.seq h2,hIts.same sg,⟨kv,mk2_at WN WF hWf,hv2⟩,bko,b6',fun it hit=>(b2' it hit).up (by omega),fun x hx=>?_,by omega,?_,?_,b7',fun x s hs=>?_,fun Hg fg s' hNg hFg hLg=>?_⟩
   ·rw[hNf]
    show _=some (HO.lst ((lps (lps cur Sp) ((e.1.map S).map _)).map V.str))
    rw[wi_map b3' lSp,lps_old fun x hx=>lps_mem.mpr (.inr hx)]
   ·show Lrs K _ fa (pre++Pi.ds.map (fl Pi.ls FF)++[])
    rw[List.append_nil]
    exact hLa.same (sc'.trans sf)
   ·refine List.getElem?_eq_none ?_
    have:=lIx_no (ls:=e.1.map S) (x:=x) fun m=>in_S (x:=[]) m b5' hx
    omega
   ·rw[List.length_append,List.length_map];omega
   ·rw[len2,len2];omega
   ·have hm:s∈Sp:=List.mem_of_getElem? hs
    rw[← hSp'] at hm
    obtain⟨y,hy,rfl⟩:=List.mem_map.mp hm
    rw[← hFF]
    obtain⟨y',hy',rfl⟩:=List.mem_map.mp hy
    refine fm_len fsz (by omega) ?_
    have:=xl y' hy'
    rw[S_len]
    omega
   ·refine⟨sg.trans s',⟨_,_,_,_,_,_,_,_,rfl⟩,?_,fg,hFg,?_⟩
    ·rw[hNg]
     show _=some (HO.lst ((lps names ((addPut Pi n X' (PS.getD w pd0)).ls.map FF)).map V.str))
     rw[o1,b1']
    ·show Lrs K _ fg (pre++(addPut Pi n X' (PS.getD w pd0)).ds.map (fl (addPut Pi n X' (PS.getD w pd0)).ls FF))
     rw[o2,← List.append_assoc,b1']
     exact hLg
 ·rintro σ Ha ⟨sa,⟨z6,z7,z8,z9,z10,z11,z12,z13,rfl⟩,hNa,fa,hFa,hLa⟩
  rw[hIt.length,List.take_length] at hNa hLa
  exact q Ha fa sa hNa hFa hLa
theorem FnOk.no {k:Nat}{ps:List Str}:FnOk P w K mg base CX0 k f fd ps (fun _ _ _ _=>False):=⟨fun _ _ _ _ h=>h.elim,fun _ _ _ _ _ _ _ _ _ _ _ _ _ h=>h.elim⟩
theorem ok_out {dV:Value}(F:FunD K "_law_out" "_law_out" sOut dV f fd)(ml:mg "len"=none)(mr:mg "range"=none)(b1:Binds K fd ["_law_book_here","_law_items_here","_law_ahead","_law_places","_law_names","_law_flat"] [])(k1:PySem.W.keepIn K (.ref f)=true)(m1:mg "_law_out"=some (.ref f)):∀d,FnOk P w K mg base CX0 d f fd ["_law_book_here","_law_items_here","_law_ahead","_law_places","_law_names","_law_flat"] (spO K d)
 |0=>FnOk.no
 |d+1=>ok_out1 F ml mr (ok_out F ml mr b1 k1 m1 d) b1 k1 m1
end
end K84
namespace L2
open PySem PySem.Spec PyProof.Rows
variable {X:Cx}
def rRep1:R2:=fun x y H Q=>∃(d:Nat) (k:Int),x=.str (Tx.S [d])∧y=.int k∧0≤k∧k≤1000∧Q (.str (Tx.S (List.replicate k.toNat d))) H
theorem foldl_rep1 (d:Nat):∀(n:Nat) (a:Array Nat),(List.foldl (fun x1 x2=>x1++x2) a (List.replicate n #[d])).toList=a.toList++List.replicate n d
 |0,a=>by simp
 |n+1,a=>by
  rw[List.replicate_succ,List.foldl_cons,foldl_rep1 d n,List.replicate_succ]
  simp
theorem op_rep1:OpR X (binaryOp .Mult) rRep1:=by
 intro pins s σ H x y v u Q I rx ry h
 obtain⟨d,k,rfl,rfl,h0,h1,q⟩:=h
 obtain⟨t,rfl⟩:=rx
 obtain⟨t',rfl⟩:=ry
 have hz:sizeLine=16777216:=sizeLine_eq
 have l1:(Tx.S [d]).length=1:=rfl
 refine PySem.P.mul_str (by rw[Bool.or_eq_false_iff];exact⟨decide_eq_false (by omega),decide_eq_false (by omega)⟩) (fun hk _=>?_) (fun hk _=>?_) ?_
 ·have hk1:1≤k:=by omega
  have:(1000:Int)≤(2 ^ 63 - 1) / k:=by
   refine Int.le_ediv_of_mul_le (by omega) ?_
   have:1000*k≤1000*1000:=by omega
   omega
  omega
 ·unfold Builtin.Str.tooLong
  exact decide_eq_false (by rw[l1];omega)
 ·split
  ·have e:Tx.S (List.replicate k.toNat d)=Str.empty:=by rw[show k.toNat=0 by omega];rfl
   rw[e] at q
   exact⟨by show (0:Nat)≤_;omega,.str Str.empty,H,I.tok _,⟨_,rfl⟩,q⟩
  ·split
   ·rename_i hk e
    have:k=1:=by
     rw[l1] at e
     simpa using e
    rw[this] at q
    exact⟨.str _,H,I,⟨_,rfl⟩,q⟩
   ·have hl:(⟨List.foldl (fun x1 x2=>x1++x2) #[] (List.replicate k.toNat (Tx.S [d]).cps)⟩:Str)=Tx.S (List.replicate k.toNat d):=Tx.S_of (foldl_rep1 d k.toNat #[])
    rw[hl]
    exact⟨by rw[Tx.S_len,List.length_replicate];omega,.str _,H,I.tok _,⟨_,rfl⟩,q⟩
end L2
namespace K84
open PySem L2 Tx
section
variable {P:Program} {w:World} {K:PySem.W.Frag} {mg:Str→Option Value} {base:Heap} {f g1 g2 g3 g4 g5 g6 g7 g8:Addr} {fd gd1 gd2 gd3 gd4 gd5 gd6 gd7 gd8:FuncData} {CX:CXT}
abbrev sPick:Stmt:=top 53
theorem scPick:FnScope ["_law_script","_law_k"] ["_law_script","_law_k"] (defScope sPick):=⟨rfl,rfl,rfl,by decide +kernel,rfl,by decide +kernel,by decide +kernel⟩
theorem ok_pick {dV:Value}(F:FunD K "_law_pick" "_law_pick" sPick dV f fd):FnOk P w K mg base CX 1 f fd ["_law_script","_law_k"] (spPick K):=by
 refine F.ok scPick (fun vs H Q E h=>?_) (fun cdv A outer s H vs Q E hr h=>?_)
 ·obtain⟨a,ns,j,k,rfl,_⟩:=h
  rfl
 obtain⟨a,ns,_,k,rfl,rfl,hS,h63,q⟩:=h
 refine⟨_,pss_one (ps_ret (pe_ix ix_list (pe_op op_cat (pe_slice sl_list (pv 0) (po_some (pv 1)) (po_some (pe_op op_add (pv 1) pe_int))) (pe_lst (pa_cons pe_int pa_nil))) pe_int (fun _ _=>rfl))),?_⟩
 refine⟨_,rfl,_,rfl,_,rfl,_,rfl,_,_,rfl,rfl,_,rfl,a,_,rfl,hS,fun p hp=>?_⟩
 refine⟨by show 1≤sizeLine;decide,fun p2 hp2=>?_⟩
 have s1:=same_new hp (.lst (cutV (ns.map V.int) (some (k:Int)) (some ((k:Int)+1))))
 have s2:=same_new hp2 (.lst [V.int 0])
 have hc:=cutV_length (ns.map V.int) (some (k:Int)) (some ((k:Int)+1))
 rw[List.length_map] at hc
 refine⟨p,p2,_,_,rfl,rfl,s2 _ _ upd_same,upd_same,?_,fun p3 hp3=>?_⟩
 ·have:sizeLine=16777216:=sizeLine_eq
  simp only[List.length_cons,List.length_nil];omega
 have s3:=same_new hp3 (.lst (cutV (ns.map V.int) (some (k:Int)) (some ((k:Int)+1))++[V.int 0]))
 refine⟨p3,_,0,_,rfl,rfl,SqL.of upd_same,pick_at ns k,q _ ((s1.trans s2).trans s3)⟩
abbrev sMix:Stmt:=top 54
theorem scMix:FnScope ["_law_cell","_law_prime","_law_many","_law_rest","_law_number"] ["_law_cell","_law_prime","_law_many"] (defScope sMix):=⟨rfl,rfl,rfl,by decide +kernel,rfl,by decide +kernel,by decide +kernel⟩
theorem item_some {z:Str}{i:Int}(h0:0≤i)(h1:i < (z.length:Int)):∃c,z.cps[i.toNat]?=some c:=by
 have h:i.toNat < z.cps.size:=by have:z.length=z.cps.size:=rfl;omega
 exact⟨_,Array.getElem?_eq_getElem h⟩
theorem mid_all:((List.range 9).all fun a=>(List.range 9).all fun b=>(Txt.slice "momoommo" (some (a:Int)) (some (b:Int))).cps.toList.all ltB && decide ((Txt.slice "momoommo" (some (a:Int)) (some (b:Int))).cps.toList.length≤b - a))=true:=by decide +kernel
theorem to_all:((List.range 9).all fun b=>(Txt.slice "momoommo" none (some (b:Int))).cps.toList.all ltB && decide ((Txt.slice "momoommo" none (some (b:Int))).cps.toList.length≤b))=true:=by decide +kernel
theorem mid_ok {a b:Nat}(ha:a < 9)(hb:b < 9):∃cs,Txt.slice "momoommo" (some (a:Int)) (some (b:Int))=S cs∧cs.all ltB=true∧cs.length≤b - a:=by
 have h:=List.all_eq_true.mp (List.all_eq_true.mp mid_all a (List.mem_range.mpr ha)) b (List.mem_range.mpr hb)
 rw[Bool.and_eq_true] at h
 exact⟨_,S_self _,h.1,of_decide_eq_true h.2⟩
theorem to_ok {b:Nat}(hb:b < 9):∃cs,Txt.slice "momoommo" none (some (b:Int))=S cs∧cs.all ltB=true∧cs.length≤b:=by
 have h:=List.all_eq_true.mp to_all b (List.mem_range.mpr hb)
 rw[Bool.and_eq_true] at h
 exact⟨_,S_self _,h.1,of_decide_eq_true h.2⟩
theorem let_all:((List.range 26).all fun i=>(("abcdefghijklmnopqrstuvwxyz":Str).cps[i]?).all ltB)=true:=by decide +kernel
theorem let_ok {i:Nat}{d:Nat}(hi:i < 26)(h:("abcdefghijklmnopqrstuvwxyz":Str).cps[i]?=some d):ltB d=true:=by
 have:=List.all_eq_true.mp let_all i (List.mem_range.mpr hi)
 rw[h] at this
 exact this
theorem S_snoc (cs:List Nat)(c:Nat):S cs++(⟨#[c]⟩:Str)=S (cs++[c]):=by rw[← S_app];rfl
def mixB (c p m:Int):Int:=((c % 1000003+1)*p % 999983*((c % 1000003+1)*p % 999983+p) % 1000033).fmod m
def mixF (c p m:Int):Int:=if 10 ^ (18:Int).toNat≤c then (if 0 < c / 2 ^ (1+24*(p % 274)).toNat then (c / 2 ^ (1+24*(p % 274)).toNat).fmod m else mixB c p m) else mixB c p m
theorem mixF_in (c p:Int){m:Int}(hm:0 < m):0≤mixF c p m∧mixF c p m < m:=by
 have hf:∀u:Int,0≤u.fmod m∧u.fmod m < m:=fun u=>⟨Int.fmod_nonneg_of_pos u hm,Int.fmod_lt_of_pos u hm⟩
 unfold mixF mixB
 split
 ·split<;>exact hf _
 ·exact hf _
def spMixF:Sp:=fun vs H Q _=>∃c p m:Int,vs=[.int c,.int p,.int m]∧0≤p∧p < 1099511627776∧0 < m∧Q (.int (mixF c p m)) H
theorem ok_mixF {dV:Value}(F:FunD K "_law_mix" "_law_mix" sMix dV f fd) :
  FnOk P w K mg base CX 1 f fd ["_law_cell","_law_prime","_law_many"] spMixF:=by
 refine F.ok scMix (fun vs H Q E h=>?_) (fun cdv A outer s H vs Q E hr h=>?_)
 ·obtain⟨c,p,m,rfl,h0,h9,hm,q⟩:=h
  rfl
 obtain⟨c,p,m,rfl,h0,h9,hm,q⟩:=h
 refine⟨_,(pss_cons (ps_if (pt_cmpR op_ge (pv 0) (pe_op op_pow pe_int pe_int) (nomark _)) (pss_cons (ps_set (i:=3) scMix.nd rfl (Or.inl rfl) (pe_op op_shr (pv 0) (pe_op op_add pe_int (pe_op op_mul pe_int (pe_op op_mod (pv 1) pe_int)))))
  (pss_one (ps_if (pt_cmpR op_gt (pv 3) pe_int (nomark _)) (pss_one (ps_ret (pe_op op_modN (pv 3) (pv 2)))) pss_nil))) pss_nil)
  (pss_cons (ps_set (i:=4) scMix.nd rfl (Or.inl rfl) (pe_op op_mod (pe_op op_mulB (pe_op op_add (pe_op op_mod (pv 0) pe_int) pe_int) (pv 1)) pe_int))
  (pss_one (ps_ret (pe_op op_modN (pe_op op_mod (pe_op op_mulB (pv 4) (pe_op op_add (pv 4) (pv 1))) pe_int) (pv 2)))))),?_⟩
 have m0:m≠0:=by omega
 refine⟨_,rfl,_,_,rfl,rfl,⟨by decide,by decide,by decide⟩,_,_,rfl,rfl,_,rfl,?_⟩
 have x1:=Int.emod_nonneg c (show (1000003:Int)≠0 by decide)
 have x2:=Int.emod_lt_of_pos c (show (0:Int) < 1000003 by decide)
 have n1:0≤(c % 1000003+1)*p % 999983:=Int.emod_nonneg _ (by decide)
 have n2:(c % 1000003+1)*p % 999983 < 999983:=Int.emod_lt_of_pos _ (by decide)
 have B1:Mq.B 40 (c % 1000003+1):=B_of (by omega) (by omega)
 have B2:Mq.B 40 p:=B_of (by omega) (by omega)
 have B3:Mq.B 41 ((c % 1000003+1)*p % 999983):=B_of (by omega) (by omega)
 have B4:Mq.B 41 ((c % 1000003+1)*p % 999983+p):=B_of (by omega) (by omega)
 refine ite2 (fun hc=>?_) (fun hc=>?_)
 ·have hc':10 ^ (18:Int).toNat≤c:=of_decide_eq_true hc
  have j1:=Int.emod_nonneg p (show (274:Int)≠0 by decide)
  refine⟨_,rfl,_,rfl,_,_,rfl,rfl,(show (0:Int) < 274 by decide),_,_,rfl,rfl,Or.inl ⟨by decide,by decide⟩,_,_,rfl,rfl,_,_,rfl,rfl,by omega,?_⟩
  refine⟨_,rfl,_,_,rfl,rfl,_,rfl,ite2 (fun hd=>?_) (fun hd=>?_)⟩
  ·have hd':0 < c / 2 ^ (1+24*(p % 274)).toNat:=of_decide_eq_true hd
   have ee:mixF c p m=(c / 2 ^ (1+24*(p % 274)).toNat).fmod m:=by unfold mixF;rw[if_pos hc',if_pos hd']
   exact⟨_,rfl,_,rfl,_,_,rfl,rfl,m0,(show Q (.int ((c / 2 ^ (1+24*(p % 274)).toNat).fmod m)) H by rw[← ee];exact q)⟩
  ·have hd':¬0 < c / 2 ^ (1+24*(p % 274)).toNat:=fun z=>hd (decide_eq_true z)
   have ee:mixF c p m=mixB c p m:=by unfold mixF;rw[if_pos hc',if_neg hd']
   refine⟨_,rfl,_,_,rfl,rfl,(show (0:Int) < 1000003 by decide),_,_,rfl,rfl,_,rfl,rd_mulB B1 B2 (by decide) (by decide) ⟨_,_,rfl,rfl,(show (0:Int) < 999983 by decide),?_⟩⟩
   refine⟨_,rfl,_,rfl,_,rfl,_,_,rfl,rfl,rd_mulB B3 B4 (by decide) (by decide) ?_⟩
   exact⟨_,_,rfl,rfl,(show (0:Int) < 1000033 by decide),_,rfl,_,_,rfl,rfl,m0,(show Q (.int (mixB c p m)) H by rw[← ee];exact q)⟩
 ·have hc':¬10 ^ (18:Int).toNat≤c:=fun z=>hc (decide_eq_true z)
  have ee:mixF c p m=mixB c p m:=by unfold mixF;rw[if_neg hc']
  refine⟨_,rfl,_,_,rfl,rfl,(show (0:Int) < 1000003 by decide),_,_,rfl,rfl,_,rfl,rd_mulB B1 B2 (by decide) (by decide) ⟨_,_,rfl,rfl,(show (0:Int) < 999983 by decide),?_⟩⟩
  refine⟨_,rfl,_,rfl,_,rfl,_,_,rfl,rfl,rd_mulB B3 B4 (by decide) (by decide) ?_⟩
  exact⟨_,_,rfl,rfl,(show (0:Int) < 1000033 by decide),_,rfl,_,_,rfl,rfl,m0,(show Q (.int (mixB c p m)) H by rw[← ee];exact q)⟩
def nmS (c k:Int):Str:=if mixF c 48271 3=1 then S (List.replicate (k % 8).toNat 120)++⟨#[("xyz":Str).cps.getD (k / 8).toNat 0]⟩ else Txt.slice "momoommo" none (some (mixF c 69621 8))++⟨#[("abcdefghijklmnopqrstuvwxyz":Str).cps.getD k.toNat 0]⟩++Txt.slice "momoommo" (some (mixF c 69621 8+1)) (some (mixF c 69621 8+1+mixF c 16807 (8 - mixF c 69621 8)))
def spNameL:Sp:=fun vs H Q _=>∃(k:Int) (c:Int),vs=[.int k,.int c]∧0≤k∧k < 20∧Q (.str (nmS c k)) H
theorem getD_is {z:Array Nat}{i d:Nat}(h:z[i]?=some d):z.getD i 0=d:=by rw[Array.getD_eq_getD_getElem?,h];rfl
theorem nm_ok {c k:Int}(k0:0≤k)(k20:k < 20):∃cs,nmS c k=S cs∧nmB cs=true:=by
 unfold nmS
 have m0:=Int.emod_nonneg k (show (8:Int)≠0 by decide)
 have m8:=Int.emod_lt_of_pos k (show (0:Int) < 8 by decide)
 by_cases h:mixF c 48271 3=1
 ·rw[if_pos h]
  have e3:("xyz":Str).length=3:=by decide +kernel
  obtain⟨d,hd⟩:=item_some (z:=("xyz":Str)) (i:=k / 8) (by omega) (by rw[e3];omega)
  rw[getD_is hd,S_snoc]
  refine⟨_,rfl,?_⟩
  have hd2:ltB d=true:=by
   have:k / 8=0∨k / 8=1∨k / 8=2:=by omega
   rcases this with h | h | h<;>rw[h] at hd<;>(have:=Option.some.inj hd;subst this;decide +kernel)
  unfold nmB
  rw[List.all_append,List.length_append,List.length_replicate,decide_eq_true (by simp only[List.length_cons,List.length_nil];omega),Bool.true_and]
  rw[show ([d]:List Nat).all ltB=true by simp[hd2],Bool.and_true]
  rw[List.all_eq_true]
  intro x hx
  rw[(List.mem_replicate.mp hx).2]
  decide
 ·rw[if_neg h]
  obtain⟨p0,p8⟩:=mixF_in c 69621 (show (0:Int) < 8 by decide)
  obtain⟨z0,z8⟩:=mixF_in c 16807 (show (0:Int) < 8 - mixF c 69621 8 by omega)
  generalize mixF c 16807 (8 - mixF c 69621 8)=sz at z0 z8 ⊢
  generalize mixF c 69621 8=pl at p0 p8 z8 ⊢
  obtain⟨pn,rfl⟩:∃pn:Nat,pl=(pn:Int):=⟨pl.toNat,by omega⟩
  obtain⟨sn,hsn⟩:∃sn:Nat,(pn:Int)+1+sz=(sn:Int):=⟨((pn:Int)+1+sz).toNat,by omega⟩
  rw[hsn,show (pn:Int)+1=((pn+1:Nat):Int) by omega]
  have eL:("abcdefghijklmnopqrstuvwxyz":Str).length=26:=by decide +kernel
  obtain⟨c1,h1,a1,l1⟩:=to_ok (b:=pn) (by omega)
  obtain⟨c2,h2,a2,l2⟩:=mid_ok (a:=pn+1) (b:=sn) (by omega) (by omega)
  obtain⟨d,hd⟩:=item_some (z:=("abcdefghijklmnopqrstuvwxyz":Str)) (i:=k) (by omega) (by rw[eL];omega)
  rw[h1,h2,getD_is hd,S_snoc,S_app]
  refine⟨_,rfl,?_⟩
  have hd2:=let_ok (i:=k.toNat) (by omega) hd
  unfold nmB
  rw[List.all_append,List.all_append,a1,a2,List.length_append,List.length_append,decide_eq_true (by simp only[List.length_cons,List.length_nil];omega)]
  simp[hd2]
abbrev sNameL:Stmt:=top 55
theorem scNameL:FnScope ["_law_k","_law_cell","_law_place","_law_size","_law_text"] ["_law_k","_law_cell"] (defScope sNameL):=⟨rfl,rfl,rfl,by decide +kernel,rfl,by decide +kernel,by decide +kernel⟩
theorem ok_namel {dV:Value}(F:FunD K "_law_name" "_law_name" sNameL dV f fd)(G1:FnOk P w K mg base CX0 1 g1 gd1 ["_law_cell","_law_prime","_law_many"] spMixF)(b1:Binds K gd1 ["_law_cell","_law_prime","_law_many"] [])(k1:PySem.W.keepIn K (.ref g1)=true)(m1:mg "_law_mix"=some (.ref g1)) :
  FnOk P w K mg base CX 2 f fd ["_law_k","_law_cell"] spNameL:=by
 refine F.ok scNameL (fun vs H Q E h=>?_) (fun cdv A outer s H vs Q E hr h=>?_)
 ·obtain⟨k,c,rfl,k0,k20,q⟩:=h
  rfl
 obtain⟨k,c,rfl,k0,k20,q⟩:=h
 have hz:sizeLine=16777216:=sizeLine_eq
 unfold nmS at q
 refine⟨_,(pss_cons (ps_if (pt_cmpR op_eq (pe_call G1 hr rfl m1 k1 b1 .nil pass0 (pa_cons (pv 1) (pa_cons pe_int (pa_cons pe_int pa_nil)))) pe_int (nomark _)) (pss_one (ps_ret (pe_op op_add_str (pe_op op_rep1 pe_str (pe_op op_mod (pv 0) pe_int)) (pe_item_str pe_str (pe_op op_fdiv (pv 0) pe_int) (fun _ _=>rfl))))) pss_nil)
  (pss_cons (ps_set (i:=2) scNameL.nd rfl (Or.inl rfl) (pe_call G1 hr rfl m1 k1 b1 .nil pass0 (pa_cons (pv 1) (pa_cons pe_int (pa_cons pe_int pa_nil)))))
  (pss_cons (ps_set (i:=3) scNameL.nd rfl (Or.inl rfl) (pe_op op_add (pe_op op_add (pv 2) pe_int) (pe_call G1 hr rfl m1 k1 b1 .nil pass0 (pa_cons (pv 1) (pa_cons pe_int (pa_cons (pe_op op_sub pe_int (pv 2)) pa_nil))))))
  (pss_cons (ps_set (i:=4) scNameL.nd rfl (Or.inl rfl) pe_str)
  (pss_one (ps_ret (pe_op op_add_str (pe_op op_add_str (pe_slice sl_str (pv 4) po_none (po_some (pv 2))) (pe_item_str pe_str (pv 0) (fun _ _=>rfl))) (pe_slice sl_str (pv 4) (po_some (pe_op op_add (pv 2) pe_int)) (po_some (pv 3)))))))))),?_⟩
 refine⟨_,rfl,c,48271,3,rfl,by decide,by decide,by decide,rfl,_,rfl,ite2 (fun h=>?_) (fun h=>?_)⟩
 ·have h:mixF c 48271 3=1:=by have:=of_decide_eq_true h;injection this
  rw[if_pos h] at q
  have m0:=Int.emod_nonneg k (show (8:Int)≠0 by decide)
  have m8:=Int.emod_lt_of_pos k (show (0:Int) < 8 by decide)
  have e3:("xyz":Str).length=3:=by decide +kernel
  refine⟨_,rfl,_,_,rfl,rfl,(show (0:Int) < 8 by decide),120,_,(by rw[show ("x":Str)=S [120] by decide +kernel]),rfl,m0,by omega,?_⟩
  obtain⟨d,hd⟩:=item_some (z:=("xyz":Str)) (i:=k / 8) (by omega) (by rw[e3];omega)
  rw[getD_is hd] at q
  refine⟨_,rfl,_,_,rfl,rfl,⟨by decide,by decide⟩,_,_,d,rfl,rfl,by omega,by omega,by rw[e3];omega,hd,_,_,rfl,rfl,?_,q⟩
  rw[S_len,List.length_replicate];show _+1≤sizeLine;omega
 ·have h:¬mixF c 48271 3=1:=fun z=>h (by rw[z];rfl)
  rw[if_neg h] at q
  obtain⟨p0,p8⟩:=mixF_in c 69621 (show (0:Int) < 8 by decide)
  obtain⟨z0,z8⟩:=mixF_in c 16807 (show (0:Int) < 8 - mixF c 69621 8 by omega)
  refine⟨_,rfl,c,69621,8,rfl,by decide,by decide,by decide,?_⟩
  refine⟨_,rfl,_,_,rfl,rfl,_,rfl,_,rfl,_,_,rfl,rfl,c,16807,_,rfl,by decide,by decide,by omega,⟨_,_,rfl,rfl,?_⟩⟩
  show gName 3 (.int (mixF c 69621 8+1+mixF c 16807 (8 - mixF c 69621 8))) _ _ _
  generalize mixF c 16807 (8 - mixF c 69621 8)=sz at z0 z8 q ⊢
  generalize mixF c 69621 8=pl at p0 p8 z8 q ⊢
  have em:("momoommo":Str).length=8:=by decide +kernel
  have eL:("abcdefghijklmnopqrstuvwxyz":Str).length=26:=by decide +kernel
  have sl1:=Txt.slice_le "momoommo" none (some pl)
  have sl2:=Txt.slice_le "momoommo" (some (pl+1)) (some (pl+1+sz))
  refine⟨_,rfl,_,rfl,pl,rfl,_,rfl,by rw[em];omega,?_⟩
  obtain⟨d,hd⟩:=item_some (z:=("abcdefghijklmnopqrstuvwxyz":Str)) (i:=k) (by omega) (by rw[eL];omega)
  rw[getD_is hd] at q
  refine⟨_,rfl,_,_,d,rfl,rfl,by omega,by omega,by rw[eL];omega,hd,_,_,rfl,rfl,?_,?_⟩
  ·show _+1≤sizeLine;omega
  refine⟨_,rfl,_,rfl,_,_,rfl,rfl,pl+1,rfl,_,rfl,pl+1+sz,rfl,_,rfl,by rw[em];omega,?_⟩
  refine⟨_,_,rfl,rfl,?_,q⟩
  have l1:(Txt.slice "momoommo" none (some pl)++(⟨#[d]⟩:Str):Str).length=(Txt.slice "momoommo" none (some pl)).length+1:=by
   show ((Txt.slice "momoommo" none (some pl)).cps++#[d]).size=_
   rw[Array.size_append];rfl
  omega
theorem lets4:∀i j:Fin 4,("abcdefghijklmnopqrstuvwxyz":Str).cps.getD i.val 0=("abcdefghijklmnopqrstuvwxyz":Str).cps.getD j.val 0→i=j:=by decide +kernel
theorem nmS_inj {c:Int}{i j:Nat}(hi:i < 4)(hj:j < 4)(h:nmS c (i:Int)=nmS c (j:Int)):i=j:=by
 have h:(nmS c (i:Int)).cps=(nmS c (j:Int)).cps:=congrArg Str.cps h
 unfold nmS at h
 by_cases c1:mixF c 48271 3=1
 ·rw[if_pos c1,if_pos c1] at h
  have h:((S (List.replicate ((i:Int) % 8).toNat 120)).cps++#[_]).size=((S (List.replicate ((j:Int) % 8).toNat 120)).cps++#[_]).size:=congrArg Array.size h
  rw[Array.size_append,Array.size_append] at h
  have e1:∀k:Nat,(S (List.replicate k 120)).cps.size=k:=fun k=>by show (List.toArray (List.replicate k 120)).size=k;simp
  rw[e1,e1] at h
  simp only[Array.size_singleton] at h
  omega
 ·rw[if_neg c1,if_neg c1] at h
  generalize Txt.slice "momoommo" none (some (mixF c 69621 8))=A at h
  generalize Txt.slice "momoommo" (some (mixF c 69621 8+1)) (some (mixF c 69621 8+1+mixF c 16807 (8 - mixF c 69621 8)))=B at h
  have h:(A.cps++#[("abcdefghijklmnopqrstuvwxyz":Str).cps.getD ((i:Int)).toNat 0])++B.cps=(A.cps++#[("abcdefghijklmnopqrstuvwxyz":Str).cps.getD ((j:Int)).toNat 0])++B.cps:=h
  have h:=congrArg Array.toList h
  rw[Array.toList_append,Array.toList_append,Array.toList_append,Array.toList_append] at h
  have h:=List.append_cancel_left (List.append_cancel_right h)
  have h:("abcdefghijklmnopqrstuvwxyz":Str).cps.getD ((i:Int)).toNat 0=("abcdefghijklmnopqrstuvwxyz":Str).cps.getD ((j:Int)).toNat 0:=(List.cons.inj h).1
  have:=lets4 ⟨i,hi⟩ ⟨j,hj⟩ h
  exact congrArg Fin.val this
theorem at_strs {nms:List (List Nat)}{q:Int}(h0:0≤q)(h1:q < nms.length):∃a∈nms,atI (nms.map fun x=>V.str (S x)) q=some (.str (S a)):=by
 have hq:q.toNat < nms.length:=by omega
 refine⟨nms[q.toNat],List.getElem_mem hq,?_⟩
 have:=atI_nat (xs:=nms.map fun x=>V.str (S x)) (j:=q.toNat) (v:=V.str (S nms[q.toNat])) (by rw[List.getElem?_map,List.getElem?_eq_getElem hq];rfl)
 rwa [show ((q.toNat:Nat):Int)=q by omega] at this
theorem p12:(10:Int) ^ (12:Int).toNat=1000000000000:=by decide
theorem call_len_seqK {X:Cx}{K:PySem.W.Frag}(h:X.K=K):CallR X (.builtin "len") (fun xs H Q=>∃p ys,xs=[.ref p]∧(SqL K H p ys∨SqT K H p ys)∧Q (.int ys.length) H):=by subst h;exact call_len_seq
def nw (H H':Hp):Hp:=fun a=>match H a with
 |none=>H' a
 |some _=>none
theorem nw_at {H H':Hp}{a:Addr}{o:HO}(h:H a=none)(e:H' a=some o):nw H H' a=some o:=by unfold nw;rw[h];exact e
theorem nw_same {H H':Hp}:Same (nw H H') H':=fun a u e=>by
 unfold nw at e
 cases c:H a with
 |some _=>rw[c] at e;cases e
 |none=>rw[c] at e;exact e
def Sz (p:Mq.Q2):Prop:=∃m:Int,1≤m∧m≤1000000000000∧(p=(m,1)∨p=(1,m))
def spRowI (K:PySem.W.Frag):Sp:=fun vs H Q _=>∃(c:Int) (l:Addr) (nms:List (List Nat)),vs=[.int c,.ref l]∧SqL K H l (nms.map fun x=>V.str (S x))∧1≤nms.length∧nms.length≤10∧∀v H' k a b p,Same H H'→ItAt K (nw H H') v (.row k a b p)→a∈nms→b∈nms→Sz p→Q v H'
abbrev sRowI:Stmt:=top 56
theorem scRowI:FnScope ["_law_cell","_law_names","_law_word","_law_one","_law_other"] ["_law_cell","_law_names"] (defScope sRowI):=⟨rfl,rfl,rfl,by decide +kernel,rfl,by decide +kernel,by decide +kernel⟩
theorem ok_rowi {dV:Value}(F:FunD K "_law_row" "_law_row" sRowI dV f fd)(ml:mg "len"=none)(G1:FnOk P w K mg base CX0 1 g1 gd1 ["_law_cell","_law_prime","_law_many"] spMixF)(b1:Binds K gd1 ["_law_cell","_law_prime","_law_many"] [])(k1:PySem.W.keepIn K (.ref g1)=true)(m1:mg "_law_mix"=some (.ref g1)) :
  FnOk P w K mg base CX 2 f fd ["_law_cell","_law_names"] (spRowI K):=by
 refine F.ok scRowI (fun vs H Q E h=>?_) (fun cdv A outer s H vs Q E hr h=>?_)
 ·obtain⟨c,l,nms,rfl,hS,n1,n10,q⟩:=h
  rfl
 obtain⟨c,l,nms,rfl,hS,n1,n10,q⟩:=h
 have hz:sizeLine=16777216:=sizeLine_eq
 refine⟨_,(pss_cons (ps_set (i:=2) scRowI.nd rfl (Or.inl rfl) (pe_ix ix_list (pe_lst (pa_cons pe_str (pa_cons pe_str (pa_cons pe_str pa_nil)))) (pe_call G1 hr rfl m1 k1 b1 .nil pass0 (pa_cons (pv 0) (pa_cons pe_int (pa_cons pe_int pa_nil)))) (fun _ _=>rfl)))
  (pss_cons (ps_set (i:=3) scRowI.nd rfl (Or.inl rfl) (pe_ix ix_list (pv 1) (pe_call G1 hr rfl m1 k1 b1 .nil pass0 (pa_cons (pv 0) (pa_cons pe_int (pa_cons (pe_callB call_len_seq rfl ml PySem.boot_len (pa_cons (pv 1) pa_nil)) pa_nil)))) (fun _ _=>rfl)))
  (pss_cons (ps_set (i:=4) scRowI.nd rfl (Or.inl rfl) (pe_ix ix_list (pv 1) (pe_call G1 hr rfl m1 k1 b1 .nil pass0 (pa_cons (pv 0) (pa_cons pe_int (pa_cons (pe_callB call_len_seq rfl ml PySem.boot_len (pa_cons (pv 1) pa_nil)) pa_nil)))) (fun _ _=>rfl)))
  (pss_one (ps_ret (pe_tup (pa_cons pe_str (pa_cons (pv 2) (pa_cons (pv 3) (pa_cons (pv 4) (pa_cons (pe_op op_add pe_int (pe_op op_mod (pe_op op_shr (pv 0) pe_int) (pe_op op_pow pe_int pe_int))) pa_nil))))))))))),?_⟩
 refine⟨by show 3≤sizeLine;decide,fun L hL=>?_⟩
 have s1:=same_new hL (.lst [V.str "piece",.str "push",.str "hold"])
 have e1:upd H L (.lst [V.str "piece",.str "push",.str "hold"]) L=some (.lst [V.str "piece",.str "push",.str "hold"]):=upd_same
 generalize upd H L (.lst [V.str "piece",.str "push",.str "hold"])=H1 at s1 e1 ⊢
 obtain⟨r0,r3⟩:=mixF_in c 48271 (show (0:Int) < 3 by decide)
 refine⟨_,rfl,c,48271,3,rfl,by decide,by decide,by decide,?_⟩
 obtain⟨k,ek⟩:=at3 r0 r3
 refine⟨L,_,_,_,rfl,rfl,SqL.of e1,ek,?_⟩
 have hS1:=s1.seq hS
 have hm:(nms.map fun x=>V.str (S x)).length=nms.length:=List.length_map ..
 have nl:(0:Int) < ((nms.map fun x=>V.str (S x)).length:Int):=by omega
 obtain⟨q10,q1n⟩:=mixF_in c 69621 nl
 obtain⟨q20,q2n⟩:=mixF_in c 16807 nl
 refine⟨_,rfl,_,rfl,_,rfl,l,_,rfl,.inl hS1,c,69621,_,rfl,by decide,by decide,nl,?_⟩
 obtain⟨a,ha,ea⟩:=at_strs (nms:=nms) q10 (by omega)
 refine⟨l,_,_,_,rfl,rfl,hS1,ea,?_⟩
 refine⟨_,rfl,_,rfl,_,rfl,l,_,rfl,.inl hS1,c,16807,_,rfl,by decide,by decide,nl,?_⟩
 obtain⟨b,hb,eb⟩:=at_strs (nms:=nms) q20 (by omega)
 refine⟨l,_,_,_,rfl,rfl,hS1,eb,?_⟩
 have a1:=Int.emod_nonneg (c / 2 ^ (1:Int).toNat) (show (10 ^ (12:Int).toNat:Int)≠0 by decide)
 have a2:=Int.emod_lt_of_pos (c / 2 ^ (1:Int).toNat) (show (0:Int) < 10 ^ (12:Int).toNat by decide)
 obtain⟨n,hn⟩:∃n,1+c / 2 ^ (1:Int).toNat % 10 ^ (12:Int).toNat=n:=⟨_,rfl⟩
 rw[p12] at a2
 have n2:1≤n:=by rw[← hn];rw[p12] at a1 ⊢;omega
 have n9:n≤1000000000000:=by rw[← hn];rw[p12];omega
 refine⟨_,rfl,_,rfl,_,rfl,_,rfl,_,_,rfl,rfl,(show (0:Int)≤1 by decide),_,_,rfl,rfl,⟨by decide,by decide,by decide⟩,_,_,rfl,rfl,(show (0:Int) < 10 ^ (12:Int).toNat by decide),_,_,rfl,rfl,by show 5≤sizeLine;decide,fun T hT=>?_⟩
 simp only[hn] at hT ⊢
 have sT:=same_new hT (.tup [V.str "row",.str k.wd,.str (S a),.str (S b),.int n])
 exact q _ _ k a b (n,1) (s1.trans sT) (.row (SqT.of (nw_at (s1.free hT) upd_same))) ha hb ⟨n,n2,n9,.inl rfl⟩
def nmL (c:Int)(k:Nat):List Nat:=(nmS c (k:Int)).cps.toList
theorem nmL_S (c:Int)(k:Nat):S (nmL c k)=nmS c (k:Int):=(S_self _).symm
theorem nmL_ok {c:Int}{k:Nat}(h:k < 20):nmB (nmL c k)=true:=by
 obtain⟨cs,e,b⟩:=nm_ok (c:=c) (k:=(k:Int)) (by omega) (by omega)
 unfold nmL
 rw[e]
 exact b
theorem nmL_inj {c:Int}{i j:Nat}(hi:i < 4)(hj:j < 4)(h:nmL c i=nmL c j):i=j:=nmS_inj (c:=c) hi hj (by rw[← nmL_S,← nmL_S,h])
section
variable {H Ha H':Hp} {I:Addr}
theorem nw_up {o:HO}(s:Same H Ha)(h:Ha I=some o):Same (nw Ha H') (nw H (mk2 I I H')):=fun a u e=>by
 unfold nw at e
 cases c:Ha a with
 |some _=>rw[c] at e;cases e
 |none=>
  rw[c] at e
  exact nw_at (s.free c) (mk2_at (fun z=>by rw[z,h] at c;cases c) (fun z=>by rw[z,h] at c;cases c) e)
theorem nw_mono {G G':Hp}(s:Same G G'):Same (nw H G) (nw H G'):=fun a u e=>by
 unfold nw at e
 cases c:H a with
 |some _=>rw[c] at e;cases e
 |none=>rw[c] at e;exact nw_at c (s _ _ e)
end
def ItG (bk:Bk)(nms:List (List Nat))(c:Int):It→Prop
 | .row _ a b p=>a∈nms∧b∈nms∧Sz p
 | .put n w X=>(∃j:Nat,j < 4∧n=nmL c j)∧∃e,bk[w]?=some e∧X.length=e.1.length∧∀x∈X,x∈nms
def Pn:It→Option (List Nat)
 | .row _ _ _ _=>none
 | .put n _ _=>some n
def isR:It→Bool
 | .row _ _ _ _=>true
 | .put _ _ _=>false
structure Gi (bk:Bk) (nms:List (List Nat)) (c:Int) (r m:Nat) (its:List It):Prop where
 g:∀it∈its,ItG bk nms c it
 n:(its.filterMap Pn).Nodup
 p:∀n∈its.filterMap Pn,∃j,j < 2+m∧n=nmL c j∧2≤j
 cr:its.countP isR≤r
 cm:(its.filterMap Pn).length≤m
 cl:its.length≤r+m
theorem Gi.nil {bk:Bk}{nms:List (List Nat)}{c:Int}:Gi bk nms c 0 0 []:=⟨fun _ h=>(by cases h),List.nodup_nil,fun _ h=>(by cases h),Nat.le_refl _,Nat.le_refl _,Nat.le_refl _⟩
theorem Gi.up {bk:Bk}{nms:List (List Nat)}{c:Int}{r m r' m':Nat}{its:List It}(h:Gi bk nms c r m its)(h1:r≤r')(h2:m≤m'):Gi bk nms c r' m' its:=
 ⟨h.g,h.n,fun n hn=>by obtain⟨j,a,b⟩:=h.p n hn;exact⟨j,by omega,b⟩,Nat.le_trans h.cr h1,Nat.le_trans h.cm h2,Nat.le_trans h.cl (by omega)⟩
theorem Gi.row {bk:Bk}{nms:List (List Nat)}{c:Int}{r:Nat}{its:List It}{k:Kd}{a b:List Nat}{p:Mq.Q2}(h:Gi bk nms c r 0 its)(g:ItG bk nms c (.row k a b p)):Gi bk nms c (r+1) 0 (its++[.row k a b p]):=by
 have e:(its++[It.row k a b p]).filterMap Pn=its.filterMap Pn:=by rw[List.filterMap_append];exact List.append_nil _
 refine⟨fun it hit=>?_,by rw[e];exact h.n,by rw[e];exact h.p,?_,by rw[e];exact h.cm,?_⟩
 ·rcases List.mem_append.mp hit with hit | hit
  ·exact h.g it hit
  ·rw[List.mem_singleton.mp hit];exact g
 ·rw[List.countP_append]
  have:=h.cr
  show _+1≤_
  omega
 ·rw[List.length_append]
  have:=h.cl
  show _+1≤_
  omega
theorem Gi.put {bk:Bk}{nms:List (List Nat)}{c:Int}{r m:Nat}{its:List It}{w k:Nat}{X:List (List Nat)}(hm:m < 2)(h:Gi bk nms c r m its)(g:ItG bk nms c (.put (nmL c (m+2)) w X)):Gi bk nms c r (m+1) (its.take k++.put (nmL c (m+2)) w X :: its.drop k):=by
 have pm:(its.take k++It.put (nmL c (m+2)) w X :: its.drop k).Perm (.put (nmL c (m+2)) w X :: its):=by
  have:=List.perm_middle (a:=It.put (nmL c (m+2)) w X) (l₁:=its.take k) (l₂:=its.drop k)
  rwa [List.take_append_drop] at this
 have pf:=pm.filterMap Pn
 have ef:(It.put (nmL c (m+2)) w X :: its).filterMap Pn=nmL c (m+2) :: its.filterMap Pn:=rfl
 rw[ef] at pf
 refine⟨fun it hit=>?_,?_,fun n hn=>?_,?_,?_,?_⟩
 ·rcases List.mem_cons.mp (pm.mem_iff.mp hit) with rfl | hit
  ·exact g
  ·exact h.g it hit
 ·refine pf.nodup_iff.mpr (List.nodup_cons.mpr ⟨fun z=>?_,h.n⟩)
  obtain⟨j,a,b,_⟩:=h.p _ z
  have:=nmL_inj (c:=c) (by omega) (by omega) b
  omega
 ·rcases List.mem_cons.mp (pf.mem_iff.mp hn) with rfl | hn
  ·exact⟨m+2,by omega,rfl,by omega⟩
  ·obtain⟨j,a,b⟩:=h.p n hn
   exact⟨j,by omega,b⟩
 ·rw[pm.countP_eq]
  exact h.cr
 ·rw[pf.length_eq]
  exact Nat.succ_le_succ h.cm
 ·rw[pm.length_eq]
  exact Nat.succ_le_succ h.cl
theorem Its.ins {K:PySem.W.Frag}{H:Hp}{v:V}{it:It}(hv:ItAt K H v it):∀(k:Nat) {xs:List V} {rs:List It},Its K H xs rs→Its K H (xs.take k++v :: xs.drop k) (rs.take k++it :: rs.drop k)
 |0,_,_,h=>.cons hv h
 |k+1,_,_,.nil=>.cons hv .nil
 |k+1,_,_,.cons a r=>.cons a (Its.ins hv k r)
theorem Its.app {K:PySem.W.Frag}{H:Hp}:∀{xs ys:List V} {rs qs:List It},Its K H xs rs→Its K H ys qs→Its K H (xs++ys) (rs++qs)
 |_,_,_,_,.nil,h=>h
 |_,_,_,_,.cons a r,h=>.cons a (Its.app r h)
def spItems (K:PySem.W.Frag):Sp:=fun vs H Q _=>∃(s B l:Addr) (ns:List Int) (at':Nat) (c:Int) (bs:List V) (bk:Bk) (nms:List (List Nat)),vs=[.ref s,.int (at':Int),.ref B,.ref l,.int c]∧SqL K H s (ns.map V.int)∧ns.length≤63∧SqL K H B bs∧BkAt K H bs bk∧bk.length≤3∧(∀e∈bk,e.1.length≤10)∧SqL K H l (nms.map fun x=>V.str (S x))∧1≤nms.length∧nms.length≤10∧
  ∀I is its H',H I=none→Same H H'→H' I=some (.lst is)→Its K (nw H (mk2 I I H')) is its→Gi bk nms c 2 2 its→its≠[]→Q (.ref I) H'
theorem nd_j_number_names:(["_law_j","_law_number","_law_names"]:List Str).Nodup:=by decide +kernel
abbrev sItems:Stmt:=top 57
theorem scItems:FnScope ["_law_script","_law_at","_law_book_here","_law_names","_law_cell","_law_items_here","_law_k","_law_number","_law_which","_law_many","_law_spots"] ["_law_script","_law_at","_law_book_here","_law_names","_law_cell"] (defScope sItems):=⟨rfl,rfl,rfl,by decide +kernel,rfl,by decide +kernel,by decide +kernel⟩
theorem ok_items {dV:Value}(F:FunD K "_law_items" "_law_items" sItems dV f fd)(ml:mg "len"=none)(mr:mg "range"=none)(G1:FnOk P w K mg base CX0 1 g1 gd1 ["_law_script","_law_k"] (spPick K))(b1:Binds K gd1 ["_law_script","_law_k"] [])(k1:PySem.W.keepIn K (.ref g1)=true)(m1:mg "_law_pick"=some (.ref g1))(G2:FnOk P w K mg base CX0 1 g2 gd2 ["_law_cell","_law_prime","_law_many"] spMixF)(b2:Binds K gd2 ["_law_cell","_law_prime","_law_many"] [])(k2:PySem.W.keepIn K (.ref g2)=true)(m2:mg "_law_mix"=some (.ref g2))(G3:FnOk P w K mg base CX0 2 g3 gd3 ["_law_cell","_law_names"] (spRowI K))(b3:Binds K gd3 ["_law_cell","_law_names"] [])(k3:PySem.W.keepIn K (.ref g3)=true)(m3:mg "_law_row"=some (.ref g3))(G5:FnOk P w K mg base CX0 2 g5 gd5 ["_law_k","_law_cell"] spNameL)(b5:Binds K gd5 ["_law_k","_law_cell"] [])(k5:PySem.W.keepIn K (.ref g5)=true)(m5:mg "_law_name"=some (.ref g5)) :
  FnOk P w K mg base CX 3 f fd ["_law_script","_law_at","_law_book_here","_law_names","_law_cell"] (spItems K):=by
 refine F.ok scItems (fun vs H Q E h=>?_) (fun cdv A outer s H vs Q E hr h=>?_)
 ·obtain⟨sc,B,l,ns,at',c,bs,bk,nms,rfl,hN,n63,hB,hBk,bb3,el,hS,n1,n10,q⟩:=h
  rfl
 obtain⟨sc,B,l,ns,at',c,bs,bk,nms,rfl,hN,n63,hB,hBk,bb3,el,hS,n1,n10,q⟩:=h
 have hz:sizeLine=16777216:=sizeLine_eq
 have r1:=hr.mono (show 1≤2 by omega)
 refine⟨_,(pss_cons (ps_set (i:=5) scItems.nd rfl (Or.inl rfl) (pe_lst pa_nil))
  (pss_cons (ps_for PassesOwn.never rfl (pi_range1 rfl mr (pa_cons (pe_op op_add pe_int (pe_call G2 r1 rfl m2 k2 b2 .nil pass0 (pa_cons (pe_call G1 r1 rfl m1 k1 b1 .nil pass0 (pa_cons (pv 0) (pa_cons (pv 1) pa_nil))) (pa_cons pe_int (pa_cons pe_int pa_nil))))) pa_nil)) (pg_name (i:=6) scItems.nd rfl (Or.inl rfl))
   (pss_one (ps_expr (pe_bm PySem.F.plainAttrs_list PySem.F.slot_list_append PySem.F.type_list_append mt_append (pv 5) (pa_cons (pe_call G3 hr rfl m3 k3 b3 .nil pass0 (pa_cons (pe_call G1 r1 rfl m1 k1 b1 .nil pass0 (pa_cons (pv 0) (pa_cons (pe_op op_add (pe_op op_add (pv 1) pe_int) (pv 6)) pa_nil))) (pa_cons (pv 3) pa_nil))) pa_nil)))))
  (pss_cons (ps_if (pt_cmpR op_gt (pe_callB call_len_seq rfl ml PySem.boot_len (pa_cons (pv 2) pa_nil)) pe_int (nomark _)) (pss_one (ps_for PassesOwn.never rfl (pi_range1 rfl mr (pa_cons (pe_call G2 r1 rfl m2 k2 b2 .nil pass0 (pa_cons (pe_call G1 r1 rfl m1 k1 b1 .nil pass0 (pa_cons (pv 0) (pa_cons (pv 1) pa_nil))) (pa_cons pe_int (pa_cons pe_int pa_nil)))) pa_nil)) (pg_name (i:=6) scItems.nd rfl (Or.inl rfl))
   (pss_cons (ps_set (i:=7) scItems.nd rfl (Or.inr rfl) (pe_call G1 r1 rfl m1 k1 b1 .nil pass0 (pa_cons (pv 0) (pa_cons (pe_op op_add (pe_op op_add (pv 1) pe_int) (pv 6)) pa_nil))))
  (pss_cons (ps_set (i:=8) scItems.nd rfl (Or.inl rfl) (pe_call G2 r1 rfl m2 k2 b2 .nil pass0 (pa_cons (pv 7) (pa_cons pe_int (pa_cons (pe_callB call_len_seq rfl ml PySem.boot_len (pa_cons (pv 2) pa_nil)) pa_nil)))))
  (pss_cons (ps_set (i:=9) scItems.nd rfl (Or.inl rfl) (pe_callB call_len_seq rfl ml PySem.boot_len (pa_cons (pe_ix ix_tup (pe_ix ix_list (pv 2) (pv 8) (fun _ _=>rfl)) pe_int (fun _ _=>rfl)) pa_nil)))
  (pss_cons (ps_setC (i:=10) (nl:=1) (fr:=[7,3]) (Nc:=["_law_j","_law_number","_law_names"]) (cl:=[("_law_number",s.heap.objs.size+2),("_law_names",s.heap.objs.size+1)]) scItems.nd rfl rfl rfl ⟨rfl,rfl,by decide +kernel,by decide +kernel,(sub_cons rfl (sub_cons rfl (sub_nil))),has_of rfl,rfl,fun i n h=>match i,h with | 0,h=>by cases h;exact⟨7,rfl,rfl,rfl,rfl,.inl rfl⟩ | 1,h=>by cases h;exact⟨3,rfl,rfl,rfl,rfl,.inl rfl⟩ | k+2,h=>by rw[show 1+(k+2)=k+3 by omega] at h;cases h⟩
    (pi_range1 rfl mr (pa_cons (pv 9) pa_nil)) (fun C s3 H3 fp pins=>(pg_name (i:=0) nd_j_number_names rfl (Or.inl rfl))) (fun C s3 H3 fp pins=>pif_nil)
    (fun C s3 H3 fp pins=>(pe_ix (ix_listK (K:=K) rfl) (pv 2) (pe_call G2 r1 rfl m2 k2 b2 .nil pass0 (pa_cons (pe_op op_add (pv 1) (pe_op op_mul pe_int (pv 0))) (pa_cons pe_int (pa_cons (pe_callB (call_len_seqK (K:=K) rfl) rfl ml PySem.boot_len (pa_cons (pv 2) pa_nil)) pa_nil)))) (fun _ _=>rfl))) rfl)
  (pss_one (ps_expr (pe_bm PySem.F.plainAttrs_list PySem.F.slot_list_insert PySem.F.type_list_insert mt_insert (pv 5) (pa_cons (pe_call G2 r1 rfl m2 k2 b2 .nil pass0 (pa_cons (pv 7) (pa_cons pe_int (pa_cons (pe_op op_add (pe_callB call_len_seq rfl ml PySem.boot_len (pa_cons (pv 5) pa_nil)) pe_int) pa_nil)))) (pa_cons (pe_tup (pa_cons pe_str (pa_cons (pe_call G5 hr rfl m5 k5 b5 .nil pass0 (pa_cons (pe_op op_add (pv 6) pe_int) (pa_cons (pv 4) pa_nil))) (pa_cons (pv 8) (pa_cons (pv 10) pa_nil))))) pa_nil))))))))))) pss_nil)
  (pss_one (ps_ret (pv 5)))))),?_⟩
 refine⟨by show 0≤sizeLine;decide,fun I hI=>?_⟩
 have s0:=same_new hI (.lst [])
 have e0:upd H I (.lst []) I=some (.lst []):=upd_same
 generalize upd H I (.lst [])=H0 at s0 e0 ⊢
 dsimp only[gName]
 refine cut1 (fun σ H'=>(∃z8,σ=[some (.ref sc),some (.int (at':Int)),some (.ref B),some (.ref l),some (.int c),some (.ref I),z8,none,none,none,none])∧Same H H'∧∃is its,H' I=some (.lst is)∧Its K (nw H (mk2 I I H')) is its∧Gi bk nms c 2 0 its∧its≠[]) (fun X hX=>?_) ?_
 ·refine⟨_,rfl,_,rfl,sc,ns,_,at',rfl,rfl,s0.seq hN,n63,fun Hp sp=>?_⟩
  have sp0:=s0.trans sp
  have ep0:=sp _ _ e0
  generalize pickN ns at'=c1
  obtain⟨m0,m1⟩:=mixF_in c1 30307 (show (0:Int) < 2 by omega)
  refine⟨c1,30307,2,rfl,by decide,by decide,by omega,_,_,rfl,rfl,_,rfl,by omega,by omega,?_⟩
  refine for_range (n:=(1+mixF c1 30307 2).toNat) (fun i σ H'=>(∃z8,σ=[some (.ref sc),some (.int (at':Int)),some (.ref B),some (.ref l),some (.int c),some (.ref I),z8,none,none,none,none])∧Same H H'∧∃is its,H' I=some (.lst is)∧Its K (nw H (mk2 I I H')) is its∧Gi bk nms c i 0 its∧its.length=i) ⟨⟨none,rfl⟩,sp0,[],[],ep0,.nil,Gi.nil,rfl⟩ ?_ ?_
  ·rintro i σ Ha hi ⟨⟨z8,rfl⟩,sa,is,its,eI,hIt,gi,li⟩
   have il:is.length≤10:=by rw[hIt.length];have:=gi.cl;omega
   refine⟨_,rfl,.inl ⟨rfl,_,SqL.of eI⟩,_,rfl,_,rfl,_,_,rfl,rfl,_,rfl,_,_,rfl,rfl,sc,ns,_,at' + 1+i,rfl,by omega,sa.seq hN,n63,fun Hx sx=>?_⟩
   have sax:=sa.trans sx
   have eIx:=sx _ _ eI
   generalize pickN ns (at' + 1+i)=c2
   refine⟨_,rfl,c2,l,nms,rfl,sax.seq hS,n1,n10,fun v Hb k a b p sb hv ha hb hp=>?_⟩
   refine⟨I,_,_,rfl,rfl,sb _ _ eIx,small1000 (by omega),⟨_,rfl⟩,(sax.trans sb).change hI,_,its++[.row k a b p],upd_same,?_,gi.row ⟨ha,hb,hp⟩,by rw[List.length_append,li];rfl⟩
   have u1:Same (nw H (mk2 I I Hb)) (nw H (mk2 I I (upd Hb I (.lst (is++[v]))))):=nw_mono mk2_updN
   exact((hIt.same (nw_mono (mk2_mono (sx.trans sb)))).app (.cons (hv.same (nw_up sax eIx)) .nil)).same u1
  ·rintro σ Ha ⟨⟨z8,rfl⟩,sa,is,its,eI,hIt,gi,li⟩
   exact hX _ _ ⟨⟨_,rfl⟩,sa,is,its,eI,hIt,gi.up (by omega) (Nat.le_refl _),fun z=>by rw[z] at li;simp only[List.length_nil] at li;omega⟩
 rintro σ Ha ⟨⟨z8,rfl⟩,sa,is,its,eI,hIt,gi,ne⟩
 refine cut1 (fun σ H'=>(∃z8 z9 z10 z11 z12,σ=[some (.ref sc),some (.int (at':Int)),some (.ref B),some (.ref l),some (.int c),some (.ref I),z8,z9,z10,z11,z12])∧Same H H'∧∃is its,H' I=some (.lst is)∧Its K (nw H (mk2 I I H')) is its∧Gi bk nms c 2 2 its∧its≠[]) (fun X hX=>?_) ?_
 ·refine⟨_,rfl,B,_,rfl,.inl (sa.seq hB),_,_,rfl,rfl,_,rfl,ite2 (fun h=>?_) (fun h=>?_)⟩
  ·have bl0:0 < bk.length:=by
    have h:decide ((0:Int) < (bs.length:Int))=true:=h
    have:=of_decide_eq_true h
    have:=hBk.1
    omega
   refine⟨_,rfl,_,rfl,sc,ns,_,at',rfl,rfl,sa.seq hN,n63,fun Hp sp=>?_⟩
   generalize pickN ns at'=c1
   obtain⟨m0,m1⟩:=mixF_in c1 30323 (show (0:Int) < (3:Int) by omega)
   refine⟨c1,30323,3,rfl,by decide,by decide,by omega,_,rfl,by omega,by omega,?_⟩
   refine for_range (n:=(mixF c1 30323 3).toNat) (fun i σ H'=>(∃z8 z9 z10 z11 z12,σ=[some (.ref sc),some (.int (at':Int)),some (.ref B),some (.ref l),some (.int c),some (.ref I),z8,z9,z10,z11,z12])∧Same H H'∧∃is its,H' I=some (.lst is)∧Its K (nw H (mk2 I I H')) is its∧Gi bk nms c 2 i its∧its≠[]) ⟨⟨_,_,_,_,_,rfl⟩,sa.trans sp,is,its,sp _ _ eI,hIt.same (nw_mono (mk2_mono sp)),gi,ne⟩ ?_ ?_
   ·rintro i σ Hb hi ⟨⟨z8,z9,z10,z11,z12,rfl⟩,sb,is,its,eI,hIt,gi,ne⟩
    have il:is.length≤10:=by rw[hIt.length];have:=gi.cl;omega
    refine⟨_,rfl,_,rfl,_,_,rfl,rfl,_,rfl,_,_,rfl,rfl,sc,ns,_,at' + 3+i,rfl,by omega,sb.seq hN,n63,fun Hx sx=>?_⟩
    have sbx:=sb.trans sx
    have eIx:=sx _ _ eI
    generalize pickN ns (at' + 3+i)=c2
    have hB':=sbx.seq hB
    have hBk':=hBk.same sbx
    have hS':=sbx.seq hS
    have nl0:(0:Int) < (bs.length:Int):=by have:=hBk.1;omega
    obtain⟨q10,q1n⟩:=mixF_in c2 39373 nl0
    refine⟨_,rfl,_,rfl,B,_,rfl,.inl hB',c2,39373,_,rfl,by decide,by decide,nl0,?_⟩
    obtain⟨w',hw⟩:∃w':Nat,mixF c2 39373 (bs.length:Int)=(w':Int):=⟨(mixF c2 39373 (bs.length:Int)).toNat,by omega⟩
    rw[hw] at q10 q1n ⊢
    have hwl:w' < bs.length:=by omega
    have hwb:w' < bk.length:=by rw[← hBk.1];exact hwl
    obtain⟨tt,l1,l2,ivs,hv,hTT,h1,h2,hIts⟩:=hBk'.2 w' _ _ (List.getElem?_eq_getElem hwl) (List.getElem?_eq_getElem hwb)
    have hat:atI bs (w':Int)=some (.ref tt):=atI_nat (by rw[List.getElem?_eq_getElem hwl,hv])
    refine⟨_,rfl,_,rfl,B,bs,_,_,rfl,rfl,hB',hat,tt,_,0,_,rfl,rfl,hTT,rfl,l1,_,rfl,.inl h1,?_⟩
    have e10:=el _ (List.getElem_mem hwb)
    have hm:(nms.map fun x=>V.str (S x)).length=nms.length:=List.length_map ..
    have nl:(0:Int) < ((nms.map fun x=>V.str (S x)).length:Int):=by omega
    refine⟨_,rfl,_,rfl,by omega,by rw[List.length_map];omega,fun D hD=>?_⟩
    have sD:=same_new hD (.lst [])
    refine comp_range (n:=_) (fun k zs H'=>Same Hx H'∧H' D=some (.lst zs)∧∃X:List (List Nat),X.length=k∧(∀x∈X,x∈nms)∧zs=X.map fun x=>V.str (S x)) ⟨sD,upd_same,[],rfl,fun x hx=>(by cases hx),rfl⟩ (fun k zs H' h=>h.2.1) ?_ ?_
    ·rintro k zs Hd hk ⟨sd,ed,X,hX,mX,rfl⟩ C hC
     rw[Int.zero_add]
     rw[List.length_map] at hk
     have hk10:k < 10:=by omega
     refine⟨keep1.1,keep1.2,iteT ?_⟩
     have hS1:=sd.seq hS'
     refine⟨_,rfl,_,rfl,_,rfl,_,_,rfl,rfl,.inl ⟨by decide,by decide⟩,_,_,rfl,rfl,_,rfl,l,_,rfl,.inl hS1,_,30269,_,rfl,by decide,by decide,nl,?_⟩
     obtain⟨q0,qn⟩:=mixF_in (c2+17*(0+(k:Int))) 30269 nl
     obtain⟨a,ha,ea⟩:=at_strs (nms:=nms) q0 (by omega)
     refine⟨l,_,_,_,rfl,rfl,hS1,ea,ed,small1000 (by rw[List.length_map];omega),hC _ _ ⟨sd.change hD,upd_same,X++[a],by rw[List.length_append,hX];rfl,fun x hx=>?_,by rw[List.map_append];rfl⟩⟩
     rcases List.mem_append.mp hx with hx | hx
     ·exact mX x hx
     ·rw[List.mem_singleton] at hx
      rw[hx];exact ha
    rintro zs Hd ⟨sd,ed,X',hX,mX,rfl⟩
    have eIy:=sd _ _ eIx
    obtain⟨k0,k1⟩:=mixF_in c2 53668 (show (0:Int) < (is.length:Int)+1 by omega)
    have ni:((i+2:Nat):Int)=0+(i:Int)+2:=by omega
    refine⟨_,rfl,.inl ⟨rfl,_,SqL.of eIy⟩,_,rfl,_,rfl,I,_,rfl,.inl (SqL.of eIy),_,_,rfl,rfl,c2,53668,_,rfl,by decide,by decide,by omega,_,rfl,_,_,rfl,rfl,_,rfl,_,c,rfl,by omega,by omega,_,rfl,_,rfl,by show 4≤sizeLine;decide,fun T hT=>?_⟩
    rw[← ni,← nmL_S]
    have sT:=same_new hT (.tup [V.str "put",.str (S (nmL c (i+2))),.int (w':Int),.ref D])
    have eT:upd Hd T (.tup [V.str "put",.str (S (nmL c (i+2))),.int (w':Int),.ref D]) T=some _:=upd_same
    generalize upd Hd T (.tup [V.str "put",.str (S (nmL c (i+2))),.int (w':Int),.ref D])=He at sT eT ⊢
    have hv:ItAt K (nw Hx He) (.ref T) (.put (nmL c (i+2)) w' X'):=.put (SqT.of (nw_at (sd.free hT) eT)) (SqL.of (nw_at hD (sT _ _ ed)))
    have sde:=sd.trans sT
    have eId:=sT _ _ eIy
    refine⟨I,_,(mixF c2 53668 ((is.length:Int)+1)).toNat,_,.ref T,rfl,rfl,by omega,by omega,eId,small1000 (by omega),?_⟩
    refine⟨⟨_,_,_,_,_,rfl⟩,(sbx.trans sde).change hI,_,_,upd_same,?_,gi.put (w:=w') (X:=X') (k:=(mixF c2 53668 ((is.length:Int)+1)).toNat) (by omega) ⟨⟨i+2,by omega,rfl⟩,bk[w'],List.getElem?_eq_getElem hwb,by rw[hX,List.length_map];omega,mX⟩,fun z=>by have:=congrArg List.length z;rw[List.length_append,List.length_cons] at this;simp only[List.length_nil] at this;omega⟩
    have u1:=nw_mono (H:=H) (mk2_updN (n:=I) (f:=I) (H:=He) (o:=.lst (is.take (mixF c2 53668 ((is.length:Int)+1)).toNat++V.ref T :: is.drop (mixF c2 53668 ((is.length:Int)+1)).toNat)))
    exact(Its.ins (hv.same (nw_up sbx eIx)) _ (hIt.same (nw_mono (mk2_mono (sx.trans sde))))).same u1
   ·rintro σ Hb ⟨⟨z8,z9,z10,z11,z12,rfl⟩,sb,is,its,eI,hIt,gi,ne⟩
    exact hX _ _ ⟨⟨_,_,_,_,_,rfl⟩,sb,is,its,eI,hIt,gi.up (Nat.le_refl _) (by omega),ne⟩
  ·exact hX _ _ ⟨⟨_,_,_,_,_,rfl⟩,sa,is,its,eI,hIt,gi.up (Nat.le_refl _) (by omega),ne⟩
 rintro σ Hb ⟨⟨z8,z9,z10,z11,z12,rfl⟩,sb,is,its,eI,hIt,gi,ne⟩
 exact⟨_,rfl,q I is its Hb hI sb eI hIt gi ne⟩
theorem nm_lay {cs:List Nat}(h:nmB cs=true):PyData.canLay0 (.str (S cs))=true:=by
 unfold nmB at h
 rw[Bool.and_eq_true] at h
 show (S cs).cps.all (fun c=>decide (c < 0x110000))=true
 rw[← Array.all_toList,S_list,List.all_eq_true]
 intro c hc
 have:=of_decide_eq_true (List.all_eq_true.mp h.2 c hc)
 exact decide_eq_true (by omega)
def nmsOf (c:Int)(m n:Nat):List (List Nat):=(List.range n).map fun j=>nmL c ((j+m) % 4)
theorem nmsOf_ok {c:Int}{m n:Nat}:∀x∈nmsOf c m n,nmB x=true:=fun x hx=>by
 obtain⟨j,_,rfl⟩:=List.mem_map.mp hx
 exact nmL_ok (by have:=Nat.mod_lt (j+m) (show 0 < 4 by decide);omega)
theorem nmsOf_len {c:Int}{m n:Nat}:(nmsOf c m n).length=n:=by unfold nmsOf;rw[List.length_map,List.length_range]
theorem nmsOf_snoc {c:Int}{m n:Nat}:nmsOf c m (n+1)=nmsOf c m n++[nmL c ((n+m) % 4)]:=by unfold nmsOf;rw[List.range_succ,List.map_append];rfl
def Bo (c:Int)(bk:Bk):Prop:=bk.length≤3∧∀(w:Nat) (e:List (List Nat) × List It),bk[w]?=some e→∃m n:Nat,2≤n∧n≤4∧e.1=(nmsOf c m n).drop 1∧Gi (bk.take w) (nmsOf c m n) c (3 - w) 2 e.2
theorem Bo.nil {c:Int}:Bo c []:=⟨by decide,fun w e h=>by simp at h⟩
theorem Bo.ends {c:Int}{bk:Bk}(h:Bo c bk):∀e∈bk,e.1.length≤10:=fun e he=>by
 obtain⟨w,hw⟩:=List.getElem?_of_mem he
 obtain⟨m,n,h1,h2,h3,_⟩:=h.2 w e hw
 rw[h3,List.length_drop,nmsOf_len]
 omega
theorem Bo.snoc {c:Int}{bk:Bk}{m n:Nat}{its:List It}(h:Bo c bk)(l:bk.length < 3)(h1:2≤n)(h2:n≤4)(g:Gi bk (nmsOf c m n) c (3 - bk.length) 2 its):Bo c (bk++[((nmsOf c m n).drop 1,its)]):=by
 refine⟨by rw[List.length_append];show bk.length+1≤3;omega,fun w e hw=>?_⟩
 by_cases a:w < bk.length
 ·rw[List.getElem?_append_left a] at hw
  rw[List.take_append_of_le_length (by omega)]
  exact h.2 w e hw
 ·rw[List.getElem?_append_right (by omega)] at hw
  have:w=bk.length:=by
   have:=(List.getElem?_eq_some_iff.mp hw).1
   simp at this
   omega
  subst this
  rw[Nat.sub_self] at hw
  have:=Option.some.inj hw
  subst this
  rw[List.take_append_of_le_length (Nat.le_refl _),List.take_length]
  exact⟨m,n,h1,h2,rfl,g⟩
theorem BkAt.snoc {K:PySem.W.Frag}{H:Hp}{vs:List V}{bk:Bk}{v:V}{e:List (List Nat) × List It}(h:BkAt K H vs bk)(hv:BkE K H v e):BkAt K H (vs++[v]) (bk++[e]):=by
 refine⟨by rw[List.length_append,List.length_append,h.1];rfl,fun i u f hu hf=>?_⟩
 by_cases a:i < bk.length
 ·rw[List.getElem?_append_left (by rw[h.1];exact a)] at hu
  rw[List.getElem?_append_left a] at hf
  exact h.2 i u f hu hf
 ·rw[List.getElem?_append_right (by rw[h.1];omega)] at hu
  rw[List.getElem?_append_right (by omega)] at hf
  have l:=(List.getElem?_eq_some_iff.mp hf).1
  have:i - bk.length=0:=by simp at l;omega
  rw[h.1,this] at hu
  rw[this] at hf
  cases Option.some.inj hu
  cases Option.some.inj hf
  exact hv
theorem nwB_at {H Hk:Hp}{B a:Addr}{o o':HO}(h:H a=none)(n:a≠B)(e:Hk a=some o):nw H (mk2 B B (upd Hk B o')) a=some o:=nw_at h (mk2_at n n (by rw[upd_ne n];exact e))
theorem nw_to {H He G Hk:Hp}{B:Addr}{o o':HO}(s:Same H He)(hB:He B=some o)(sg:Same G Hk):Same (nw He G) (nw H (mk2 B B (upd Hk B o'))):=fun a u e=>by
 unfold nw at e
 cases c:He a with
 |some _=>rw[c] at e;cases e
 |none=>
  rw[c] at e
  exact nwB_at (s.free c) (fun z=>by rw[z,hB] at c;cases c) (sg _ _ e)
theorem cut_1 (xs:List V):cutV xs (some 1) none=xs.drop 1:=by
 unfold cutV
 have h1:HT.sIx xs.length 0 (some 1)=min 1 xs.length:=by simp[HT.sIx]
 have h2:HT.sIx xs.length xs.length none=xs.length:=rfl
 rw[h1,h2]
 cases xs with
 |nil=>rfl
 |cons x r=>
  rw[show min 1 (x :: r).length=1 by simp only[List.length_cons];omega]
  exact List.take_of_length_le (by rw[List.length_drop];omega)
def spBook (K:PySem.W.Frag):Sp:=fun vs H Q _=>∃(s:Addr) (ns:List Int) (c:Int),vs=[.ref s,.int c]∧SqL K H s (ns.map V.int)∧ns.length≤63∧
  ∀B bs bk H',H B=none→Same H H'→H' B=some (.lst bs)→BkAt K (nw H (mk2 B B H')) bs bk→Bo c bk→bk.length=2→Q (.ref B) H'
theorem nd_j_first_cell:(["_law_j","_law_first","_law_cell"]:List Str).Nodup:=by decide +kernel
abbrev sBook:Stmt:=top 58
theorem scBook:FnScope ["_law_script","_law_cell","_law_book_here","_law_k","_law_first","_law_many","_law_names"] ["_law_script","_law_cell"] (defScope sBook):=⟨rfl,rfl,rfl,by decide +kernel,rfl,by decide +kernel,by decide +kernel⟩
theorem ok_book {dV:Value}(F:FunD K "_law_book" "_law_book" sBook dV f fd)(mr:mg "range"=none)(G1:FnOk P w K mg base CX0 1 g1 gd1 ["_law_script","_law_k"] (spPick K))(b1:Binds K gd1 ["_law_script","_law_k"] [])(k1:PySem.W.keepIn K (.ref g1)=true)(m1:mg "_law_pick"=some (.ref g1))(G2:FnOk P w K mg base CX0 1 g2 gd2 ["_law_cell","_law_prime","_law_many"] spMixF)(b2:Binds K gd2 ["_law_cell","_law_prime","_law_many"] [])(k2:PySem.W.keepIn K (.ref g2)=true)(m2:mg "_law_mix"=some (.ref g2))(G3:FnOk P w K mg base CX0 2 g3 gd3 ["_law_k","_law_cell"] spNameL)(b3:Binds K gd3 ["_law_k","_law_cell"] [])(k3:PySem.W.keepIn K (.ref g3)=true)(m3:mg "_law_name"=some (.ref g3))(G4:FnOk P w K mg base CX0 3 g4 gd4 ["_law_script","_law_at","_law_book_here","_law_names","_law_cell"] (spItems K))(b4:Binds K gd4 ["_law_script","_law_at","_law_book_here","_law_names","_law_cell"] [])(k4:PySem.W.keepIn K (.ref g4)=true)(m4:mg "_law_items"=some (.ref g4)) :
  FnOk P w K mg base CX 4 f fd ["_law_script","_law_cell"] (spBook K):=by
 refine F.ok scBook (fun vs H Q E h=>?_) (fun cdv A outer s H vs Q E hr h=>?_)
 ·obtain⟨sc,ns,c,rfl,hN,n63,q⟩:=h
  rfl
 obtain⟨sc,ns,c,rfl,hN,n63,q⟩:=h
 have hz:sizeLine=16777216:=sizeLine_eq
 have r1:=hr.mono (show 1≤3 by omega)
 have r2:=hr.mono (show 2≤3 by omega)
 have hu:=hr.units
 refine⟨_,(pss_cons (ps_set (i:=2) scBook.nd rfl (Or.inl rfl) (pe_lst pa_nil))
  (pss_cons (ps_for PassesOwn.never rfl (pi_range1 rfl mr (pa_cons pe_int pa_nil)) (pg_name (i:=3) scBook.nd rfl (Or.inl rfl))
   (pss_cons (ps_set (i:=4) scBook.nd rfl (Or.inr rfl) (pe_call G1 r1 rfl m1 k1 b1 .nil pass0 (pa_cons (pv 0) (pa_cons (pe_op op_add pe_int (pe_op op_mul pe_int (pv 3))) pa_nil))))
  (pss_cons (ps_set (i:=5) scBook.nd rfl (Or.inl rfl) (pe_op op_add pe_int (pe_call G2 r1 rfl m2 k2 b2 .nil pass0 (pa_cons (pv 4) (pa_cons pe_int (pa_cons pe_int pa_nil))))))
  (pss_cons (ps_setC (i:=6) (nl:=1) (fr:=[4,1]) (Nc:=["_law_j","_law_first","_law_cell"]) (cl:=[("_law_first",s.heap.objs.size+2),("_law_cell",s.heap.objs.size+1)]) scBook.nd rfl rfl rfl ⟨rfl,rfl,by decide +kernel,by decide +kernel,(sub_cons rfl (sub_cons rfl (sub_nil))),has_of rfl,rfl,fun i n h=>match i,h with | 0,h=>by cases h;exact⟨4,rfl,rfl,rfl,rfl,.inl rfl⟩ | 1,h=>by cases h;exact⟨1,rfl,rfl,rfl,rfl,.inl rfl⟩ | k+2,h=>by rw[show 1+(k+2)=k+3 by omega] at h;cases h⟩
    (pi_range1 rfl mr (pa_cons (pe_op op_add (pv 5) pe_int) pa_nil)) (fun C s3 H3 fp pins=>(pg_name (i:=0) nd_j_first_cell rfl (Or.inl rfl))) (fun C s3 H3 fp pins=>pif_nil)
    (fun C s3 H3 fp pins=>(pe_call G3 r2 rfl m3 k3 b3 .nil pass0 (pa_cons (pe_op op_mod (pe_op op_add (pv 0) (pe_call G2 r1 rfl m2 k2 b2 .nil pass0 (pa_cons (pv 1) (pa_cons pe_int (pa_cons pe_int pa_nil))))) pe_int) (pa_cons (pv 2) pa_nil)))) rfl)
  (pss_one (ps_expr (pe_bm PySem.F.plainAttrs_list PySem.F.slot_list_append PySem.F.type_list_append mt_append (pv 2) (pa_cons (pe_tup (pa_cons (pe_slice sl_list (pv 6) (po_some pe_int) po_none) (pa_cons (pe_call G4 hr rfl m4 k4 b4 .nil pass0 (pa_cons (pv 0) (pa_cons (pe_op op_add pe_int (pe_op op_mul pe_int (pv 3))) (pa_cons (pv 2) (pa_cons (pv 6) (pa_cons (pv 1) pa_nil)))))) pa_nil))) pa_nil))))))))
  (pss_one (ps_ret (pv 2))))),?_⟩
 refine⟨by show 0≤sizeLine;decide,fun B hB=>?_⟩
 have s0:=same_new hB (.lst [])
 have e0:upd H B (.lst []) B=some (.lst []):=upd_same
 generalize upd H B (.lst [])=H0 at s0 e0 ⊢
 dsimp only[gName]
 refine cut1 (fun σ H'=>(∃z3 z4 z5 z6,σ=[some (.ref sc),some (.int c),some (.ref B),z3,z4,z5,z6])∧Same H H'∧∃bs bk,H' B=some (.lst bs)∧BkAt K (nw H (mk2 B B H')) bs bk∧Bo c bk∧bk.length=2) (fun X hX=>?_) ?_
 ·refine⟨_,rfl,by decide,by decide,?_⟩
  refine for_range (n:=2) (fun i σ H'=>(∃z3 z4 z5 z6,σ=[some (.ref sc),some (.int c),some (.ref B),z3,z4,z5,z6])∧Same H H'∧∃bs bk,H' B=some (.lst bs)∧BkAt K (nw H (mk2 B B H')) bs bk∧Bo c bk∧bk.length=i) ⟨⟨_,_,_,_,rfl⟩,s0,[],[],e0,⟨rfl,fun i v e h=>by simp at h⟩,Bo.nil,rfl⟩ ?_ ?_
  ·rintro i σ Ha hi ⟨⟨z3,z4,z5,z6,rfl⟩,sa,bs,bk,eB,hBk,bo,hbl⟩
   rw[Int.zero_add]
   refine⟨_,rfl,_,rfl,_,_,rfl,rfl,.inl ⟨by decide,by decide⟩,_,_,rfl,rfl,sc,ns,_,1+6*i,rfl,by omega,sa.seq hN,n63,fun Hb sb=>?_⟩
   generalize pickN ns (1+6*i)=c1
   obtain⟨p0,p1⟩:=mixF_in c1 52774 (show (0:Int) < 3 by decide)
   obtain⟨q0,q1⟩:=mixF_in c1 12211 (show (0:Int) < 4 by decide)
   refine⟨_,rfl,c1,52774,3,rfl,by decide,by decide,by decide,_,_,rfl,rfl,?_⟩
   obtain⟨mm,hmm⟩:∃mm:Nat,mixF c1 52774 3=(mm:Int):=⟨(mixF c1 52774 3).toNat,by omega⟩
   obtain⟨m,hm⟩:∃m:Nat,mixF c1 12211 4=(m:Int):=⟨(mixF c1 12211 4).toNat,by omega⟩
   rw[hmm] at p0 p1 ⊢
   rw[hm] at q0 q1
   have sab:=sa.trans sb
   have eBb:=sb _ _ eB
   refine⟨_,rfl,_,_,rfl,rfl,((mm+2:Nat):Int),by show [V.int (1+(mm:Int)+1)]=[V.int ((mm+2:Nat):Int)];rw[show (1+(mm:Int)+1)=((mm+2:Nat):Int) by omega],by omega,by omega,fun D hD=>?_⟩
   have sD:=same_new hD (.lst [])
   refine comp_range (n:=mm+2) (fun k zs H'=>Same Hb H'∧H' D=some (.lst zs)∧zs=(nmsOf c m k).map fun x=>V.str (S x)) ⟨sD,upd_same,rfl⟩ (fun k zs H' h=>h.2.1) ?_ ?_
   ·rintro k zs Hd hk ⟨sd,ed,rfl⟩ C hC
    rw[Int.zero_add]
    refine⟨keep1.1,keep1.2,iteT ?_⟩
    have ek:((k:Int)+(m:Int)) % 4=(((k+m) % 4:Nat):Int):=by omega
    refine⟨_,rfl,_,rfl,c1,12211,4,rfl,by decide,by decide,by decide,_,_,rfl,rfl,_,_,rfl,rfl,(show (0:Int) < 4 by decide),_,rfl,_,c,rfl,?_,?_,ed,small1000 (by rw[List.length_map,nmsOf_len];omega),hC _ _ ⟨sd.change hD,upd_same,?_⟩⟩
    ·rw[hm];omega
    ·rw[hm];omega
    ·rw[nmsOf_snoc,List.map_append,hm,ek,← nmL_S];rfl
   rintro zs Hd ⟨sd,ed,rfl⟩
   have sad:=sab.trans sd
   have eBd:=sd _ _ eBb
   have hnm:=SqL.of (K:=K) ed
   refine⟨_,rfl,.inl ⟨rfl,_,SqL.of eBd⟩,_,rfl,_,rfl,D,_,rfl,hnm,fun p hp=>?_⟩
   rw[cut_1]
   have se:=same_new hp (.lst (((nmsOf c m (mm+2)).map fun x=>V.str (S x)).drop 1))
   have ep:upd Hd p (.lst (((nmsOf c m (mm+2)).map fun x=>V.str (S x)).drop 1)) p=some (.lst (((nmsOf c m (mm+2)).map fun x=>V.str (S x)).drop 1)):=upd_same
   generalize upd Hd p (.lst (((nmsOf c m (mm+2)).map fun x=>V.str (S x)).drop 1))=He at se ep ⊢
   have sae:=sad.trans se
   have eBe:=se _ _ eBd
   have bke:BkAt K He bs bk:=((hBk.same nw_same).same mk2_same).same (sb.trans (sd.trans se))
   refine⟨_,rfl,_,rfl,_,_,rfl,rfl,.inl ⟨by decide,by decide⟩,_,_,rfl,rfl,_,rfl,_,rfl,_,rfl,sc,B,D,ns,2+6*i,c,bs,bk,nmsOf c m (mm+2),by rw[show ((2+6*i:Nat):Int)=2+6*(i:Int) by omega];rfl,sae.seq hN,n63,SqL.of eBe,bke,bo.1,bo.ends,se.seq hnm,by rw[nmsOf_len];omega,by rw[nmsOf_len];omega,fun I2 is2 its2 Hg hI2 sg eI2 hIt2 gi2 ne2=>?_⟩
   have gi3:Gi bk (nmsOf c m (mm+2)) c (3 - i) 2 its2:=gi2.up (by omega) (Nat.le_refl _)
   have eBg:=sg _ _ eBe
   have sag:=sae.trans sg
   refine⟨by show 2≤sizeLine;decide,fun T hT=>?_⟩
   have sk:=same_new hT (.tup [V.ref p,.ref I2])
   have eT:upd Hg T (.tup [V.ref p,.ref I2]) T=some (.tup [V.ref p,.ref I2]):=upd_same
   generalize upd Hg T (.tup [V.ref p,.ref I2])=Hk at sk eT ⊢
   have eBk:=sk _ _ eBg
   have bl:bs.length=i:=by rw[hBk.1,hbl]
   refine⟨B,_,_,rfl,rfl,eBk,small1000 (by omega),⟨_,_,_,_,rfl⟩,(sag.trans sk).change hB,_,bk++[((nmsOf c m (mm+2)).drop 1,its2)],upd_same,?_,bo.snoc (by omega) (by omega) (by omega) (by rw[hbl];exact gi3),by rw[List.length_append,hbl];rfl⟩
   refine BkAt.snoc (hBk.same (nw_mono ((mk2_mono ((sb.trans (sd.trans se)).trans (sg.trans sk))).trans mk2_updN))) ⟨T,p,I2,is2,rfl,SqT.of (nwB_at (sag.free hT) (fun z=>by rw[z,eBg] at hT;cases hT) eT),?_,SqL.of (nwB_at (sae.free hI2) (fun z=>by rw[z,eBe] at hI2;cases hI2) (sk _ _ eI2)),hIt2.same (nw_to sae eBe (mk2_same.trans sk))⟩
   have:=nwB_at (o':=.lst (bs++[V.ref T])) (sad.free hp) (fun z=>by rw[z,eBd] at hp;cases hp) ((sg.trans sk) _ _ ep)
   rw[← List.map_drop] at this
   exact SqL.of this
  ·rintro σ Ha ⟨⟨z3,z4,z5,z6,rfl⟩,sa,bs,bk,eB,hBk,bo,hbl⟩
   exact hX _ _ ⟨⟨_,_,_,_,rfl⟩,sa,bs,bk,eB,hBk,bo,hbl⟩
 rintro σ Ha ⟨⟨z3,z4,z5,z6,rfl⟩,sa,bs,bk,eB,hBk,bo,hbl⟩
 exact⟨_,rfl,q B bs bk Ha hB sa eB hBk bo hbl⟩
theorem itx_small {n:Int}(h:0≤n)(h2:n≤2000000000000):(itx n).length≤13∧∀c,c < 48→c∉itx n:=by
 rw[itx_pos h]
 exact⟨(dg_len (by decide)).mpr (by omega),fun c hc=>dg_no hc⟩
theorem sz_wr {p:Mq.Q2}(h:Sz p):Wr p (shw p)∧0 < p.1∧(shw p).length≤20∧32∉shw p∧10∉shw p:=by
 obtain⟨n,h1,h2,h⟩:=h
 have b:n.natAbs < 10 ^ 200:=Nat.lt_of_lt_of_le (show n.natAbs < 10 ^ 13 by omega) (Nat.pow_le_pow_right (by decide) (by decide))
 have b1:(1:Int).natAbs < 10 ^ 200:=Nat.lt_of_lt_of_le (show (1:Int).natAbs < 10 ^ 1 by decide) (Nat.pow_le_pow_right (by decide) (by decide))
 obtain⟨i1,i2⟩:=itx_small (n:=n) (by omega) (by omega)
 have one:itx 1=[49]:=by decide
 rcases h with rfl | rfl
 ·refine⟨⟨⟨by show (0:Int) < 1;decide,gc_one n⟩,rfl,b,b1⟩,by show 0 < n;omega,?_⟩
  have:shw (n,1)=itx n:=by unfold shw;rw[if_pos rfl]
  rw[this]
  exact⟨by omega,i2 32 (by decide),i2 10 (by decide)⟩
 ·refine⟨⟨⟨by show 0 < n;omega,one_gc n⟩,rfl,b1,b⟩,by show (0:Int) < 1;decide,?_⟩
  by_cases e:n=1
  ·subst e
   have:shw (1,1)=[49]:=by decide
   rw[this]
   decide
  ·have:shw (1,n)=49 :: 47 :: itx n:=by unfold shw;rw[if_neg (by show ¬n=1;exact e),one];rfl
   rw[this]
   refine⟨by simp only[List.length_cons];omega,?_,?_⟩
   ·simp only[List.mem_cons,not_or]
    exact⟨by decide,by decide,i2 32 (by decide)⟩
   ·simp only[List.mem_cons,not_or]
    exact⟨by decide,by decide,i2 10 (by decide)⟩
theorem sz_bd {p:Mq.Q2}(h:Sz p):Mq.Bd 100 p:=wr_bd (sz_wr h).1 (by have:=(sz_wr h).2.2.1;omega)
def itT (c:Int):It→List (List Nat)
 | .row k a b p=>[wdC k,a,b,shw p]
 | .put n w X=>[112,117,116] :: n :: nmL c w :: X
def ItW:It→Prop
 | .row k a b p=>a.length≤8∧b.length≤8∧Sz p
 | .put n w X=>n.length≤8∧w < 20∧X≠[]∧X.length≤10∧∀x∈X,x.length≤8
theorem row_is (k:Kd)(a b t:List Nat):k.wd++" "++S a++" "++S b++" "++S t=S (jnc 32 [wdC k,a,b,t]):=by
 have e:(" ":Str)=S [32]:=by decide +kernel
 rw[← wdC_S k,e]
 simp only[S_app]
 congr 1
 simp only[jnc,List.append_assoc,List.cons_append,List.nil_append]
theorem jnc_c {c:Nat}{x:List Nat}{r:List (List Nat)}(h:r≠[]):jnc c (x :: r)=x++c :: jnc c r:=by
 cases r with
 |nil=>exact absurd rfl h
 |cons y r=>rfl
theorem put_is (n m:List Nat){X:List (List Nat)}(h:X≠[]) : "put "++S n++" "++S m++" "++S (jnc 32 X)=S (jnc 32 ([112,117,116] :: n :: m :: X)):=by
 have e:(" ":Str)=S [32]:=by decide +kernel
 have e2:("put ":Str)=S [112,117,116,32]:=by decide +kernel
 rw[e,e2,jnc_c (by simp),jnc_c (by simp),jnc_c h]
 simp only[S_app]
 congr 1
 simp only[List.append_assoc,List.cons_append,List.nil_append]
theorem part_is (n:List Nat){X:List (List Nat)}(h:X≠[]) : "part "++S n++" "++S (jnc 32 X)=S (jnc 32 ([112,97,114,116] :: n :: X)):=by
 have e:(" ":Str)=S [32]:=by decide +kernel
 have e2:("part ":Str)=S [112,97,114,116,32]:=by decide +kernel
 rw[e,e2,jnc_c (by simp),jnc_c h]
 simp only[S_app]
 congr 1
 simp only[List.append_assoc,List.cons_append,List.nil_append]
theorem jn32 (X:List (List Nat)):Str.join " " (X.map S)=S (jnc 32 X):=by
 have e:(" ":Str)=⟨#[32]⟩:=by decide +kernel
 rw[e]
 exact S_jnc 32 X
theorem nm_len {cs:List Nat}(h:nmB cs=true):cs.length≤8:=by
 unfold nmB at h
 rw[Bool.and_eq_true] at h
 exact(of_decide_eq_true h.1).2
theorem sum8 {X:List (List Nat)}(h:∀x∈X,x.length≤8):(X.map (·.length)).sum≤8*X.length:=by
 induction X with
 |nil=>exact Nat.le_refl _
 |cons x r ih=>
  have:=ih fun y hy=>h y (List.mem_cons_of_mem _ hy)
  have:=h x (by simp)
  rw[List.map_cons,List.sum_cons,List.length_cons]
  omega
def spWritten (K:PySem.W.Frag):Sp:=fun vs H Q _=>∃(I:Addr) (c:Int) (is:List V) (its:List It),vs=[.ref I,.int c]∧SqL K H I is∧Its K H is its∧(∀it∈its,ItW it)∧its.length≤20∧∀R H',H R=none→Same H H'→H' R=some (.lst ((txts (its.map (itT c))).map V.str))→Q (.ref R) H'
abbrev sWritten:Stmt:=top 59
theorem scWritten:FnScope ["_law_items_here","_law_cell","_law_found","_law_item"] ["_law_items_here","_law_cell"] (defScope sWritten):=⟨rfl,rfl,rfl,by decide +kernel,rfl,by decide +kernel,by decide +kernel⟩
theorem ok_written {dV:Value}(F:FunD K "_law_written" "_law_written" sWritten dV f fd)(ms:mg "str"=none)(nd:PySem.W.nsIn K cStatics "sys.int_max_str_digits"=some none)(G2:FnOk P w K mg base CX0 2 g2 gd2 ["_law_k","_law_cell"] spNameL)(b2:Binds K gd2 ["_law_k","_law_cell"] [])(k2:PySem.W.keepIn K (.ref g2)=true)(m2:mg "_law_name"=some (.ref g2)) :
  FnOk P w K mg base CX 3 f fd ["_law_items_here","_law_cell"] (spWritten K):=by
 refine F.ok scWritten (fun vs H Q E h=>?_) (fun cdv A outer s H vs Q E hr h=>?_)
 ·obtain⟨I,c,is,its,rfl,hI,hIt,iw,il,q⟩:=h
  rfl
 obtain⟨I,c,is,its,rfl,hI,hIt,iw,il,q⟩:=h
 have hz:sizeLine=16777216:=sizeLine_eq
 have l1:(" ":Str).length=1:=by decide +kernel
 have l4:("put ":Str).length=4:=by decide +kernel
 have r1:=hr.mono (show 1≤2 by omega)
 refine⟨_,(pss_cons (ps_set (i:=2) scWritten.nd rfl (Or.inl rfl) (pe_lst pa_nil))
  (pss_cons (ps_for PassesOwn.never rfl (pi_list (pv 0)) (pg_name (i:=3) scWritten.nd rfl (Or.inl rfl))
   (pss_one (ps_if (pt_cmpR op_eq (pe_ix ix_tup (pv 3) pe_int (fun _ _=>rfl)) pe_str (nomark _)) (pss_one (ps_expr (pe_bm PySem.F.plainAttrs_list PySem.F.slot_list_append PySem.F.type_list_append mt_append (pv 2) (pa_cons (pe_op op_add_str (pe_op op_add_str (pe_op op_add_str (pe_op op_add_str (pe_op op_add_str (pe_op op_add_str (pe_ix ix_tup (pv 3) pe_int (fun _ _=>rfl)) pe_str) (pe_ix ix_tup (pv 3) pe_int (fun _ _=>rfl))) pe_str) (pe_ix ix_tup (pv 3) pe_int (fun _ _=>rfl))) pe_str) (pe_callTy (call_strB rfl nd) rfl ms PyProof.Rows.boot_str (pa_cons (pe_ix ix_tup (pv 3) pe_int (fun _ _=>rfl)) pa_nil))) pa_nil)))) (pss_one (ps_expr (pe_bm PySem.F.plainAttrs_list PySem.F.slot_list_append PySem.F.type_list_append mt_append (pv 2) (pa_cons (pe_op op_add_str (pe_op op_add_str (pe_op op_add_str (pe_op op_add_str (pe_op op_add_str pe_str (pe_ix ix_tup (pv 3) pe_int (fun _ _=>rfl))) pe_str) (pe_call G2 hr rfl m2 k2 b2 .nil pass0 (pa_cons (pe_ix ix_tup (pv 3) pe_int (fun _ _=>rfl)) (pa_cons (pv 1) pa_nil)))) pe_str) (pe_bm PySem.F.plainAttrs_str PySem.F.slot_str_join PySem.F.type_str_join mt_join pe_str (pa_cons (pe_ix ix_tup (pv 3) pe_int (fun _ _=>rfl)) pa_nil))) pa_nil)))))))
  (pss_one (ps_ret (pv 2))))),?_⟩
 refine⟨by show 0≤sizeLine;decide,fun R hR=>?_⟩
 have s0:=same_new hR (.lst [])
 have e0:upd H R (.lst []) R=some (.lst []):=upd_same
 generalize upd H R (.lst [])=H0 at s0 e0 ⊢
 dsimp only[gName]
 refine cut1 (fun σ H'=>(∃z3,σ=[some (.ref I),some (.int c),some (.ref R),z3])∧Same H H'∧H' R=some (.lst ((txts (its.map (itT c))).map V.str))) (fun X hX=>?_) ?_
 ·refine⟨_,rfl,I,rfl,⟨_,s0.seq hI⟩,?_⟩
  refine for_list (xs:=is) (fun i σ H'=>(∃z3,σ=[some (.ref I),some (.int c),some (.ref R),z3])∧Same H H'∧H' R=some (.lst ((txts ((its.take i).map (itT c))).map V.str))) ⟨⟨_,rfl⟩,s0,e0⟩ (fun i σ H' _ h=>h.2.1.seq hI) ?_ ?_
  ·rintro i x σ Ha hx ⟨⟨z3,rfl⟩,sa,eR⟩
   obtain⟨it,hit,hAt⟩:=hIt.at hx
   have iok:=iw it (List.mem_of_getElem? hit)
   have et:its.take (i+1)=its.take i++[it]:=by rw[List.take_add_one,hit];rfl
   have tl:((its.take i).map (itT c)).length≤20:=by rw[List.length_map,List.length_take];omega
   have tl2:(txts ((its.take i).map (itT c))).length≤20:=by unfold txts;rw[List.length_map];exact tl
   rw[et,List.map_append,txts_app,List.map_append]
   generalize txts ((its.take i).map (itT c))=us at eR tl2 ⊢
   have hAa:=hAt.same sa
   cases hAa with
   | @row t k a b pz hT=>
    obtain⟨la,lb,sz⟩:=iok
    have kl:k.wd.length≤5:=by cases k<;>decide +kernel
    have sl:=(sz_wr sz).2.2.1
    have ez:shw (pz,1)=itx pz:=by unfold shw;rw[if_pos rfl]
    rw[ez] at sl
    have pb:1≤pz∧pz≤1000000000000:=by
     obtain⟨m,m1,m2,e | e⟩:=sz
     ·have:pz=m:=congrArg Prod.fst e
      omega
     ·have:pz=1:=congrArg Prod.fst e
      omega
    refine⟨_,rfl,t,_,0,_,rfl,rfl,hT,rfl,rfl,_,rfl,L2.ifT (by decide) ?_⟩
    refine⟨_,rfl,.inl ⟨rfl,_,SqL.of eR⟩,_,rfl,t,_,1,_,rfl,rfl,hT,rfl,_,_,rfl,rfl,(by simp only[len2,S_len,l1,l4];omega),_,rfl,t,_,2,_,rfl,rfl,hT,rfl,_,_,rfl,rfl,(by simp only[len2,S_len,l1,l4];omega),_,_,rfl,rfl,(by simp only[len2,S_len,l1,l4];omega),_,rfl,t,_,3,_,rfl,rfl,hT,rfl,_,_,rfl,rfl,(by simp only[len2,S_len,l1,l4];omega),_,_,rfl,rfl,(by simp only[len2,S_len,l1,l4];omega),_,rfl,t,_,4,_,rfl,rfl,hT,rfl,pz,50,rfl,B_of (by omega) (by omega),by decide,?_⟩
    rw[str_int]
    refine⟨_,_,rfl,rfl,(by simp only[len2,S_len,l1,l4];omega),R,_,_,rfl,rfl,eR,small1000 (by rw[List.length_map];omega),⟨_,rfl⟩,sa.change hR,?_⟩
    rw[row_is,← ez]
    exact upd_same
   | @put t l n w X' hT hl=>
    obtain⟨ln,lw,xne,xl,x8⟩:=iok
    refine⟨_,rfl,t,_,0,_,rfl,rfl,hT,rfl,rfl,_,rfl,L2.ifF (by decide) ?_⟩
    have nl:(nmS c (w:Int)).length≤8:=by rw[← nmL_S,S_len];exact nm_len (nmL_ok lw)
    have hl':SqL K Ha l ((X'.map S).map V.str):=by rw[List.map_map];exact hl
    have sm:=sum8 x8
    have jl:=jnc_le 32 X'
    refine⟨_,rfl,.inl ⟨rfl,_,SqL.of eR⟩,_,rfl,t,_,1,_,rfl,rfl,hT,rfl,_,_,rfl,rfl,(by simp only[len2,S_len,l1,l4];omega),_,_,rfl,rfl,(by simp only[len2,S_len,l1,l4];omega),_,rfl,t,_,2,_,rfl,rfl,hT,rfl,_,rfl,(w:Int),c,rfl,by omega,by omega,_,_,rfl,rfl,(by simp only[len2,S_len,l1,l4];omega),_,_,rfl,rfl,(by simp only[len2,S_len,l1,l4];omega),?_⟩
    have e8:((X'.map S).map (·.length))=X'.map (·.length):=by rw[List.map_map];exact List.map_congr_left fun x _=>S_len x
    refine⟨rfl,_,rfl,t,_,3,_,rfl,rfl,hT,rfl," ",l,X'.map S,rfl,rfl,hl',by rw[e8,List.length_map,l1];omega,?_⟩
    rw[jn32]
    refine⟨_,_,rfl,rfl,(by simp only[len2,S_len,l1,l4];omega),R,_,_,rfl,rfl,eR,small1000 (by rw[List.length_map];omega),⟨_,rfl⟩,sa.change hR,?_⟩
    rw[← nmL_S,put_is _ _ xne]
    exact upd_same
  ·rintro σ Ha ⟨⟨z3,rfl⟩,sa,eR⟩
   rw[hIt.length,List.take_length] at eR
   exact hX _ _ ⟨⟨_,rfl⟩,sa,eR⟩
 rintro σ Ha ⟨⟨z3,rfl⟩,sa,eR⟩
 exact⟨_,rfl,q R Ha hR sa eR⟩
def partT (c:Int)(k:Nat)(e:List (List Nat) × List It):List (List (List Nat)):=([112,97,114,116] :: nmL c k :: e.1) :: (e.2.map (itT c)++[[[100,111,110,101]]])
structure PB (nms:List (List Nat)) (m d r p e0 D0 B:Nat) (P:PD):Prop where
 wf:WfQ p B P
 sub:∃inn:List Str,inn.length≤p*m∧∀x∈P.ls,x∈nms.map S++inn
 ds:P.ds.length≤D0+r+p*d
 e:P.e=e0
section
variable {nms:List (List Nat)} {m d r p e0 D0 B:Nat} {P:PD}
theorem len_sub {ls:List Str}{q:Nat}(nd:ls.Nodup)(h:∃inn:List Str,inn.length≤q∧∀x∈ls,x∈nms.map S++inn):ls.length≤nms.length+q:=by
 obtain⟨inn,h1,h2⟩:=h
 have:=List.Nodup.length_le_of_subset nd h2
 rw[List.length_append,List.length_map] at this
 omega
theorem PB.row {k:Kd}{a b:List Nat}{s:Mq.Q2}(h:PB nms m d r p e0 D0 B P)(hn:∀x∈nms,nmB x=true)(ha:a∈nms)(hb:b∈nms)(sz:Sz s)(hB:8≤B)(h1:nms.length+p*m≤20)(h2:D0+(r+1)+p*d≤40):PB nms m d (r+1) p e0 D0 B (addRow P k a b s):=by
 have nd:(addRow P k a b s).ls.Nodup:=lps_nd (labs:=[S a,S b]) h.wf.nd
 have sub:∃inn:List Str,inn.length≤p*m∧∀x∈(addRow P k a b s).ls,x∈nms.map S++inn:=by
  obtain⟨inn,i1,i2⟩:=h.sub
  refine⟨inn,i1,fun x hx=>?_⟩
  rcases (lps_mem (labs:=[S a,S b])).mp hx with hx | hx
  ·exact i2 x hx
  ·have:x=S a∨x=S b:=by simpa using hx
   rcases this with rfl | rfl
   ·exact List.mem_append_left _ (List.mem_map.mpr ⟨a,ha,rfl⟩)
   ·exact List.mem_append_left _ (List.mem_map.mpr ⟨b,hb,rfl⟩)
 have ds:(addRow P k a b s).ds.length≤D0+(r+1)+p*d:=by
  show (P.ds++[_]).length≤_
  rw[List.length_append]
  have:=h.ds
  show _+1≤_
  omega
 have ft:fits (addRow P k a b s):=⟨Nat.le_trans (len_sub nd sub) h1,Nat.le_trans ds h2⟩
 obtain⟨w1,w2,_⟩:=sz_wr sz
 exact⟨addRow_wf h.wf hB (hn a ha) (hn b hb) w1.low (ok_all w2) (sz_bd sz) ft,sub,ds,h.e⟩
theorem PB.put {n:List Nat}{X:List (List Nat)}{P2:PD}{c2 B2:Nat}(h:PB nms m d r p e0 D0 B P)(hn:∀x∈nms,nmB x=true)(nn:nmB n=true)(hX:∀x∈X,x∈nms)(w2:WfQ c2 B2 P2)(hB:B2+9≤B)(eX:X.length=P2.e)(m2:P2.ls.length - P2.e≤m)(d2:P2.ds.length≤d)(h1:nms.length+(p+1)*m≤20)(h2:D0+r+(p+1)*d≤40):PB nms m d r (p+1) e0 D0 B (addPut P n X P2):=by
 have nd:(addPut P n X P2).ls.Nodup:=lps_nd (labs:=labsV n X P2) h.wf.nd
 have sub:∃inn:List Str,inn.length≤(p+1)*m∧∀x∈(addPut P n X P2).ls,x∈nms.map S++inn:=by
  obtain⟨i,i1,i2⟩:=h.sub
  refine⟨i++inn (S n) P2.e P2.ls,?_,fun x hx=>?_⟩
  ·rw[List.length_append,Nat.succ_mul]
   unfold inn
   rw[List.length_map,List.length_drop]
   omega
  ·rw[← List.append_assoc]
   rcases (lps_mem (labs:=labsV n X P2)).mp hx with hx | hx
   ·exact List.mem_append_left _ (i2 x hx)
   ·unfold labsV at hx
    rcases List.mem_append.mp hx with hx | hx
    ·obtain⟨y,hy,rfl⟩:=List.mem_map.mp hx
     exact List.mem_append_left _ (List.mem_append_left _ (List.mem_map.mpr ⟨y,hX y hy,rfl⟩))
    ·exact List.mem_append_right _ hx
 have ds:(addPut P n X P2).ds.length≤D0+r+(p+1)*d:=by
  show (P.ds++P2.ds.map _).length≤_
  rw[List.length_append,List.length_map,Nat.succ_mul]
  have:=h.ds
  omega
 have ft:fits (addPut P n X P2):=⟨Nat.le_trans (len_sub nd sub) h1,Nat.le_trans ds h2⟩
 exact⟨addPut_wf h.wf w2 hB nn (List.all_eq_true.mpr fun x hx=>hn x (hX x hx)) eX ft,sub,ds,h.e⟩
end
def Pts (bk:Bk)(PS:List PD)(m d B2:Nat):Prop:=∀(w:Nat) (e:List (List Nat) × List It),bk[w]?=some e→∃c2,WfQ c2 B2 (PS.getD w pd0)∧(PS.getD w pd0).e=e.1.length∧(PS.getD w pd0).ls.length - (PS.getD w pd0).e≤m∧(PS.getD w pd0).ds.length≤d
theorem PB.plan {bk:Bk}{PS:List PD}{nms:List (List Nat)}{c:Int}{m d R e0 D0 B B2:Nat}{P0:PD}{its:List It}(g:Gi bk nms c R 2 its)(pt:Pts bk PS m d B2)(hB:B2+9≤B)(h0:PB nms m d 0 0 e0 D0 B P0)(hn:∀x∈nms,nmB x=true)(h1:nms.length+2*m≤20)(h2:D0+R+2*d≤40) :
  ∀i,i≤its.length→PB nms m d ((its.take i).countP isR) ((its.take i).filterMap Pn).length e0 D0 B (plan PS P0 (its.take i))
 |0,_=>h0
 |i+1,hi=>by
  have ih:=PB.plan g pt hB h0 hn h1 h2 i (by omega)
  have hlt:i < its.length:=by omega
  have et:its.take (i+1)=its.take i++[its[i]]:=by rw[List.take_add_one,List.getElem?_eq_getElem hlt];rfl
  have c1:(its.take (i+1)).countP isR≤R:=Nat.le_trans (List.take_sublist _ _).countP_le g.cr
  have c2:((its.take (i+1)).filterMap Pn).length≤2:=Nat.le_trans ((List.take_sublist _ _).filterMap Pn).length_le g.cm
  have gi:=g.g its[i] (List.getElem_mem hlt)
  rw[et] at c1 c2 ⊢
  rw[plan_snoc]
  generalize its[i]=it at gi c1 c2 ⊢
  generalize its.take i=pre at ih c1 c2 ⊢
  rw[List.countP_append] at c1 ⊢
  rw[List.filterMap_append,List.length_append] at c2 ⊢
  cases it with
  |row k a b s=>
   have e1:List.countP isR [It.row k a b s]=1:=rfl
   have e2:(List.filterMap Pn [It.row k a b s]).length=0:=rfl
   rw[e1] at c1 ⊢
   rw[e2] at c2 ⊢
   have k1:=Nat.mul_le_mul_right m (show (pre.filterMap Pn).length≤2 by omega)
   have k2:=Nat.mul_le_mul_right d (show (pre.filterMap Pn).length≤2 by omega)
   exact ih.row hn gi.1 gi.2.1 gi.2.2 (by omega) (by omega) (by omega)
  |put n w X=>
   have e1:List.countP isR [It.put n w X]=0:=rfl
   have e2:(List.filterMap Pn [It.put n w X]).length=1:=rfl
   rw[e1] at c1 ⊢
   rw[e2] at c2 ⊢
   obtain⟨⟨j,hj,rfl⟩,e,he,eX,hX⟩:=gi
   obtain⟨c3,w2,q1,q2,q3⟩:=pt w e he
   have k1:=Nat.mul_le_mul_right m (show (pre.filterMap Pn).length+1≤2 by omega)
   have k2:=Nat.mul_le_mul_right d (show (pre.filterMap Pn).length+1≤2 by omega)
   exact ih.put hn (nmL_ok (by omega)) hX w2 hB (by rw[eX,← q1];rfl) q2 q3 (by omega) (by omega)
theorem plan_congr {PS PS':List PD}:∀{its:List It} {P:PD},(∀n w X,It.put n w X∈its→PS.getD w pd0=PS'.getD w pd0)→plan PS P its=plan PS' P its
 | [],_,_=>rfl
 | .row k a b s :: r,P,h=>plan_congr (P:=addRow P k a b s) fun n w X m=>h n w X (List.mem_cons_of_mem _ m)
 | .put n w X :: r,P,h=>by
  show plan PS (addPut P n X (PS.getD w pd0)) r=plan PS' (addPut P n X (PS'.getD w pd0)) r
  rw[h n w X (by simp)]
  exact plan_congr fun n w X m=>h n w X (List.mem_cons_of_mem _ m)
theorem nmsOf_nd {c:Int}{m n:Nat}(h:n≤4):((nmsOf c m n).map S).Nodup:=by
 unfold nmsOf
 rw[List.map_map]
 refine List.pairwise_map.mpr (List.Pairwise.imp_of_mem (fun {a b} ha hb ne=>?_) (List.nodup_range (n:=n)))
 have ha:=List.mem_range.mp ha
 have hb:=List.mem_range.mp hb
 have pa:=Nat.mod_lt (a+m) (show 0 < 4 by decide)
 have pb:=Nat.mod_lt (b+m) (show 0 < 4 by decide)
 intro z
 have z:S (nmL c ((a+m) % 4))=S (nmL c ((b+m) % 4)):=z
 rw[nmL_S,nmL_S] at z
 have:=nmS_inj pa pb z
 omega
theorem st0_pb {c:Int}{m n M D B:Nat}(h:n≤4)(hB:8≤B):PB (nmsOf c m n) M D 0 0 ((nmsOf c m n).drop 1).length 0 B (st0 ((nmsOf c m n).drop 1)):=by
 have hl:((nmsOf c m n).drop 1).length≤4:=by rw[List.length_drop,nmsOf_len];omega
 refine⟨⟨?_,fun d hd=>(by cases hd),?_,?_,by show 0≤40;decide,Nat.le_refl _,fun x hx=>?_⟩,⟨[],Nat.zero_le _,fun x hx=>?_⟩,Nat.zero_le _,rfl⟩
 ·show (((nmsOf c m n).drop 1).map S).Nodup
  rw[List.map_drop]
  exact(nmsOf_nd h).sublist (List.drop_sublist _ _)
 ·show _≤(((nmsOf c m n).drop 1).map S).length
  rw[List.length_map];exact Nat.le_refl _
 ·show (((nmsOf c m n).drop 1).map S).length≤20
  rw[List.length_map];omega
 ·obtain⟨y,hy,rfl⟩:=List.mem_map.mp hx
  rw[S_len]
  exact Nat.le_trans (nm_len (nmsOf_ok y (List.mem_of_mem_drop hy))) hB
 ·obtain⟨y,hy,rfl⟩:=List.mem_map.mp hx
  exact List.mem_append_left _ (List.mem_map.mpr ⟨y,List.mem_of_mem_drop hy,rfl⟩)
theorem dot_no {x:List Nat}(h:nmB x=true):46∉x:=fun z=>by
 unfold nmB at h
 rw[Bool.and_eq_true] at h
 have:=List.all_eq_true.mp h.2 46 z
 exact absurd this (by decide)
theorem lvl {c:Int}{bk:Bk}{PS:List PD}{w M D B2:Nat}{e:List (List Nat) × List It}(bo:Bo c bk)(he:bk[w]?=some e)(pt:Pts (bk.take w) PS M D B2)(h1:4+2*M≤20)(h2:3+2*D≤40) :
  WfQ 2 (B2+9) (plan PS (st0 e.1) e.2)∧(plan PS (st0 e.1) e.2).e=e.1.length∧(plan PS (st0 e.1) e.2).ls.length - (plan PS (st0 e.1) e.2).e≤1+2*M∧(plan PS (st0 e.1) e.2).ds.length≤3 - w+2*D∧Sml PS (st0 e.1) e.2∧(∀it∈e.2,ItOk w bk it)∧(e.1.map S).Nodup∧e.1.length≤10∧(∀x∈e.1,46∉x∧x.length≤8)∧e.2.length≤20:=by
 obtain⟨m,n,n2,n4,e1,g⟩:=bo.2 w e he
 have h0:PB (nmsOf c m n) M D 0 0 e.1.length 0 (B2+9) (st0 e.1):=by rw[e1];exact st0_pb n4 (by omega)
 have all:=PB.plan g pt (Nat.le_refl _) h0 nmsOf_ok (by rw[nmsOf_len];omega) (by omega)
 have last:=all e.2.length (Nat.le_refl _)
 rw[List.take_length] at last
 have ln:=len_sub last.wf.nd last.sub
 rw[nmsOf_len] at ln
 have k1:=Nat.mul_le_mul_right M g.cm
 have k2:=Nat.mul_le_mul_right D g.cm
 have el:e.1.length=n - 1:=by rw[e1,List.length_drop,nmsOf_len]
 have le:=last.e
 have ld:=last.ds
 have cr:=g.cr
 refine⟨last.wf.mono g.cm (Nat.le_refl _),le,by omega,by omega,fun i hi=>?_,fun it hit=>?_,?_,by omega,fun x hx=>?_,by have:=g.cl;omega⟩
 ·have:=all i hi
  exact⟨this.wf.l20,this.wf.d40,this.wf.rd⟩
 ·have gi:=g.g it hit
  cases it with
  |row k a b s=>exact⟨nm_len (nmsOf_ok a gi.1),nm_len (nmsOf_ok b gi.2.1)⟩
  |put nn w' X=>
   obtain⟨⟨j,hj,rfl⟩,e',he',eX,hX⟩:=gi
   have hw:w' < w:=by
    have:=(List.getElem?_eq_some_iff.mp he').1
    rw[List.length_take] at this
    omega
   rw[List.getElem?_take_of_lt hw] at he'
   exact⟨hw,nm_len (nmL_ok (by omega)),fun x hx=>nm_len (nmsOf_ok x (hX x hx)),e',he',eX⟩
 ·rw[e1,List.map_drop]
  exact(nmsOf_nd n4).sublist (List.drop_sublist _ _)
 ·have:nmB x=true:=nmsOf_ok x (List.mem_of_mem_drop (by rw[← e1];exact hx))
  exact⟨dot_no this,nm_len this⟩
theorem refs {c:Int}{bk:Bk}{w:Nat}{e:List (List Nat) × List It}(bo:Bo c bk)(he:bk[w]?=some e):∀n w' X,It.put n w' X∈e.2→w' < w:=fun n w' X hm=>by
 obtain⟨_,_,_,_,_,g⟩:=bo.2 w e he
 obtain⟨_,e',he',_⟩:=g.g _ hm
 have:=(List.getElem?_eq_some_iff.mp he').1
 rw[List.length_take] at this
 omega
theorem book_ok {c:Int}{bk:Bk}(bo:Bo c bk)(h3:bk.length=2):∃PS,BkOk bk PS∧Pts bk PS 7 17 27:=by
 match bk,h3 with
 | [a,b],_=>
  obtain⟨P0,h0⟩:∃P0,P0=plan [] (st0 a.1) a.2:=⟨_,rfl⟩
  obtain⟨P1,h1⟩:∃P1,P1=plan [P0] (st0 b.1) b.2:=⟨_,rfl⟩
  have g0:P0=plan [P0,P1] (st0 a.1) a.2:=h0.trans (plan_congr fun n w X m=>by have:=refs bo (w:=0) rfl n w X m;omega)
  have g1:P1=plan [P0,P1] (st0 b.1) b.2:=h1.trans (plan_congr fun n w X m=>by
   have:=refs bo (w:=1) rfl n w X m
   have:w=0:=by omega
   subst this;rfl)
  have l0:=lvl (PS:=[P0,P1]) (w:=0) (M:=0) (D:=0) (B2:=0) bo rfl (fun w e h=>by simp at h) (by decide) (by decide)
  rw[← g0] at l0
  have l1:=lvl (PS:=[P0,P1]) (w:=1) (M:=1) (D:=3) (B2:=9) bo rfl (fun w e h=>by
   have:w=0:=by
    have:=(List.getElem?_eq_some_iff.mp h).1
    simp at this
    omega
   subst this
   cases Option.some.inj h
   exact⟨2,l0.1,l0.2.1,l0.2.2.1,l0.2.2.2.1⟩) (by decide) (by decide)
  rw[← g1] at l1
  refine⟨[P0,P1],⟨rfl,fun w e h=>?_⟩,fun w e h=>?_⟩
  ·have:w=0∨w=1:=by
    have:=(List.getElem?_eq_some_iff.mp h).1
    simp at this
    omega
   rcases this with rfl | rfl
   ·cases Option.some.inj h
    obtain⟨a1,a2,a3,a4,a5,a6,a7,a8,a9,a10⟩:=l0
    exact⟨g0,a6,a7,a8,a9,a5,a10,a1.nd⟩
   ·cases Option.some.inj h
    obtain⟨a1,a2,a3,a4,a5,a6,a7,a8,a9,a10⟩:=l1
    exact⟨g1,a6,a7,a8,a9,a5,a10,a1.nd⟩
  ·have:w=0∨w=1:=by
    have:=(List.getElem?_eq_some_iff.mp h).1
    simp at this
    omega
   rcases this with rfl | rfl
   ·cases Option.some.inj h
    exact⟨2,l0.1.mono (Nat.le_refl _) (by decide),l0.2.1,Nat.le_trans l0.2.2.1 (by decide),Nat.le_trans l0.2.2.2.1 (by decide)⟩
   ·cases Option.some.inj h
    exact⟨2,l1.1.mono (Nat.le_refl _) (by decide),l1.2.1,Nat.le_trans l1.2.2.1 (by decide),Nat.le_trans l1.2.2.2.1 (by decide)⟩
theorem keep_cur (Y:YS)(P:PD):(Y.keep P).cur=P:=by
 unfold YS.keep YS.cur
 cases Y.op<;>rfl
theorem keep_keep (Y:YS)(P P':PD):(Y.keep P).keep P'=Y.keep P':=by
 obtain⟨g,pa,op⟩:=Y
 cases op<;>rfl
theorem keep_pa (Y:YS)(P:PD):(Y.keep P).pa=Y.pa:=by
 obtain⟨g,pa,op⟩:=Y
 cases op<;>rfl
theorem keep_self (Y:YS):Y.keep Y.cur=Y:=by
 obtain⟨g,pa,op⟩:=Y
 cases op<;>rfl
theorem fV_app2:∀{A B:List (List (List Nat))} {Y Y1:YS} {r:Except Er YS},fV Y A=.ok Y1→fV Y1 B=r→fV Y (A++B)=r
 | [],B,Y,Y1,r,h,h2=>by
  have:Y=Y1:=by unfold fV at h;injection h
  subst this
  exact h2
 |a :: A,B,Y,Y1,r,h,h2=>by
  obtain⟨Y3,h3,h4⟩:=fV_cons h
  exact(fV_step (r:=A++B) h3).trans (fV_app2 h4 h2)
theorem plan_pn (PS:List PD):∀(its:List It) (P:PD),(plan PS P its).pn=P.pn++(its.filterMap Pn).map S
 | [],P=>(List.append_nil _).symm
 | .row k a b s :: r,P=>plan_pn PS r (addRow P k a b s)
 | .put n w X :: r,P=>by
  show (plan PS (addPut P n X (PS.getD w pd0)) r).pn=P.pn++S n :: (r.filterMap Pn).map S
  rw[plan_pn PS r]
  show P.pn++[S n]++_=_
  rw[List.append_assoc]
  rfl
def Fnd (c:Int)(bk:Bk)(PS:List PD)(pa:List (Str × PD)):Prop:=∀(w:Nat) (e:List (List Nat) × List It),bk[w]?=some e→w < 20∧partOf pa (nmS c (w:Int))=some (PS.getD w pd0)
theorem fV_its {c:Int}{bk:Bk}{PS:List PD}{nms:List (List Nat)}{m d R e0 D0 B B2:Nat}{its:List It}{Y:YS}(g:Gi bk nms c R 2 its)(pt:Pts bk PS m d B2)(hB:B2+9≤B)(h0:PB nms m d 0 0 e0 D0 B Y.cur)(hn:∀x∈nms,nmB x=true)(h1:nms.length+2*m≤20)(h2:D0+R+2*d≤40)(pn:Y.cur.pn=[])(fd:Fnd c bk PS Y.pa)(ne:∀e∈bk,e.1≠[]) :
  ∀i,i≤its.length→fV Y ((its.take i).map (itT c))=.ok (Y.keep (plan PS Y.cur (its.take i)))
 |0,_=>by
  show fV Y []=.ok (Y.keep Y.cur)
  rw[keep_self]
  rfl
 |i+1,hi=>by
  have ih:=fV_its g pt hB h0 hn h1 h2 pn fd ne i (by omega)
  have nx:=PB.plan g pt hB h0 hn h1 h2 (i+1) hi
  have hlt:i < its.length:=by omega
  have et:its.take (i+1)=its.take i++[its[i]]:=by rw[List.take_add_one,List.getElem?_eq_getElem hlt];rfl
  have gi:=g.g its[i] (List.getElem_mem hlt)
  have nn:((its.take (i+1)).filterMap Pn).Nodup:=g.n.sublist ((List.take_sublist _ _).filterMap Pn)
  rw[et] at nx nn ⊢
  rw[List.map_append]
  refine fV_app ih ?_
  rw[plan_snoc] at nx ⊢
  generalize its[i]=it at gi nx nn ⊢
  have hpn:=plan_pn PS (its.take i) Y.cur
  rw[pn,List.nil_append] at hpn
  generalize plan PS Y.cur (its.take i)=P at nx hpn ⊢
  generalize its.take i=pre at nn hpn
  cases it with
  |row k a b s=>
   obtain⟨ga,gb,sz⟩:=gi
   show tV _ [wdC k,a,b,shw s]=.ok (Y.keep (addRow P k a b s))
   have ft:fits (addRow P k a b s):=⟨nx.wf.l20,nx.wf.d40⟩
   obtain⟨w1,w2,_⟩:=sz_wr sz
   rw[tV_row,rowV_ok (by rw[hn a ga,hn b gb];rfl) w1 (ok_all w2) (by rw[keep_cur];exact ft),keep_cur,keep_keep]
  |put n w X=>
   obtain⟨⟨j,hj,rfl⟩,e,he,eX,hX⟩:=gi
   obtain⟨w20,hp⟩:=fd w e he
   obtain⟨c3,_,q1,_⟩:=pt w e he
   have xne:X≠[]:=fun z=>ne e (List.mem_of_getElem? he) (List.eq_nil_of_length_eq_zero (by rw[← eX,z];rfl))
   have ft:fits (addPut P (nmL c j) X (PS.getD w pd0)):=⟨nx.wf.l20,nx.wf.d40⟩
   show tV _ ([112,117,116] :: nmL c j :: nmL c w :: X)=.ok (Y.keep (addPut P (nmL c j) X (PS.getD w pd0)))
   obtain⟨x,X',rfl⟩:∃x X',X=x :: X':=by cases X with
    |nil=>exact absurd rfl xne
    |cons x X'=>exact⟨x,X',rfl⟩
   rw[tV_put,putV_ok (P:=PS.getD w pd0) ?_ ?_ (by rw[keep_pa,nmL_S];exact hp) (by rw[eX,q1]) (by rw[keep_cur];exact ft),keep_cur,keep_keep]
   ·refine List.all_eq_true.mpr fun z hz=>?_
    rcases List.mem_cons.mp hz with rfl | hz
    ·exact nmL_ok (by omega)
    rcases List.mem_cons.mp hz with rfl | hz
    ·exact nmL_ok w20
    ·exact hn z (hX z hz)
   ·rw[keep_cur,hpn]
    intro z
    obtain⟨y,hy,ey⟩:=List.mem_map.mp z
    rw[List.filterMap_append] at nn
    have:=(List.nodup_append.mp nn).2.2 y hy (nmL c j) (by show nmL c j∈[nmL c j];simp)
    exact this (S_inj.mp ey)
theorem fV_part {c:Int}{bk:Bk}{PS:List PD}{w M D B2:Nat}{e:List (List Nat) × List It}{Y:YS}(bo:Bo c bk)(hw:w < 20)(he:bk[w]?=some e)(pt:Pts (bk.take w) PS M D B2)(h1:4+2*M≤20)(h2:3+2*D≤40)(fd:Fnd c (bk.take w) PS Y.pa)(op:Y.op=none)(nn:nmS c (w:Int)∉Y.pa.map (·.1))(pl:Y.pa.length < 20) :
  fV Y (partT c w e)=.ok { Y with pa:=Y.pa++[(nmS c (w:Int),plan PS (st0 e.1) e.2)],op:=none }:=by
 obtain⟨m,n,n2,n4,e1,g⟩:=bo.2 w e he
 have ends:∀e∈bk,e.1≠[]:=fun e he=>by
  obtain⟨w,hw⟩:=List.getElem?_of_mem he
  obtain⟨m,n,h1,h2,h3,_⟩:=bo.2 w e hw
  intro z
  have:=congrArg List.length z
  rw[h3,List.length_drop,nmsOf_len] at this
  simp at this
  omega
 have nm1:∀x∈e.1,nmB x=true:=fun x hx=>nmsOf_ok x (List.mem_of_mem_drop (by rw[← e1];exact hx))
 have nd:(e.1.map S).Nodup:=by rw[e1,List.map_drop];exact(nmsOf_nd n4).sublist (List.drop_sublist _ _)
 have el:e.1.length≤3:=by rw[e1,List.length_drop,nmsOf_len];omega
 have ene:=ends e (List.mem_of_getElem? he)
 have s1:tV Y ([112,97,114,116] :: nmL c w :: e.1)=.ok { Y with op:=some (nmS c (w:Int),st0 e.1) }:=by
  obtain⟨x,X',hx⟩:∃x X',e.1=x :: X':=by
   cases h:e.1 with
   |nil=>exact absurd h ene
   |cons x X'=>exact⟨x,X',rfl⟩
  rw[hx,tV_part,← hx,begV_ok op ?_ nd (by rw[nmL_S];exact nn) pl (by omega),nmL_S]
  ·rfl
  ·refine List.all_eq_true.mpr fun z hz=>?_
   rcases List.mem_cons.mp hz with rfl | hz
   ·exact nmL_ok hw
   ·exact nm1 z hz
 unfold partT
 rw[fV_step s1]
 have h0:PB (nmsOf c m n) M D 0 0 e.1.length 0 (B2+9) (st0 e.1):=by rw[e1];exact st0_pb n4 (by omega)
 have its:=fV_its (Y:={ Y with op:=some (nmS c (w:Int),st0 e.1) }) g pt (Nat.le_refl _) h0 nmsOf_ok (by rw[nmsOf_len];omega) (by omega) rfl fd (fun e he=>ends e (List.mem_of_mem_take he)) e.2.length (Nat.le_refl _)
 rw[List.take_length] at its
 refine fV_app its ?_
 rw[tV_done]
 rfl
def paOf (c:Int)(PS:List PD)(k:Nat):List (Str × PD):=(List.range k).map fun (w:Nat)=>(nmS c (w:Int),PS.getD w pd0)
theorem paOf_snoc (c:Int)(PS:List PD)(k:Nat):paOf c PS (k+1)=paOf c PS k++[(nmS c (k:Int),PS.getD k pd0)]:=by unfold paOf;rw[List.range_succ,List.map_append];rfl
theorem paOf_new {c:Int}{PS:List PD}{k:Nat}(h:k < 4):nmS c (k:Int)∉(paOf c PS k).map (·.1):=fun z=>by
 unfold paOf at z
 rw[List.map_map] at z
 obtain⟨w,hw,e⟩:=List.mem_map.mp z
 have hw:=List.mem_range.mp hw
 have:=nmS_inj (c:=c) (by omega) h (show nmS c (w:Int)=nmS c (k:Int) from e)
 omega
theorem partOf_app {pa:List (Str × PD)}{x:Str × PD}{n:Str}(h:n∉pa.map (·.1))(e:x.1=n):partOf (pa++[x]) n=some x.2:=by
 unfold partOf
 rw[List.find?_append,List.find?_eq_none.mpr (fun y hy=>by
  intro z
  exact h (List.mem_map.mpr ⟨y,hy,of_decide_eq_true z⟩))]
 rw[Option.none_or,List.find?_cons_of_pos (by exact decide_eq_true e)]
 rfl
theorem partOf_app2 {pa:List (Str × PD)}{x:Str × PD}{n:Str}{P:PD}(h:partOf pa n=some P):partOf (pa++[x]) n=some P:=by
 unfold partOf at h ⊢
 obtain⟨y,h1,h2⟩:=Option.map_eq_some_iff.mp h
 rw[List.find?_append,h1]
 show some y.2=_
 rw[h2]
theorem paOf_fnd {c:Int}{PS:List PD}:∀{k w:Nat},k≤4→w < k→partOf (paOf c PS k) (nmS c (w:Int))=some (PS.getD w pd0)
 |0,w,_,h=>by omega
 |k+1,w,hk,h=>by
  rw[paOf_snoc]
  by_cases e:w=k
  ·subst e
   exact partOf_app (paOf_new (by omega)) rfl
  ·exact partOf_app2 (paOf_fnd (by omega) (by omega))
theorem fnd_take {c:Int}{bk:Bk}{PS:List PD}{k:Nat}(h:k≤4):Fnd c (bk.take k) PS (paOf c PS k):=fun w e he=>by
 have:=(List.getElem?_eq_some_iff.mp he).1
 rw[List.length_take] at this
 exact⟨by omega,paOf_fnd h (by omega)⟩
theorem pts_take {bk:Bk}{PS:List PD}{m d B2 k:Nat}(h:Pts bk PS m d B2):Pts (bk.take k) PS m d B2:=fun w e he=>by
 have:=(List.getElem?_eq_some_iff.mp he).1
 rw[List.length_take] at this
 rw[List.getElem?_take_of_lt (by omega)] at he
 exact h w e he
def partsT (c:Int)(bk:Bk):Nat→List (List (List Nat))
 |0=>[]
 |k+1=>partsT c bk k++partT c k (bk.getD k ([],[]))
theorem fV_parts {c:Int}{bk:Bk}{PS:List PD}{G:PD}(bo:Bo c bk)(h3:bk.length=2)(ok:BkOk bk PS)(pt:Pts bk PS 7 17 27):∀k,k≤2→fV ⟨G,[],none⟩ (partsT c bk k)=.ok ⟨G,paOf c PS k,none⟩
 |0,_=>rfl
 |k+1,hk=>by
  refine fV_app2 (fV_parts bo h3 ok pt k (by omega)) ?_
  have he:bk[k]?=some (bk.getD k ([],[])):=by rw[List.getD_eq_getElem?_getD,List.getElem?_eq_getElem (show k < bk.length by omega)];rfl
  have:=fV_part (Y:=⟨G,paOf c PS k,none⟩) bo (show k < 20 by omega) he (pts_take pt) (by decide) (by decide) (fnd_take (by omega)) rfl (paOf_new (by omega)) (by show (paOf c PS k).length < 20;unfold paOf;rw[List.length_map,List.length_range];omega)
  rw[this,← (ok.p k _ he).1]
  rw[paOf_snoc]
def own (c:Int):List (List Nat):=nmsOf c 0 4
theorem own_len {c:Int}:(own c).length=4:=nmsOf_len
theorem pb_pd0 {c:Int}:PB (own c) 7 17 0 0 0 0 36 pd0:=⟨⟨.nil,fun d hd=>(by cases hd),Nat.le_refl _,Nat.zero_le _,Nat.zero_le _,Nat.le_refl _,fun x hx=>(by cases hx)⟩,⟨[],Nat.zero_le _,fun x hx=>(by cases hx)⟩,Nat.zero_le _,rfl⟩
theorem fV_ground {c:Int}{bk:Bk}{PS:List PD}{its:List It}{G:PD}{D0:Nat}(bo:Bo c bk)(h3:bk.length=2)(pt:Pts bk PS 7 17 27)(g:Gi bk (own c) c 2 2 its)(h0:PB (own c) 7 17 0 0 0 D0 36 G)(hD:D0≤1)(pn:G.pn=[]) :
  fV ⟨G,paOf c PS 2,none⟩ (its.map (itT c))=.ok ⟨plan PS G its,paOf c PS 2,none⟩:=by
 have ends:∀e∈bk,e.1≠[]:=fun e he=>by
  obtain⟨w,hw⟩:=List.getElem?_of_mem he
  obtain⟨m,n,h1,h2,h3,_⟩:=bo.2 w e hw
  intro z
  have:=congrArg List.length z
  rw[h3,List.length_drop,nmsOf_len] at this
  simp at this
  omega
 have fd:Fnd c bk PS (paOf c PS 2):=by
  have:=fnd_take (c:=c) (bk:=bk) (PS:=PS) (k:=2) (by decide)
  rwa [List.take_of_length_le (by omega)] at this
 have:=fV_its (Y:=⟨G,paOf c PS 2,none⟩) g pt (show 27+9≤36 by decide) h0 nmsOf_ok (by rw[own_len];decide) (by omega) pn fd ends its.length (Nat.le_refl _)
 rw[List.take_length] at this
 exact this
theorem sml_ground {c:Int}{bk:Bk}{PS:List PD}{its:List It}{G:PD}{D0:Nat}(pt:Pts bk PS 7 17 27)(g:Gi bk (own c) c 2 2 its)(h0:PB (own c) 7 17 0 0 0 D0 36 G)(hD:D0≤1):Sml PS G its:=fun i hi=>by
 have:=PB.plan g pt (show 27+9≤36 by decide) h0 nmsOf_ok (by rw[own_len];decide) (by omega) i hi
 exact⟨this.wf.l20,this.wf.d40,this.wf.rd⟩
theorem itok_ground {c:Int}{bk:Bk}{its:List It}(h3:bk.length=2)(g:Gi bk (own c) c 2 2 its):∀it∈its,ItOk 3 bk it:=fun it hit=>by
 have gi:=g.g it hit
 cases it with
 |row k a b s=>exact⟨nm_len (nmsOf_ok a gi.1),nm_len (nmsOf_ok b gi.2.1)⟩
 |put nn w' X=>
  obtain⟨⟨j,hj,rfl⟩,e',he',eX,hX⟩:=gi
  have:=(List.getElem?_eq_some_iff.mp he').1
  exact⟨by omega,nm_len (nmL_ok (by omega)),fun x hx=>nm_len (nmsOf_ok x (hX x hx)),e',he',eX⟩
theorem nm_no {x:List Nat}(h:nmB x=true):32∉x∧10∉x∧x.length≤28:=by
 have l:=nm_len h
 unfold nmB at h
 rw[Bool.and_eq_true] at h
 refine⟨fun z=>?_,fun z=>?_,by omega⟩
 ·exact absurd (List.all_eq_true.mp h.2 32 z) (by decide)
 ·exact absurd (List.all_eq_true.mp h.2 10 z) (by decide)
theorem tx_it {c:Int}{bk:Bk}{nms:List (List Nat)}{it:It}(hn:∀x∈nms,nmB x=true)(el:∀e∈bk,e.1.length≤5)(b20:bk.length≤20)(g:ItG bk nms c it):TxOk (itT c it):=by
 cases it with
 |row k a b s=>
  obtain⟨ga,gb,sz⟩:=g
  obtain⟨_,_,s1,s2,s3⟩:=sz_wr sz
  refine tx_row fun z hz=>?_
  rcases List.mem_cons.mp hz with rfl | hz
  ·exact nm_no (hn _ ga)
  rcases List.mem_cons.mp hz with rfl | hz
  ·exact nm_no (hn _ gb)
  ·rw[List.mem_singleton.mp hz]
   exact⟨s2,s3,by omega⟩
 |put n w X=>
  obtain⟨⟨j,hj,rfl⟩,e,he,eX,hX⟩:=g
  have l5:=el e (List.mem_of_getElem? he)
  have hw:=(List.getElem?_eq_some_iff.mp he).1
  refine tx_of (by show _ :: _≠[];simp) (fun z hz=>?_) (by show (_ :: _ :: _ :: X).length≤10;simp only[List.length_cons];omega)
  rcases List.mem_cons.mp hz with rfl | hz
  ·decide
  rcases List.mem_cons.mp hz with rfl | hz
  ·exact nm_no (nmL_ok (by omega))
  rcases List.mem_cons.mp hz with rfl | hz
  ·exact nm_no (nmL_ok (by omega))
  ·exact nm_no (hn z (hX z hz))
theorem it_w {c:Int}{bk:Bk}{nms:List (List Nat)}{it:It}(hn:∀x∈nms,nmB x=true)(el:∀e∈bk,e.1.length≤5∧e.1≠[])(b20:bk.length≤20)(g:ItG bk nms c it):ItW it:=by
 cases it with
 |row k a b s=>exact⟨nm_len (hn _ g.1),nm_len (hn _ g.2.1),g.2.2⟩
 |put n w X=>
  obtain⟨⟨j,hj,rfl⟩,e,he,eX,hX⟩:=g
  obtain⟨l5,ne⟩:=el e (List.mem_of_getElem? he)
  have hw:=(List.getElem?_eq_some_iff.mp he).1
  exact⟨nm_len (nmL_ok (by omega)),by omega,fun z=>ne (List.eq_nil_of_length_eq_zero (by rw[← eX,z];rfl)),by omega,fun x hx=>nm_len (hn x (hX x hx))⟩
theorem Bo.ends5 {c:Int}{bk:Bk}(h:Bo c bk):∀e∈bk,e.1.length≤5∧e.1≠[]:=fun e he=>by
 obtain⟨w,hw⟩:=List.getElem?_of_mem he
 obtain⟨m,n,h1,h2,h3,_⟩:=h.2 w e hw
 have l:e.1.length=n - 1:=by rw[h3,List.length_drop,nmsOf_len]
 refine⟨by omega,fun z=>?_⟩
 rw[z] at l
 simp at l
 omega
theorem tx_part {c:Int}{bk:Bk}{w:Nat}{e:List (List Nat) × List It}(bo:Bo c bk)(hw:w < 20)(he:bk[w]?=some e):∀ws∈partT c w e,TxOk ws:=fun ws hws=>by
 obtain⟨m,n,n2,n4,e1,g⟩:=bo.2 w e he
 unfold partT at hws
 rcases List.mem_cons.mp hws with rfl | hws
 ·have l5:=(bo.ends5 e (List.mem_of_getElem? he)).1
  refine tx_of (by simp) (fun z hz=>?_) (by simp only[List.length_cons];omega)
  rcases List.mem_cons.mp hz with rfl | hz
  ·decide
  rcases List.mem_cons.mp hz with rfl | hz
  ·exact nm_no (nmL_ok hw)
  ·exact nm_no (nmsOf_ok z (List.mem_of_mem_drop (by rw[← e1];exact hz)))
 ·rcases List.mem_append.mp hws with hws | hws
  ·obtain⟨it,hit,rfl⟩:=List.mem_map.mp hws
   have:=bo.1
   exact tx_it nmsOf_ok (fun e he=>(bo.ends5 e (List.mem_of_mem_take he)).1) (by rw[List.length_take];omega) (g.g it hit)
  ·rw[List.mem_singleton.mp hws]
   exact tx_of (by simp) (fun z hz=>by rw[List.mem_singleton.mp hz];decide) (by decide)
theorem tx_parts {c:Int}{bk:Bk}(bo:Bo c bk)(h3:bk.length=2):∀k,k≤2→∀ws∈partsT c bk k,TxOk ws
 |0,_,ws,h=>by cases h
 |k+1,hk,ws,h=>by
  rcases List.mem_append.mp h with h | h
  ·exact tx_parts bo h3 k (by omega) ws h
  ·exact tx_part bo (show k < 20 by omega) (by rw[List.getD_eq_getElem?_getD,List.getElem?_eq_getElem (show k < bk.length by omega)];rfl) ws h
def nk (H:Hp):Hp:=fun a=>match H a with
 |some (.dK _)=>none
 |some (.ins _ _ _)=>none
 |o=>o
section
variable {H H':Hp} {a y d:Addr} {xs:List V}
theorem nk_L (h:SqL K H a xs):SqL K (nk H) a xs:=by
 rcases h with (h | ⟨o,h⟩) | h
 ·exact .inl (.inl (by unfold nk;rw[h]))
 ·exact .inl (.inr ⟨o,by unfold nk;rw[h]⟩)
 ·exact .inr h
theorem nk_T (h:SqT K H a xs):SqT K (nk H) a xs:=by
 rcases h with (h | ⟨o,h⟩) | h
 ·exact .inl (.inl (by unfold nk;rw[h]))
 ·exact .inl (.inr ⟨o,by unfold nk;rw[h]⟩)
 ·exact .inr h
theorem nk_lst (h:H a=some (.lst xs)):nk H a=some (.lst xs):=by unfold nk;rw[h]
theorem ItAt.nk {v:V}{it:It}(h:ItAt K H v it):ItAt K (nk H) v it:=by
 cases h with
 |row h=>exact .row (nk_T h)
 |put h e=>exact .put (nk_T h) (nk_L e)
theorem Its.nk:∀{vs:List V} {its:List It},Its K H vs its→Its K (nk H) vs its
 |_,_,.nil=>.nil
 |_,_,.cons h r=>.cons h.nk (Its.nk r)
theorem BkAt.nk {vs:List V}{bk:Bk}(h:BkAt K H vs bk):BkAt K (nk H) vs bk:=⟨h.1,fun i v e h1 h2=>by
 obtain⟨t,l1,l2,us,rfl,a,b,c,d⟩:=h.2 i v e h1 h2
 exact⟨t,l1,l2,us,rfl,nk_T a,nk_L b,nk_L c,d.nk⟩⟩
theorem nk_same:Same (nk H) H:=fun b o e=>by
 unfold nk at e
 split at e
 ·cases e
 ·cases e
 ·exact e
end
def LayS (x:Str):Prop:=PyData.canLay0 (.str x)=true
theorem lay_app {a b:Str}(ha:LayS a)(hb:LayS b):LayS (a++b):=by
 have ha:a.cps.all (· < 0x110000)=true:=ha
 have hb:b.cps.all (· < 0x110000)=true:=hb
 show (a.cps++b.cps).all (· < 0x110000)=true
 rw[Array.all_append,ha,hb]
 rfl
theorem lay_dot:LayS ".":=by unfold LayS;decide +kernel
theorem plan_lay {PS:List PD}{bk:Bk}{nms:List (List Nat)}{c:Int}(hn:∀x∈nms,nmB x=true):∀{its:List It} {P0:PD},(∀it∈its,ItG bk nms c it)→(∀n w X,It.put n w X∈its→∀x∈(PS.getD w pd0).ls,LayS x)→(∀x∈P0.ls,LayS x)→∀x∈(plan PS P0 its).ls,LayS x
 | [],P0,_,_,h0=>h0
 | .row k a b s :: r,P0,g,hp,h0=>by
  have gi:=g _ (List.mem_cons_self ..)
  refine plan_lay hn (P0:=addRow P0 k a b s) (fun it h=>g it (List.mem_cons_of_mem _ h)) (fun n w X h=>hp n w X (List.mem_cons_of_mem _ h)) fun x hx=>?_
  rcases (lps_mem (labs:=[S a,S b])).mp hx with hx | hx
  ·exact h0 x hx
  ·have:x=S a∨x=S b:=by simpa using hx
   rcases this with rfl | rfl
   ·exact nm_lay (hn a gi.1)
   ·exact nm_lay (hn b gi.2.1)
 | .put n w X :: r,P0,g,hp,h0=>by
  obtain⟨⟨j,hj,rfl⟩,e,he,eX,hX⟩:=g _ (List.mem_cons_self ..)
  refine plan_lay hn (P0:=addPut P0 (nmL c j) X (PS.getD w pd0)) (fun it h=>g it (List.mem_cons_of_mem _ h)) (fun n w X h=>hp n w X (List.mem_cons_of_mem _ h)) fun x hx=>?_
  rcases (lps_mem (labs:=labsV (nmL c j) X (PS.getD w pd0))).mp hx with hx | hx
  ·exact h0 x hx
  ·unfold labsV at hx
   rcases List.mem_append.mp hx with hx | hx
   ·obtain⟨y,hy,rfl⟩:=List.mem_map.mp hx
    exact nm_lay (hn y (hX y hy))
   ·unfold inn at hx
    obtain⟨z,hz,rfl⟩:=List.mem_map.mp hx
    exact lay_app (lay_app (nm_lay (nmL_ok (by omega))) lay_dot) (hp _ w X (List.mem_cons_self ..) z (List.mem_of_mem_drop hz))
theorem book_lay {c:Int}{bk:Bk}{PS:List PD}(bo:Bo c bk)(ok:BkOk bk PS):∀w,∀x∈(PS.getD w pd0).ls,LayS x:=fun w=>by
 induction w using Nat.strongRecOn with
 |ind w ih=>
  intro x hx
  by_cases h:w < bk.length
  ·have he:=List.getElem?_eq_getElem h
   rw[(ok.p w _ he).1] at hx
   obtain⟨m,n,_,_,e1,g⟩:=bo.2 w _ he
   refine plan_lay (c:=c) (bk:=bk.take w) (nms:=nmsOf c m n) nmsOf_ok g.g (fun n w' X hm=>ih w' (refs bo he n w' X hm)) (fun y hy=>?_) x hx
   obtain⟨z,hz,rfl⟩:=List.mem_map.mp hy
   exact nm_lay (nmsOf_ok (c:=c) (m:=m) (n:=n) z (List.mem_of_mem_drop (by rw[← e1];exact hz)))
  ·rw[List.getD_eq_getElem?_getD,List.getElem?_eq_none (by rw[ok.l];omega)] at hx
   cases hx
theorem ground_lay {c:Int}{bk:Bk}{PS:List PD}{its:List It}{G:PD}(bo:Bo c bk)(ok:BkOk bk PS)(g:Gi bk (own c) c 2 2 its)(h0:∀x∈G.ls,LayS x):∀x∈(plan PS G its).ls,LayS x:=plan_lay (c:=c) (bk:=bk) (nms:=own c) nmsOf_ok g.g (fun n w X _=>book_lay bo ok w) h0
theorem ground_wf {c:Int}{bk:Bk}{PS:List PD}{its:List It}{G:PD}{D0:Nat}(pt:Pts bk PS 7 17 27)(g:Gi bk (own c) c 2 2 its)(h0:PB (own c) 7 17 0 0 0 D0 36 G)(hD:D0≤1):(plan PS G its).ls.Nodup∧(plan PS G its).ls.length≤20∧(plan PS G its).ds.length≤40∧∀d∈(plan PS G its).ds,RdOk ((plan PS G its).ls.length:Int) d:=by
 have:=PB.plan g pt (show 27+9≤36 by decide) h0 nmsOf_ok (by rw[own_len];decide) (by omega) its.length (Nat.le_refl _)
 rw[List.take_length] at this
 exact⟨this.wf.nd,this.wf.l20,this.wf.d40,this.wf.rd⟩
inductive Ek where
 |r | m | u | z
 deriving DecidableEq
def Ek.wd:Ek→Str
 | .r=>"row"
 | .m=>"name"
 | .u=>"number"
 | .z=>"size"
def Ek.oth (cl:Ek→Addr):Ek→List Addr
 | .r=>[cl .m,cl .u,cl .z]
 | .m=>[cl .r,cl .u,cl .z]
 | .u=>[cl .r,cl .m,cl .z]
 | .z=>[cl .r,cl .m,cl .u]
structure ErrC (K:PySem.W.Frag) (mg:Str→Option Value) (cl:Ek→Addr):Prop where
 x:∀e,ExcK K (cl e)
 mr:mg "NoRow"=some (.ref (cl .r))
 mm:mg "NoName"=some (.ref (cl .m))
 mu:mg "NoNumber"=some (.ref (cl .u))
 mz:mg "NoSize"=some (.ref (cl .z))
 oe:∃CO,mg "OhmError"=some (.ref CO)∧∀e,PySem.W.exmOne K (.ref (cl e)) (.ref CO)=some true
 k:∀e e',e≠e'→PySem.W.kitOne K (.ref (cl e)) (.ref (cl e'))=some false
 a:∀e,PySem.W.kitAny K (.ref (cl e)) ((e.oth cl).map Value.ref)=some false
 n:∀e,PySem.W.kitOne K (.type "NoneType") (.ref (cl e))=some false
def Ek.er:Ek→Er
 | .r=>.row
 | .m=>.name
 | .u=>.num
 | .z=>.size
theorem no_wr {t:List Nat}(h:¬Fine t∨¬Mq.Low (ival (ahead 47 t),ival (belowOf t))):¬∃p,Wr p t:=fun ⟨p,wr⟩=>by
 obtain⟨f,a,b⟩:=wr_fine wr
 rcases h with h | h
 ·exact h f
 ·rw[a,b] at h;exact h wr.low
theorem low_no {a b:Int}(h:b < 1∨Mq.gc a b≠1):¬Mq.Low (a,b):=fun ⟨x,y⟩=>by
 rcases h with h | h
 ·have:(1:Int)≤b:=x
  omega
 ·exact h y
theorem nw1:¬∃p,Wr p [50,47,52]:=no_wr (.inr (low_no (.inr (by decide))))
theorem tV_no {Y:YS}{w:List Nat}{r:List (List Nat)}(h:formM (S w) ((r.length:Int)+1)=false):tV Y (w :: r)=.error .row:=by
 unfold tV
 dsimp only
 rw[if_pos h]
theorem partOf_none {pa:List (Str × PD)}{n:Str}(h:n∉pa.map (·.1)):partOf pa n=none:=by
 unfold partOf
 rw[Option.map_eq_none_iff,List.find?_eq_none]
 intro x hx z
 have e:x.1=n:=by simpa using z
 exact h (List.mem_map.mpr ⟨x,hx,e⟩)
theorem nw2:¬∃p,Wr p []:=no_wr (.inl (fun h=>by have:=h.1.1;revert this;decide))
theorem nw5:¬∃p,Wr p [43,49]:=no_wr (.inl (fun h=>by
 have:=h.1.2.2 43 (by decide)
 omega))
def wK:List Nat:=[107,117,119]
def wV:List Nat:=[107,117,118]
def wB:List Nat:=[75,117,119]
def FormW:List (List (List Nat)):=[[[100,111,110,101],[110,111,119]],[[112,97,114,116],[107,117,119]],[[112,117,116],[107,117,119],[107,117,120]],[[112,117,116]],[[68,111,110,101]],[[]],[[100,111,110,101],[]],[[112,105,101,99,101],[97],[98]],[[112,117,115,104],[97],[98],[49],[]],[[114,111,119],[97],[98],[49]]]
def PartW:List (List (List Nat)):=[[[112,97,114,116],[107,117,119],[97],[97]],[[112,97,114,116],[107,117,119],[97],[66]],[[112,97,114,116],[107,117,119,107,117,119,107,117,119],[97]],[[112,97,114,116],[107,117,119],[97],[98],[99],[97]]]
def ConW:List (List (List Nat) × Ek):=[([[112,105,101,99,101],[97],[98],[50,47,52]],.u),([[104,111,108,100],[97],[98],[43,49]],.u),([[112,117,115,104],[97],[98],[]],.u),([[112,105,101,99,101],[65],[98],[50,47,52]],.m),([[104,111,108,100],[97],[98,50],[120]],.m),([[112,105,101,99,101],[],[98],[48]],.m),([[112,105,101,99,101],[97],[98],[48]],.z),([[112,105,101,99,101],[97],[98],[45,51]],.z),([[112,105,101,99,101],[97],[97],[45,49,47,55]],.z)]
abbrev Kn:=List (List Nat × Nat)
def FormOk (o:Bool)(ws:List (List Nat)):Prop:=ws∈FormW∨(o=true∧ws=[[112,97,114,116],[107,117,119],[97]])∨(o=false∧ws=[[100,111,110,101]])
def PutOk (kn:Kn)(us:List (List Nat))(op:List Nat)(ws:List (List Nat)):Prop:=∃(n m:List Nat) (X:List (List Nat)),ws=[112,117,116] :: n :: m :: X∧X≠[]∧X.length≤6∧(∀x∈X,x=[97]∨x=[98])∧(n=wK∨n=wB∨n∈us)∧(m=wV∨(m=op∧op≠[])∨∃q,(m,q)∈kn)∧((m=op∧op≠[])∨m=wV∨n∈us∨(∃q,(m,q)∈kn∧X.length≠q)∨n=wB)
def BadOk (kn:Kn)(us:List (List Nat))(op:List Nat)(ws:List (List Nat))(e:Ek):Prop:=
 (e=.r∧FormOk (decide (op≠[])) ws)∨(e=.m∧PutOk kn us op ws)∨(e=.m∧op=[]∧(ws∈PartW∨∃n q,(n,q)∈kn∧ws=[[112,97,114,116],n,[97]]))∨(ws,e)∈ConW
structure Mir (c:Int) (Y:YS) (kn:Kn) (us:List (List Nat)) (op:List Nat):Prop where
 kn:∀x∈kn,nmB x.1=true∧1≤x.2∧x.2≤5∧∃P,partOf Y.pa (S x.1)=some P∧P.e=x.2
 us:∀u∈us,nmB u=true∧S u∈Y.cur.pn
 o0:Y.op=none→op=[]
 o1:∀q,Y.op=some q→q.1=S op∧nmB op=true∧q.2.e≤5∧∃k:Nat,k < 4∧op=nmL c k
 pv:∀q∈Y.pa,∃k:Nat,k < 4∧q.1=nmS c (k:Int)
theorem nm_word {x:List Nat}(h:nmB x=true):32∉x∧10∉x∧x.length≤28:=nm_no h
theorem nm_ne {x:List Nat}(h:nmB x=true):x≠[]:=fun z=>by rw[z] at h;cases h
theorem partOf_in {pa:List (Str × PD)}{n:Str}{P:PD}(h:partOf pa n=some P):n∈pa.map (·.1):=by
 refine Classical.byContradiction fun c=>?_
 rw[partOf_none c] at h
 cases h
theorem not_kuv {c:Int}{k:Nat}(hk:k < 4):nmS c (k:Int)≠S wV:=fun z=>by
 have z:(nmS c (k:Int)).cps=(S wV).cps:=congrArg Str.cps z
 unfold nmS at z
 by_cases c1:mixF c 48271 3=1
 ·rw[if_pos c1] at z
  have z:=congrArg Array.toList z
  have k8:((k:Int) % 8).toNat=k:=by omega
  have k0:((k:Int) / 8).toNat=0:=by omega
  rw[k8,k0] at z
  have x0:("xyz":Str).cps.getD 0 0=120:=by decide +kernel
  rw[x0] at z
  have e:((S (List.replicate k 120)++(⟨#[120]⟩:Str):Str)).cps.toList=List.replicate k 120++[120]:=by
   show ((List.replicate k 120).toArray++#[120]).toList=_
   simp
  rw[e] at z
  have z:List.replicate k 120++[120]=[107,117,118]:=z
  match k,hk with
  |0,_=>cases z
  |1,_=>cases z
  |2,_=>cases z
  |3,_=>cases z
 ·rw[if_neg c1] at z
  have z:=congrArg Array.toList z
  obtain⟨p0,p8⟩:=mixF_in c 69621 (show (0:Int) < 8 by decide)
  obtain⟨z0,z8⟩:=mixF_in c 16807 (show (0:Int) < 8 - mixF c 69621 8 by omega)
  generalize mixF c 16807 (8 - mixF c 69621 8)=sz at z0 z8 z
  generalize mixF c 69621 8=pl at p0 p8 z8 z
  obtain⟨pn,rfl⟩:∃pn:Nat,pl=(pn:Int):=⟨pl.toNat,by omega⟩
  obtain⟨sn,rfl⟩:∃sn:Nat,sz=(sn:Int):=⟨sz.toNat,by omega⟩
  have all:∀(k:Fin 4) (p:Fin 8) (s:Fin 8),s.val+p.val < 8→(Txt.slice "momoommo" none (some ((p.val:Nat):Int))++(⟨#[("abcdefghijklmnopqrstuvwxyz":Str).cps.getD ((k.val:Nat):Int).toNat 0]⟩:Str)++Txt.slice "momoommo" (some (((p.val:Nat):Int)+1)) (some (((p.val:Nat):Int)+1+((s.val:Nat):Int)))).cps.toList≠[107,117,118]:=by decide +kernel
  exact all ⟨k,hk⟩ ⟨pn,by omega⟩ ⟨sn,by omega⟩ (by show sn+pn < 8;omega) z
section
variable {Y:YS}
theorem put_bad {n m:List Nat}{X:List (List Nat)}(hX:X≠[])(h:(n :: m :: X).all nmB=false∨S n∈Y.cur.pn∨∀P,partOf Y.pa (S m)=some P→X.length≠P.e):tV Y ([112,117,116] :: n :: m :: X)=.error .name:=by
 cases X with
 |nil=>exact absurd rfl hX
 |cons x X=>
  rw[tV_put]
  unfold putV
  by_cases a:(n :: m :: x :: X).all nmB=false
  ·rw[if_pos a]
  ·rw[if_neg a]
   by_cases b:S n∈Y.cur.pn
   ·rw[if_pos b]
   ·rw[if_neg b]
    cases e:partOf Y.pa (S m) with
    |none=>rfl
    |some P=>
     dsimp only
     rw[if_pos]
     rcases h with h | h | h
     ·exact absurd h a
     ·exact absurd h b
     ·exact h P e
theorem beg_bad {n:List Nat}{X:List (List Nat)}(ho:Y.op=none)(hX:X≠[])(h:(n :: X).all nmB=false∨¬(X.map S).Nodup∨S n∈Y.pa.map (·.1)):tV Y ([112,97,114,116] :: n :: X)=.error .name:=by
 cases X with
 |nil=>exact absurd rfl hX
 |cons x X=>
  rw[tV_part]
  unfold begV
  rw[ho]
  dsimp only
  by_cases a:(n :: x :: X).all nmB=false
  ·rw[if_pos a]
  ·rw[if_neg a,if_pos]
   rcases h with h | h
   ·exact absurd h a
   ·exact h
theorem form_all:∀ws∈FormW,(∀z∈ws,32∉z∧10∉z∧z.length≤28)∧ws.length≤10∧∃w r,ws=w :: r∧formM (S w) ((r.length:Int)+1)=false:=by
 intro ws h
 unfold FormW at h
 simp only[List.mem_cons,List.not_mem_nil,or_false] at h
 rcases h with rfl | rfl | rfl | rfl | rfl | rfl | rfl | rfl | rfl | rfl<;>exact⟨by decide,by decide,_,_,rfl,by decide +kernel⟩
theorem wr_m3:Wr (-3,1) [45,51]:=⟨⟨by decide,by decide⟩,by decide,by show (3:Nat) < 10 ^ 200;exact Nat.lt_of_lt_of_le (show (3:Nat) < 10 ^ 1 by decide) (Nat.pow_le_pow_right (by decide) (by decide)),by show (1:Nat) < 10 ^ 200;exact Nat.lt_of_lt_of_le (show (1:Nat) < 10 ^ 1 by decide) (Nat.pow_le_pow_right (by decide) (by decide))⟩
theorem wr_m17:Wr (-1,7) [45,49,47,55]:=⟨⟨by decide,by decide⟩,by decide,by show (1:Nat) < 10 ^ 200;exact Nat.lt_of_lt_of_le (show (1:Nat) < 10 ^ 1 by decide) (Nat.pow_le_pow_right (by decide) (by decide)),by show (7:Nat) < 10 ^ 200;exact Nat.lt_of_lt_of_le (show (7:Nat) < 10 ^ 1 by decide) (Nat.pow_le_pow_right (by decide) (by decide))⟩
theorem row_name {k:Kd}{a b t:List Nat}(h:(nmB a && nmB b)=false):tV Y [wdC k,a,b,t]=.error .name:=by
 rw[tV_row];unfold rowV;rw[if_pos h]
theorem row_num {k:Kd}{a b t:List Nat}(h:(nmB a && nmB b)=true)(n:¬∃p,Wr p t):tV Y [wdC k,a,b,t]=.error .num:=by
 rw[tV_row];unfold rowV;rw[if_neg (by rw[h];exact fun z=>by cases z),rdV_none n]
theorem row_size {k:Kd}{a b t:List Nat}{p:Mq.Q2}(h:(nmB a && nmB b)=true)(n:Wr p t)(z:okz k (some p)=false):tV Y [wdC k,a,b,t]=.error .size:=by
 rw[tV_row];unfold rowV;rw[if_neg (by rw[h];exact fun z=>by cases z),rdV_some n]
 dsimp only
 rw[if_pos z]
theorem con_tx:∀x∈ConW,x.1≠[]∧(∀z∈x.1,32∉z∧10∉z∧z.length≤28)∧x.1.length≤10:=by decide
theorem con_tV {ws:List (List Nat)}{e:Ek}(h:(ws,e)∈ConW):tV Y ws=.error e.er:=by
 unfold ConW at h
 simp only[List.mem_cons,List.not_mem_nil,or_false,Prod.mk.injEq] at h
 rcases h with ⟨rfl,rfl⟩ | ⟨rfl,rfl⟩ | ⟨rfl,rfl⟩ | ⟨rfl,rfl⟩ | ⟨rfl,rfl⟩ | ⟨rfl,rfl⟩ | ⟨rfl,rfl⟩ | ⟨rfl,rfl⟩ | ⟨rfl,rfl⟩
 ·exact row_num (k:=.pc) (by decide) nw1
 ·exact row_num (k:=.ho) (by decide) nw5
 ·exact row_num (k:=.pu) (by decide) nw2
 ·exact row_name (k:=.pc) (by decide)
 ·exact row_name (k:=.ho) (by decide)
 ·exact row_name (k:=.pc) (by decide)
 ·exact row_size (k:=.pc) (by decide) (wr1 (d:=0) (by decide)) (by decide)
 ·exact row_size (k:=.pc) (by decide) wr_m3 (by decide)
 ·exact row_size (k:=.pc) (by decide) wr_m17 (by decide)
theorem part_tx:∀ws∈PartW,ws≠[]∧(∀z∈ws,32∉z∧10∉z∧z.length≤28)∧ws.length≤10:=by decide
theorem bad_ok {c:Int}{kn:Kn}{us:List (List Nat)}{op:List Nat}{ws:List (List Nat)}{e:Ek}(M:Mir c Y kn us op){wc:Nat}(Wf:WfY wc Y)(h:BadOk kn us op ws e):TxOk ws∧tV Y ws=.error e.er:=by
 rcases h with ⟨rfl,h⟩ | ⟨rfl,h⟩ | ⟨rfl,ho,h⟩ | h
 ·rcases h with h | ⟨h,rfl⟩ | ⟨h,rfl⟩
  ·obtain⟨h1,h2,w,r,rfl,h3⟩:=form_all ws h
   exact⟨tx_of (by simp) h1 h2,tV_no h3⟩
  ·refine⟨tx_of (by simp) (by decide) (by decide),?_⟩
   cases e:Y.op with
   |none=>exact absurd (M.o0 e) (of_decide_eq_true h)
   |some q=>
    refine tV_part.trans ?_
    unfold begV
    rw[e]
    rfl
  ·refine⟨tx_of (by simp) (by decide) (by decide),?_⟩
   cases e:Y.op with
   |none=>
    refine tV_done.trans ?_
    unfold endV
    rw[e]
    rfl
   |some q=>
    have:=(M.o1 q e).2.1
    exact absurd (nm_ne this) (of_decide_eq_false h)
 ·obtain⟨n,m,X,rfl,x0,x6,xx,hn,hm,h⟩:=h
  have opn:op≠[]→nmB op=true∧partOf Y.pa (S op)=none:=fun ne=>by
   cases e:Y.op with
   |none=>exact absurd (M.o0 e) ne
   |some q=>
    obtain⟨a,b,_⟩:=M.o1 q e
    refine⟨b,partOf_none ?_⟩
    rw[← a]
    exact(Wf.op q e).2.2
  refine⟨tx_of (by simp) (fun z hz=>?_) (by simp only[List.length_cons];omega),put_bad x0 ?_⟩
  ·rcases List.mem_cons.mp hz with rfl | hz
   ·decide
   rcases List.mem_cons.mp hz with rfl | hz
   ·rcases hn with rfl | rfl | hn
    ·decide
    ·decide
    ·exact nm_word (M.us _ hn).1
   rcases List.mem_cons.mp hz with rfl | hz
   ·rcases hm with rfl | ⟨rfl,ne⟩ | ⟨q,hq⟩
    ·decide
    ·exact nm_word (opn ne).1
    ·exact nm_word (M.kn _ hq).1
   ·rcases xx z hz with rfl | rfl<;>decide
  ·rcases h with ⟨rfl,ne⟩ | rfl | h | ⟨q,hq,ne⟩ | rfl
   ·exact .inr (.inr fun P hP=>by rw[(opn ne).2] at hP;cases hP)
   ·refine .inr (.inr fun P hP=>?_)
    obtain⟨x,hx,e⟩:=List.mem_map.mp (partOf_in hP)
    obtain⟨k,hk,e2⟩:=M.pv x hx
    exact absurd (e2.symm.trans e) (not_kuv hk)
   ·exact .inr (.inl (M.us _ h).2)
   ·obtain⟨_,_,_,P,hP,eP⟩:=M.kn _ hq
    refine .inr (.inr fun P' hP'=>?_)
    rw[hP] at hP'
    cases hP'
    rw[eP]
    exact ne
   ·exact .inl rfl
 ·subst ho
  have on:Y.op=none:=by
   cases e:Y.op with
   |none=>rfl
   |some q=>exact absurd rfl (nm_ne (M.o1 q e).2.1)
  rcases h with h | ⟨n,q,hq,rfl⟩
  ·obtain⟨h1,h2,h3⟩:=part_tx ws h
   refine⟨tx_of h1 h2 h3,?_⟩
   unfold PartW at h
   simp only[List.mem_cons,List.not_mem_nil,or_false] at h
   rcases h with rfl | rfl | rfl | rfl
   ·exact beg_bad on (by simp) (.inr (.inl (by decide +kernel)))
   ·exact beg_bad on (by simp) (.inl (by decide))
   ·exact beg_bad on (by simp) (.inl (by decide))
   ·exact beg_bad on (by simp) (.inr (.inl (by decide +kernel)))
  ·obtain⟨a,_,_,P,hP,_⟩:=M.kn _ hq
   refine⟨tx_of (by simp) (fun z hz=>?_) (by simp),beg_bad on (by simp) (.inr (.inr (partOf_in hP)))⟩
   rcases List.mem_cons.mp hz with rfl | hz
   ·decide
   rcases List.mem_cons.mp hz with rfl | hz
   ·exact nm_word a
   ·rw[List.mem_singleton.mp hz];decide
 ·obtain⟨h1,h2,h3⟩:=con_tx _ h
  exact⟨tx_of h1 h2 h3,con_tV h⟩
end
end
end K84
namespace L2
open PySem PySem.Spec PyProof.Rows
variable {X:Cx}
def rRepW:R2:=fun x y H Q=>∃(w:List Nat) (k:Int),x=.str (Tx.S w)∧y=.int k∧0≤k∧k≤1000∧1≤w.length∧w.length≤10∧Q (.str (Tx.S (List.replicate k.toNat w).flatten)) H
theorem foldl_repW (w:List Nat):∀(n:Nat) (a:Array Nat),(List.foldl (fun x1 x2=>x1++x2) a (List.replicate n w.toArray)).toList=a.toList++(List.replicate n w).flatten
 |0,a=>by simp
 |n+1,a=>by
  rw[List.replicate_succ,List.foldl_cons,foldl_repW w n,List.replicate_succ]
  simp
theorem repW_len (w:List Nat)(n:Nat):(List.replicate n w).flatten.length=n*w.length:=by simp
theorem op_repW:OpR X (binaryOp .Mult) rRepW:=by
 intro pins s σ H x y v u Q I rx ry h
 obtain⟨d,k,rfl,rfl,h0,h1,w1,w10,q⟩:=h
 obtain⟨t,rfl⟩:=rx
 obtain⟨t',rfl⟩:=ry
 have hz:sizeLine=16777216:=sizeLine_eq
 have l1:(Tx.S d).length=d.length:=Tx.S_len d
 have kw:d.length*k.toNat≤10*1000:=Nat.mul_le_mul w10 (by omega)
 refine PySem.P.mul_str (by rw[Bool.or_eq_false_iff];exact⟨decide_eq_false (by omega),decide_eq_false (by omega)⟩) (fun hk _=>?_) (fun hk _=>?_) ?_
 ·have hk1:1≤k:=by omega
  have:(1000:Int)≤(2 ^ 63 - 1) / k:=by
   refine Int.le_ediv_of_mul_le (by omega) ?_
   have:1000*k≤1000*1000:=by omega
   omega
  omega
 ·unfold Builtin.Str.tooLong
  exact decide_eq_false (by rw[l1];omega)
 ·split
  ·have e:Tx.S (List.replicate k.toNat d).flatten=Str.empty:=by rw[show k.toNat=0 by omega];rfl
   rw[e] at q
   exact⟨by show (0:Nat)≤_;omega,.str Str.empty,H,I.tok _,⟨_,rfl⟩,q⟩
  ·split
   ·rename_i hk e
    have:k=1:=by
     rw[l1] at e
     simp only[Bool.or_eq_true,decide_eq_true_eq,beq_iff_eq] at e
     omega
    rw[this] at q
    have e1:(List.replicate (1:Int).toNat d).flatten=d:=by show (List.replicate 1 d).flatten=d;simp
    rw[e1] at q
    exact⟨.str _,H,I,⟨_,rfl⟩,q⟩
   ·have hl:(⟨List.foldl (fun x1 x2=>x1++x2) #[] (List.replicate k.toNat (Tx.S d).cps)⟩:Str)=Tx.S (List.replicate k.toNat d).flatten:=Tx.S_of (by rw[show (Tx.S d).cps=d.toArray from rfl,foldl_repW];rfl)
    rw[hl]
    exact⟨by rw[Tx.S_len,repW_len,Nat.mul_comm];omega,.str _,H,I.tok _,⟨_,rfl⟩,q⟩
end L2
set_option maxHeartbeats 2000000
namespace L2
open PySem PySem.Spec PyProof.Rows Tx
section
variable {X:Cx}
theorem pa_strs (X:Cx):∀l:List (Str × _ × Pos),PA X (l.map fun q=>Expr.Constant (.str q.1) q.2.1 q.2.2) (fun _ H Q=>Q (l.map fun q=>V.str q.1) H)
 | []=>pa_nil
 |q :: l=>pa_cons (te:=tC (.str q.1)) pe_str (pa_strs X l) rfl
end
end L2
set_option maxHeartbeats 4000000
namespace K84
open PySem L2 Tx
section
variable {P:Program} {w:World} {K:PySem.W.Frag} {mg:Str→Option Value} {base:Heap} {f g1 g2 g3 g4 g5 g6 g7 g8:Addr} {fd gd1 gd2 gd3 gd4 gd5 gd6 gd7 gd8:FuncData} {CX:CXT}
inductive KnAt (K:PySem.W.Frag) (H:Hp):List V→Kn→Prop where
 |nil:KnAt K H [] []
 |cons {t:Addr} {n:List Nat} {m:Nat} {vs:List V} {kn:Kn} (h:SqT K H t [.str (S n),.int (m:Int)]) (r:KnAt K H vs kn):KnAt K H (.ref t :: vs) ((n,m) :: kn)
theorem KnAt.same {K:PySem.W.Frag}{H H':Hp}(s:Same H H'):∀{xs:List V} {rs:Kn},KnAt K H xs rs→KnAt K H' xs rs
 |_,_,.nil=>.nil
 |_,_,.cons h r=>.cons (s.seqT h) (KnAt.same s r)
theorem KnAt.length {K:PySem.W.Frag}{H:Hp}:∀{xs:List V} {rs:Kn},KnAt K H xs rs→xs.length=rs.length
 |_,_,.nil=>rfl
 |_,_,.cons _ r=>by rw[List.length_cons,List.length_cons,r.length]
theorem KnAt.at {K:PySem.W.Frag}{H:Hp}:∀{xs:List V} {rs:Kn} {i:Nat},KnAt K H xs rs→i < xs.length→∃(t:Addr) (n:List Nat) (m:Nat),xs[i]?=some (.ref t)∧(n,m)∈rs∧SqT K H t [.str (S n),.int (m:Int)]
 |_,_,i,.nil,h=>by simp at h
 |_,_,0,.cons (t:=t) (n:=n) (m:=m) a _,h=>⟨t,n,m,rfl,by simp,a⟩
 |_,_,i+1,.cons _ r,h=>by
  obtain⟨t,n,m,a,b,c⟩:=KnAt.at (i:=i) r (by simpa using h)
  exact⟨t,n,m,by simpa using a,List.mem_cons_of_mem _ b,c⟩
theorem KnAt.snoc {K:PySem.W.Frag}{H:Hp}{t:Addr}{n:List Nat}{m:Nat}(h:SqT K H t [.str (S n),.int (m:Int)]):∀{xs:List V} {rs:Kn},KnAt K H xs rs→KnAt K H (xs++[.ref t]) (rs++[(n,m)])
 |_,_,.nil=>.cons h .nil
 |_,_,.cons a r=>.cons a (KnAt.snoc h r)
structure KuOk (kn:Kn) (us:List (List Nat)) (op:List Nat):Prop where
 k:∀x∈kn,x.1.length≤8∧1≤x.2∧x.2≤5
 kl:kn.length≤100
 u:∀x∈us,x.length≤8
 ul:us.length≤100
 o:op.length≤8
theorem jnc_rep (x:Nat):∀(k:Nat) (m:List Nat),jnc 32 (m :: List.replicate k [x])=m++(List.replicate k [32,x]).flatten
 |0,m=>by simp[jnc]
 |k+1,m=>by
  rw[List.replicate_succ,jnc_c (by simp),jnc_rep x k [x],List.replicate_succ]
  simp
theorem putA (n m:List Nat)(x k:Nat) : "put "++S n++" "++S m++S (List.replicate k [32,x]).flatten=S (jnc 32 ([112,117,116] :: n :: m :: List.replicate k [x])):=by
 have e:(" ":Str)=S [32]:=by decide +kernel
 have e2:("put ":Str)=S [112,117,116,32]:=by decide +kernel
 rw[e,e2,jnc_c (by simp),jnc_c (by simp),jnc_rep]
 simp only[S_app]
 congr 1
 simp only[List.append_assoc,List.cons_append,List.nil_append]
theorem putB (m:List Nat)(x k:Nat) : "put kuw "++S m++S (List.replicate k [32,x]).flatten=S (jnc 32 ([112,117,116] :: wK :: m :: List.replicate k [x])):=by
 have e2:("put kuw ":Str)=S [112,117,116,32,107,117,119,32]:=by decide +kernel
 rw[e2,jnc_c (by simp),jnc_c (by simp),jnc_rep]
 simp only[S_app,wK]
 congr 1
theorem putC (m:List Nat)(x k:Nat) : "put Kuw "++S m++S (List.replicate k [32,x]).flatten=S (jnc 32 ([112,117,116] :: wB :: m :: List.replicate k [x])):=by
 have e2:("put Kuw ":Str)=S [112,117,116,32,75,117,119,32]:=by decide +kernel
 rw[e2,jnc_c (by simp),jnc_c (by simp),jnc_rep]
 simp only[S_app,wB]
 congr 1
theorem putD (m:List Nat) : "put kuw "++S m++" a"=S (jnc 32 ([112,117,116] :: wK :: m :: [[97]])):=by
 have e3:(" a":Str)=S (List.replicate 1 [32,97]).flatten:=by decide +kernel
 rw[e3,putB m 97 1]
 rfl
theorem partD (m:List Nat) : "part "++S m++" a"=S (jnc 32 [[112,97,114,116],m,[97]]):=by
 have e2:("part ":Str)=S [112,97,114,116,32]:=by decide +kernel
 have e3:(" a":Str)=S [32,97]:=by decide +kernel
 rw[e2,e3]
 simp only[S_app]
 congr 1
theorem S_nil {op:List Nat}:S op = ""↔op=[]:=by
 have e:("":Str)=S []:=by decide +kernel
 rw[e]
 refine⟨fun h=>?_,fun h=>by rw[h]⟩
 have h:(S op).cps=(S []).cps:=congrArg Str.cps h
 have h:=congrArg Array.toList h
 simpa[S] using h
def spBadForm (K:PySem.W.Frag):Sp:=fun vs H Q _=>∃(c:Int) (o:Bool),vs=[.int c,.bl o]∧∀ws H',Same H H'→FormOk o ws→Q (.str (S (jnc 32 ws))) H'
def spBadPut (K:PySem.W.Frag):Sp:=fun vs H Q _=>∃(c:Int) (KN U:Addr) (kvs:List V) (kn:Kn) (us:List (List Nat)) (op:List Nat),vs=[.int c,.ref KN,.ref U,.str (S op)]∧SqL K H KN kvs∧KnAt K H kvs kn∧SqL K H U (us.map fun x=>V.str (S x))∧KuOk kn us op∧∀ws H',Same H H'→PutOk kn us op ws→Q (.str (S (jnc 32 ws))) H'
def spBad (K:PySem.W.Frag):Sp:=fun vs H Q _=>∃(c:Int) (KN U:Addr) (kvs:List V) (kn:Kn) (us:List (List Nat)) (op:List Nat),vs=[.int c,.ref KN,.ref U,.str (S op)]∧SqL K H KN kvs∧KnAt K H kvs kn∧SqL K H U (us.map fun x=>V.str (S x))∧KuOk kn us op∧∀tt ws e H',Same H H'→H' tt=some (.tup [.str (S (jnc 32 ws)),.str e.wd])→BadOk kn us op ws e→Q (.ref tt) H'
abbrev sBadForm:Stmt:=top 61
theorem scBadForm:FnScope ["_law_cell","_law_opened","_law_some"] ["_law_cell","_law_opened"] (defScope sBadForm):=⟨rfl,rfl,rfl,by decide +kernel,rfl,by decide +kernel,by decide +kernel⟩
def bf0:Stmt:=(defBody sBadForm).getD 0 (.Pass ⟨0,0,0,0⟩)
@[irreducible] def bf1:Stmt:=(defBody sBadForm).getD 1 (.Pass ⟨0,0,0,0⟩)
def bf2:Stmt:=(defBody sBadForm).getD 2 (.Pass ⟨0,0,0,0⟩)
theorem bf_eq:defBody sBadForm=[bf0,bf1,bf2]:=by unfold bf1;rfl
abbrev fo:List Str:=["done now","part kuw","put kuw kux","put","Done","","done ","piece a b","push a b 1 ","row a b 1"]
theorem bf1_ex:∃(q p2 p:Pos) (l:List (Str × _ × Pos)),bf1=.Assign [.Name "_law_some" q] (.List (l.map fun q=>Expr.Constant (.str q.1) q.2.1 q.2.2) p2) p∧l.map (fun q=>V.str q.1)=fo.map V.str:=by
 unfold bf1
 exact⟨_,_,_,[("done now",_,_),("part kuw",_,_),("put kuw kux",_,_),("put",_,_),("Done",_,_),("",_,_),("done ",_,_),("piece a b",_,_),("push a b 1 ",_,_),("row a b 1",_,_)],rfl,rfl⟩
theorem fo_S:fo=FormW.map fun ws=>S (jnc 32 ws):=by decide +kernel
theorem fo_at {r:Int}(h0:0≤r)(h1:r < 10):∃ws∈FormW,atI (fo.map V.str) r=some (.str (S (jnc 32 ws))):=by
 have hq:r.toNat < FormW.length:=by show r.toNat < 10;omega
 refine⟨FormW[r.toNat],List.getElem_mem hq,?_⟩
 have:=atI_nat (xs:=fo.map V.str) (j:=r.toNat) (v:=V.str (S (jnc 32 FormW[r.toNat]))) (by rw[fo_S,List.map_map,List.getElem?_map,List.getElem?_eq_getElem hq];rfl)
 rwa [show ((r.toNat:Nat):Int)=r by omega] at this
theorem ok_badform {dV:Value}(F:FunD K "_law_bad_form" "_law_bad_form" sBadForm dV f fd)(G1:FnOk P w K mg base CX0 1 g1 gd1 ["_law_cell","_law_prime","_law_many"] spMixF)(b1:Binds K gd1 ["_law_cell","_law_prime","_law_many"] [])(k1:PySem.W.keepIn K (.ref g1)=true)(m1:mg "_law_mix"=some (.ref g1)) :
  FnOk P w K mg base CX 2 f fd ["_law_cell","_law_opened"] (spBadForm K):=by
 refine F.ok scBadForm (fun vs H Q E h=>?_) (fun cdv A outer s H vs Q E hr h=>?_)
 ·obtain⟨c,o,rfl,q⟩:=h
  rfl
 obtain⟨c,o,rfl,q⟩:=h
 have hz:sizeLine=16777216:=sizeLine_eq
 rw[bf_eq]
 obtain⟨q1,p2,p3,l0,e0,eo0⟩:=bf1_ex
 rw[e0]
 refine⟨_,(pss_cons (ps_if (pt_cmpR op_eq (pe_call G1 hr rfl m1 k1 b1 .nil pass0 (pa_cons (pv 0) (pa_cons pe_int (pa_cons pe_int pa_nil)))) pe_int (nomark _)) (pss_cons (ps_if (pt_val (pv 1)) (pss_one (ps_ret pe_str)) pss_nil)
  (pss_one (ps_ret pe_str))) pss_nil)
  (pss_cons (ps_set (i:=2) scBadForm.nd rfl (Or.inl rfl) (pe_lst (pa_strs _ l0)))
  (pss_one (ps_ret (pe_ix ix_list (pv 2) (pe_call G1 hr rfl m1 k1 b1 .nil pass0 (pa_cons (pv 0) (pa_cons pe_int (pa_cons pe_int pa_nil)))) (fun _ _=>rfl)))))),?_⟩
 rw[eo0]
 refine⟨_,rfl,c,3791,3,rfl,by decide,by decide,by decide,rfl,_,rfl,ite2 (fun h=>?_) (fun h=>?_)⟩
 ·refine⟨_,rfl,_,rfl,?_⟩
  cases o with
  |true=>exact L2.ifT rfl (by
    have:=q [[112,97,114,116],[107,117,119],[97]] H (Same.refl _) (.inr (.inl ⟨rfl,rfl⟩))
    rw[show S (jnc 32 [[112,97,114,116],[107,117,119],[97]]) = "part kuw a" by decide +kernel] at this
    exact this)
  |false=>exact L2.ifF rfl (by
    have:=q [[100,111,110,101]] H (Same.refl _) (.inr (.inr ⟨rfl,rfl⟩))
    rw[show S (jnc 32 [[100,111,110,101]]) = "done" by decide +kernel] at this
    exact this)
 ·obtain⟨r0,r3⟩:=mixF_in c 5003 (show (0:Int) < 10 by decide)
  refine⟨by show 10≤sizeLine;decide,fun L hL=>?_⟩
  have s1:=same_new hL (.lst (fo.map V.str))
  have e1:upd H L (.lst (fo.map V.str)) L=some (.lst (fo.map V.str)):=upd_same
  generalize upd H L (.lst (fo.map V.str))=H1 at s1 e1 ⊢
  obtain⟨ws,hws,eA⟩:=fo_at r0 r3
  exact⟨_,rfl,_,rfl,c,5003,10,rfl,by decide,by decide,by decide,L,_,_,_,rfl,rfl,SqL.of e1,eA,q ws H1 s1 (.inl hws)⟩
abbrev sBadPut:Stmt:=top 62
theorem scBadPut:FnScope ["_law_cell","_law_known","_law_used","_law_opened","_law_way","_law_name_here","_law_many"] ["_law_cell","_law_known","_law_used","_law_opened"] (defScope sBadPut):=⟨rfl,rfl,rfl,by decide +kernel,rfl,by decide +kernel,by decide +kernel⟩
theorem ok_badput {dV:Value}(F:FunD K "_law_bad_put" "_law_bad_put" sBadPut dV f fd)(ml:mg "len"=none)(G1:FnOk P w K mg base CX0 1 g1 gd1 ["_law_cell","_law_prime","_law_many"] spMixF)(b1:Binds K gd1 ["_law_cell","_law_prime","_law_many"] [])(k1:PySem.W.keepIn K (.ref g1)=true)(m1:mg "_law_mix"=some (.ref g1)) :
  FnOk P w K mg base CX 2 f fd ["_law_cell","_law_known","_law_used","_law_opened"] (spBadPut K):=by
 refine F.ok scBadPut (fun vs H Q E h=>?_) (fun cdv A outer s H vs Q E hr h=>?_)
 ·obtain⟨c,KN,U,kvs,kn,us,op,rfl,hK,hKn,hU,ku,q⟩:=h
  rfl
 obtain⟨c,KN,U,kvs,kn,us,op,rfl,hK,hKn,hU,ku,q⟩:=h
 have hz:sizeLine=16777216:=sizeLine_eq
 have l1:(" ":Str).length=1:=by decide +kernel
 have l4:("put ":Str).length=4:=by decide +kernel
 have l2a:(" a":Str).length=2:=by decide +kernel
 have l2b:(" b":Str).length=2:=by decide +kernel
 have l8:("put kuw ":Str).length=8:=by decide +kernel
 have l8b:("put Kuw ":Str).length=8:=by decide +kernel
 have ol:=ku.o
 refine⟨_,(pss_cons (ps_set (i:=4) scBadPut.nd rfl (Or.inl rfl) (pe_call G1 hr rfl m1 k1 b1 .nil pass0 (pa_cons (pv 0) (pa_cons pe_int (pa_cons pe_int pa_nil)))))
  (pss_cons (ps_if (PW.pt (pw_and (pt_cmpR op_ne (pv 3) pe_str (nomark _)) (pw_and1 (pt_cmpR op_eq (pv 4) pe_int (nomark _))))) (pss_one (ps_ret (pe_op op_add_str (pe_op op_add_str pe_str (pv 3)) pe_str))) pss_nil)
  (pss_cons (ps_if (PW.pt (pw_or (pt_cmpR op_eq (pe_callB call_len_seq rfl ml PySem.boot_len (pa_cons (pv 1) pa_nil)) pe_int (nomark _)) (pw_or1 (pt_cmpR op_eq (pv 4) pe_int (nomark _))))) (pss_one (ps_ret pe_str)) pss_nil)
  (pss_cons (ps_asg (pe_ix ix_list (pv 1) (pe_call G1 hr rfl m1 k1 b1 .nil pass0 (pa_cons (pv 0) (pa_cons pe_int (pa_cons (pe_callB call_len_seq rfl ml PySem.boot_len (pa_cons (pv 1) pa_nil)) pa_nil)))) (fun _ _=>rfl)) (pg_tup rfl (pgs_cons (pg_name (i:=5) scBadPut.nd rfl (Or.inl rfl)) (pgs_cons (pg_name (i:=6) scBadPut.nd rfl (Or.inl rfl)) pgs_nil))))
  (pss_cons (ps_if (PW.pt (pw_and (pt_cmpR op_eq (pv 4) pe_int (nomark _)) (pw_and1 (pt_cmpR op_gt (pe_callB call_len_seq rfl ml PySem.boot_len (pa_cons (pv 2) pa_nil)) pe_int (nomark _))))) (pss_one (ps_ret (pe_op op_add_str (pe_op op_add_str (pe_op op_add_str (pe_op op_add_str pe_str (pe_ix ix_list (pv 2) pe_int (fun _ _=>rfl))) pe_str) (pv 5)) (pe_op op_repW pe_str (pv 6))))) pss_nil)
  (pss_cons (ps_if (PW.pt (pw_and (pt_cmpR op_eq (pv 4) pe_int (nomark _)) (pw_and1 (pt_cmpR op_gt (pv 6) pe_int (nomark _))))) (pss_one (ps_ret (pe_op op_add_str (pe_op op_add_str pe_str (pv 5)) (pe_op op_repW pe_str (pe_op op_sub (pv 6) pe_int))))) pss_nil)
  (pss_cons (ps_if (pt_cmpR op_eq (pv 4) pe_int (nomark _)) (pss_one (ps_ret (pe_op op_add_str (pe_op op_add_str pe_str (pv 5)) (pe_op op_repW pe_str (pv 6))))) pss_nil)
  (pss_one (ps_ret (pe_op op_add_str (pe_op op_add_str pe_str (pv 5)) (pe_op op_repW pe_str (pe_op op_add (pv 6) pe_int)))))))))))),?_⟩
 obtain⟨r0,r5⟩:=mixF_in c 3797 (show (0:Int) < 5 by decide)
 refine⟨_,rfl,c,3797,5,rfl,by decide,by decide,by decide,?_⟩
 generalize mixF c 3797 5=wy at r0 r5 ⊢
 dsimp only[gName]
 refine cut1 (fun σ H'=>σ=[some (.int c),some (.ref KN),some (.ref U),some (.str (S op)),some (.int wy),none,none]∧H=H') (fun X hX=>?_) ?_
 ·refine⟨_,rfl,rfl,_,rfl,ite2 (fun h=>?_) (fun h=>iteF (hX _ _ ⟨rfl,rfl⟩))⟩
  have ne:op≠[]:=fun z=>by rw[z] at h;revert h;decide +kernel
  refine⟨_,rfl,rfl,_,rfl,ite2 (fun h2=>?_) (fun _=>hX _ _ ⟨rfl,rfl⟩)⟩
  refine⟨_,rfl,_,_,rfl,rfl,(by simp only[len2,S_len,l1,l4,l2a,l2b,l8,l8b,repW_len];(try simp only[List.length_cons,List.length_nil]);omega),_,_,rfl,rfl,(by simp only[len2,S_len,l1,l4,l2a,l2b,l8,l8b,repW_len];(try simp only[List.length_cons,List.length_nil]);omega),?_⟩
  rw[putD]
  exact q _ H (Same.refl _) ⟨wK,op,[[97]],rfl,by simp,by simp,fun x hx=>.inl (List.mem_singleton.mp hx),.inl rfl,.inr (.inl ⟨rfl,ne⟩),.inl ⟨rfl,ne⟩⟩
 rintro σ H' ⟨rfl,rfl⟩
 refine cut1 (fun σ H'=>(σ=[some (.int c),some (.ref KN),some (.ref U),some (.str (S op)),some (.int wy),none,none]∧H=H')∧0 < kvs.length) (fun X hX=>?_) ?_
 ·have fin:Q (.str "put kuw kuv a b") H:=by
   have:=q [[112,117,116],wK,wV,[97],[98]] H (Same.refl _) ⟨wK,wV,[[97],[98]],rfl,by simp,by simp,fun x hx=>by simpa using hx,.inl rfl,.inl rfl,.inr (.inl rfl)⟩
   rwa [show S (jnc 32 [[112,117,116],wK,wV,[97],[98]]) = "put kuw kuv a b" by decide +kernel] at this
  refine⟨_,rfl,KN,_,rfl,.inl hK,rfl,_,rfl,ite2 (fun h=>iteT fin) (fun h=>?_)⟩
  refine⟨_,rfl,rfl,_,rfl,ite2 (fun _=>fin) (fun _=>hX _ _ ⟨⟨rfl,rfl⟩,?_⟩)⟩
  refine Nat.pos_of_ne_zero fun z=>h ?_
  rw[z]
  rfl
 rintro σ H' ⟨⟨rfl,rfl⟩,kl⟩
 obtain⟨i0,i1⟩:=mixF_in c 3803 (show (0:Int) < (kvs.length:Int) by omega)
 obtain⟨ix,hix⟩:∃ix:Nat,mixF c 3803 (kvs.length:Int)=(ix:Int):=⟨(mixF c 3803 (kvs.length:Int)).toNat,by omega⟩
 obtain⟨t,n,m,e1,hin,hT⟩:=hKn.at (i:=ix) (by omega)
 obtain⟨nl,m1,m5⟩:=ku.k _ hin
 dsimp only at nl m1 m5
 refine⟨_,rfl,_,rfl,_,rfl,KN,_,rfl,.inl hK,c,3803,_,rfl,by decide,by decide,by omega,KN,kvs,_,_,rfl,rfl,hK,(by rw[hix];exact atI_nat e1),t,_,rfl,hT,rfl,?_⟩
 refine⟨_,_,rfl,_,_,rfl,rfl,?_⟩
 dsimp only[gName]
 refine cut1 (fun σ H'=>σ=[some (.int c),some (.ref KN),some (.ref U),some (.str (S op)),some (.int wy),some (.str (S n)),some (.int (m:Int))]∧H=H') (fun X hX=>?_) ?_
 ·refine⟨_,rfl,rfl,_,rfl,ite2 (fun h=>?_) (fun h=>iteF (hX _ _ ⟨rfl,rfl⟩))⟩
  refine⟨_,rfl,U,_,rfl,.inl hU,_,_,rfl,rfl,_,rfl,ite2 (fun h2=>?_) (fun _=>hX _ _ ⟨rfl,rfl⟩)⟩
  cases us with
  |nil=>cases h2
  |cons u us=>
   have ul:=ku.u u (by simp)
   refine⟨_,rfl,U,_,0,.str (S u),rfl,rfl,hU,(show atI _ ((0:Nat):Int)=_ from atI_nat rfl),_,_,rfl,rfl,(by simp only[len2,S_len,l1,l4,l2a,l2b,l8,l8b,repW_len];(try simp only[List.length_cons,List.length_nil]);omega),_,_,rfl,rfl,(by simp only[len2,S_len,l1,l4,l2a,l2b,l8,l8b,repW_len];(try simp only[List.length_cons,List.length_nil]);omega),_,rfl,_,_,rfl,rfl,(by simp only[len2,S_len,l1,l4,l2a,l2b,l8,l8b,repW_len];(try simp only[List.length_cons,List.length_nil]);omega),_,rfl,[32,97],(m:Int),(by rw[show (" a":Str)=S [32,97] by decide +kernel]),rfl,by omega,by omega,by decide,by decide,_,_,rfl,rfl,(by simp only[len2,S_len,l1,l4,l2a,l2b,l8,l8b,repW_len];(try simp only[List.length_cons,List.length_nil]);omega),?_⟩
   rw[Int.toNat_natCast,putA]
   exact q _ H (Same.refl _) ⟨u,n,List.replicate m [97],rfl,(fun z=>by have:=congrArg List.length z;rw[List.length_replicate] at this;simp only[List.length_nil] at this;omega),by rw[List.length_replicate];omega,fun x hx=>.inl (List.mem_replicate.mp hx).2,.inr (.inr (by simp)),.inr (.inr ⟨m,hin⟩),.inr (.inr (.inl (by simp)))⟩
 rintro σ H' ⟨rfl,rfl⟩
 refine cut1 (fun σ H'=>σ=[some (.int c),some (.ref KN),some (.ref U),some (.str (S op)),some (.int wy),some (.str (S n)),some (.int (m:Int))]∧H=H') (fun X hX=>?_) ?_
 ·refine⟨_,rfl,rfl,_,rfl,ite2 (fun h=>?_) (fun h=>iteF (hX _ _ ⟨rfl,rfl⟩))⟩
  refine⟨_,rfl,_,_,rfl,rfl,_,rfl,ite2 (fun h2=>?_) (fun _=>hX _ _ ⟨rfl,rfl⟩)⟩
  have h2:(1:Int) < (m:Int):=of_decide_eq_true h2
  refine⟨_,rfl,_,_,rfl,rfl,(by simp only[len2,S_len,l1,l4,l2a,l2b,l8,l8b,repW_len];(try simp only[List.length_cons,List.length_nil]);omega),_,rfl,_,_,rfl,rfl,[32,97],(m:Int) - 1,(by rw[show (" a":Str)=S [32,97] by decide +kernel]),rfl,by omega,by omega,by decide,by decide,_,_,rfl,rfl,(by simp only[len2,S_len,l1,l4,l2a,l2b,l8,l8b,repW_len];(try simp only[List.length_cons,List.length_nil]);omega),?_⟩
  rw[putB,show ((m:Int) - 1).toNat=m - 1 by omega]
  exact q _ H (Same.refl _) ⟨wK,n,List.replicate (m - 1) [97],rfl,(fun z=>by have:=congrArg List.length z;rw[List.length_replicate] at this;simp only[List.length_nil] at this;omega),by rw[List.length_replicate];omega,fun x hx=>.inl (List.mem_replicate.mp hx).2,.inl rfl,.inr (.inr ⟨m,hin⟩),.inr (.inr (.inr (.inl ⟨m,hin,by rw[List.length_replicate];omega⟩)))⟩
 rintro σ H' ⟨rfl,rfl⟩
 refine cut1 (fun σ H'=>σ=[some (.int c),some (.ref KN),some (.ref U),some (.str (S op)),some (.int wy),some (.str (S n)),some (.int (m:Int))]∧H=H') (fun X hX=>?_) ?_
 ·refine⟨_,rfl,rfl,_,rfl,ite2 (fun h=>?_) (fun h=>hX _ _ ⟨rfl,rfl⟩)⟩
  refine⟨_,rfl,_,_,rfl,rfl,(by simp only[len2,S_len,l1,l4,l2a,l2b,l8,l8b,repW_len];(try simp only[List.length_cons,List.length_nil]);omega),_,rfl,[32,97],(m:Int),(by rw[show (" a":Str)=S [32,97] by decide +kernel]),rfl,by omega,by omega,by decide,by decide,_,_,rfl,rfl,(by simp only[len2,S_len,l1,l4,l2a,l2b,l8,l8b,repW_len];(try simp only[List.length_cons,List.length_nil]);omega),?_⟩
  rw[putC,Int.toNat_natCast]
  exact q _ H (Same.refl _) ⟨wB,n,List.replicate m [97],rfl,(fun z=>by have:=congrArg List.length z;rw[List.length_replicate] at this;simp only[List.length_nil] at this;omega),by rw[List.length_replicate];omega,fun x hx=>.inl (List.mem_replicate.mp hx).2,.inr (.inl rfl),.inr (.inr ⟨m,hin⟩),.inr (.inr (.inr (.inr rfl)))⟩
 rintro σ H' ⟨rfl,rfl⟩
 refine⟨_,rfl,_,_,rfl,rfl,(by simp only[len2,S_len,l1,l4,l2a,l2b,l8,l8b,repW_len];(try simp only[List.length_cons,List.length_nil]);omega),_,rfl,_,_,rfl,rfl,[32,98],(m:Int)+1,(by rw[show (" b":Str)=S [32,98] by decide +kernel]),rfl,by omega,by omega,by decide,by decide,_,_,rfl,rfl,(by simp only[len2,S_len,l1,l4,l2a,l2b,l8,l8b,repW_len];(try simp only[List.length_cons,List.length_nil]);omega),?_⟩
 rw[putB,show ((m:Int)+1).toNat=m+1 by omega]
 exact q _ H (Same.refl _) ⟨wK,n,List.replicate (m+1) [98],rfl,(fun z=>by cases z),by rw[List.length_replicate];omega,fun x hx=>.inr (List.mem_replicate.mp hx).2,.inl rfl,.inr (.inr ⟨m,hin⟩),.inr (.inr (.inr (.inl ⟨m,hin,by rw[List.length_replicate];omega⟩)))⟩
theorem op_bl (op:List Nat):(!decide (V.str (S op)=V.str ""))=decide (op≠[]):=by
 by_cases h:op=[]
 ·rw[h];decide +kernel
 ·have:¬V.str (S op)=V.str "":=fun z=>h (S_nil.mp (by injection z))
  rw[decide_eq_false this,decide_eq_true h]
  rfl
theorem op_eq0 {op:List Nat}(h:decide (V.str (S op)=V.str "")=true):op=[]:=S_nil.mp (by have:=of_decide_eq_true h;injection this)
theorem con_u {r:Int}(h0:0≤r)(h3:r < 3):∃ws,(ws,Ek.u)∈ConW∧atI [V.str "piece a b 2/4",V.str "hold a b +1",V.str "push a b "] r=some (.str (S (jnc 32 ws))):=by
 have:r=0∨r=1∨r=2:=by omega
 rcases this with rfl | rfl | rfl
 ·exact⟨[[112,105,101,99,101],[97],[98],[50,47,52]],by decide,by rw[show S (jnc 32 [[112,105,101,99,101],[97],[98],[50,47,52]]) = "piece a b 2/4" by decide +kernel];rfl⟩
 ·exact⟨[[104,111,108,100],[97],[98],[43,49]],by decide,by rw[show S (jnc 32 [[104,111,108,100],[97],[98],[43,49]]) = "hold a b +1" by decide +kernel];rfl⟩
 ·exact⟨[[112,117,115,104],[97],[98],[]],by decide,by rw[show S (jnc 32 [[112,117,115,104],[97],[98],[]]) = "push a b " by decide +kernel];rfl⟩
theorem con_m {r:Int}(h0:0≤r)(h3:r < 3):∃ws,(ws,Ek.m)∈ConW∧atI [V.str "piece A b 2/4",V.str "hold a b2 x",V.str "piece  b 0"] r=some (.str (S (jnc 32 ws))):=by
 have:r=0∨r=1∨r=2:=by omega
 rcases this with rfl | rfl | rfl
 ·exact⟨[[112,105,101,99,101],[65],[98],[50,47,52]],by decide,by rw[show S (jnc 32 [[112,105,101,99,101],[65],[98],[50,47,52]]) = "piece A b 2/4" by decide +kernel];rfl⟩
 ·exact⟨[[104,111,108,100],[97],[98,50],[120]],by decide,by rw[show S (jnc 32 [[104,111,108,100],[97],[98,50],[120]]) = "hold a b2 x" by decide +kernel];rfl⟩
 ·exact⟨[[112,105,101,99,101],[],[98],[48]],by decide,by rw[show S (jnc 32 [[112,105,101,99,101],[],[98],[48]]) = "piece  b 0" by decide +kernel];rfl⟩
theorem con_z {r:Int}(h0:0≤r)(h3:r < 3):∃ws,(ws,Ek.z)∈ConW∧atI [V.str "piece a b 0",V.str "piece a b -3",V.str "piece a a -1/7"] r=some (.str (S (jnc 32 ws))):=by
 have:r=0∨r=1∨r=2:=by omega
 rcases this with rfl | rfl | rfl
 ·exact⟨[[112,105,101,99,101],[97],[98],[48]],by decide,by rw[show S (jnc 32 [[112,105,101,99,101],[97],[98],[48]]) = "piece a b 0" by decide +kernel];rfl⟩
 ·exact⟨[[112,105,101,99,101],[97],[98],[45,51]],by decide,by rw[show S (jnc 32 [[112,105,101,99,101],[97],[98],[45,51]]) = "piece a b -3" by decide +kernel];rfl⟩
 ·exact⟨[[112,105,101,99,101],[97],[97],[45,49,47,55]],by decide,by rw[show S (jnc 32 [[112,105,101,99,101],[97],[97],[45,49,47,55]]) = "piece a a -1/7" by decide +kernel];rfl⟩
theorem part_at {r:Int}(h0:0≤r)(h3:r < 4)(more:List V):∃ws∈PartW,atI ([V.str "part kuw a a",V.str "part kuw a B",V.str "part kuwkuwkuw a",V.str "part kuw a b c a"]++more) r=some (.str (S (jnc 32 ws))):=by
 have:r=((0:Nat):Int)∨r=((1:Nat):Int)∨r=((2:Nat):Int)∨r=((3:Nat):Int):=by omega
 rcases this with rfl | rfl | rfl | rfl
 ·exact⟨[[112,97,114,116],[107,117,119],[97],[97]],by decide,by rw[show S (jnc 32 [[112,97,114,116],[107,117,119],[97],[97]]) = "part kuw a a" by decide +kernel];exact atI_nat rfl⟩
 ·exact⟨[[112,97,114,116],[107,117,119],[97],[66]],by decide,by rw[show S (jnc 32 [[112,97,114,116],[107,117,119],[97],[66]]) = "part kuw a B" by decide +kernel];exact atI_nat rfl⟩
 ·exact⟨[[112,97,114,116],[107,117,119,107,117,119,107,117,119],[97]],by decide,by rw[show S (jnc 32 [[112,97,114,116],[107,117,119,107,117,119,107,117,119],[97]]) = "part kuwkuwkuw a" by decide +kernel];exact atI_nat rfl⟩
 ·exact⟨[[112,97,114,116],[107,117,119],[97],[98],[99],[97]],by decide,by rw[show S (jnc 32 [[112,97,114,116],[107,117,119],[97],[98],[99],[97]]) = "part kuw a b c a" by decide +kernel];exact atI_nat rfl⟩
abbrev sBad:Stmt:=top 63
theorem scBad:FnScope ["_law_cell","_law_known","_law_used","_law_opened","_law_way","_law_some"] ["_law_cell","_law_known","_law_used","_law_opened"] (defScope sBad):=⟨rfl,rfl,rfl,by decide +kernel,rfl,by decide +kernel,by decide +kernel⟩
theorem ok_bad {dV:Value}(F:FunD K "_law_bad" "_law_bad" sBad dV f fd)(ml:mg "len"=none)(G1:FnOk P w K mg base CX0 1 g1 gd1 ["_law_cell","_law_prime","_law_many"] spMixF)(b1:Binds K gd1 ["_law_cell","_law_prime","_law_many"] [])(k1:PySem.W.keepIn K (.ref g1)=true)(m1:mg "_law_mix"=some (.ref g1))(G2:FnOk P w K mg base CX0 2 g2 gd2 ["_law_cell","_law_opened"] (spBadForm K))(b2:Binds K gd2 ["_law_cell","_law_opened"] [])(k2:PySem.W.keepIn K (.ref g2)=true)(m2:mg "_law_bad_form"=some (.ref g2))(G3:FnOk P w K mg base CX0 2 g3 gd3 ["_law_cell","_law_known","_law_used","_law_opened"] (spBadPut K))(b3:Binds K gd3 ["_law_cell","_law_known","_law_used","_law_opened"] [])(k3:PySem.W.keepIn K (.ref g3)=true)(m3:mg "_law_bad_put"=some (.ref g3)) :
  FnOk P w K mg base CX 3 f fd ["_law_cell","_law_known","_law_used","_law_opened"] (spBad K):=by
 refine F.ok scBad (fun vs H Q E h=>?_) (fun cdv A outer s H vs Q E hr h=>?_)
 ·obtain⟨c,KN,U,kvs,kn,us,op,rfl,hK,hKn,hU,ku,q⟩:=h
  rfl
 obtain⟨c,KN,U,kvs,kn,us,op,rfl,hK,hKn,hU,ku,q⟩:=h
 have hz:sizeLine=16777216:=sizeLine_eq
 have r1:=hr.mono (show 1≤2 by omega)
 refine⟨_,(pss_cons (ps_set (i:=4) scBad.nd rfl (Or.inl rfl) (pe_call G1 r1 rfl m1 k1 b1 .nil pass0 (pa_cons (pv 0) (pa_cons pe_int (pa_cons pe_int pa_nil)))))
  (pss_cons (ps_if (pt_cmpR op_lt (pv 4) pe_int (nomark _)) (pss_one (ps_ret (pe_tup (pa_cons (pe_call G2 hr rfl m2 k2 b2 .nil pass0 (pa_cons (pv 0) (pa_cons (pe_cmpR op_ne (pv 3) pe_str (nomark _)) pa_nil))) (pa_cons pe_str pa_nil))))) pss_nil)
  (pss_cons (ps_if (pt_cmpR op_lt (pv 4) pe_int (nomark _)) (pss_one (ps_ret (pe_tup (pa_cons (pe_call G3 hr rfl m3 k3 b3 .nil pass0 (pa_cons (pv 0) (pa_cons (pv 1) (pa_cons (pv 2) (pa_cons (pv 3) pa_nil))))) (pa_cons pe_str pa_nil))))) pss_nil)
  (pss_cons (ps_if (PW.pt (pw_and (pt_cmpR op_eq (pv 4) pe_int (nomark _)) (pw_and1 (pt_cmpR op_eq (pv 3) pe_str (nomark _))))) (pss_cons (ps_set (i:=5) scBad.nd rfl (Or.inl rfl) (pe_lst (pa_cons pe_str (pa_cons pe_str (pa_cons pe_str (pa_cons pe_str pa_nil))))))
  (pss_cons (ps_if (pt_cmpR op_gt (pe_callB call_len_seq rfl ml PySem.boot_len (pa_cons (pv 1) pa_nil)) pe_int (nomark _)) (pss_one (ps_expr (pe_bm PySem.F.plainAttrs_list PySem.F.slot_list_append PySem.F.type_list_append mt_append (pv 5) (pa_cons (pe_op op_add_str (pe_op op_add_str pe_str (pe_ix ix_tup (pe_ix ix_list (pv 1) pe_int (fun _ _=>rfl)) pe_int (fun _ _=>rfl))) pe_str) pa_nil)))) pss_nil)
  (pss_one (ps_ret (pe_tup (pa_cons (pe_ix ix_list (pv 5) (pe_call G1 r1 rfl m1 k1 b1 .nil pass0 (pa_cons (pv 0) (pa_cons pe_int (pa_cons (pe_callB call_len_seq rfl ml PySem.boot_len (pa_cons (pv 5) pa_nil)) pa_nil)))) (fun _ _=>rfl)) (pa_cons pe_str pa_nil))))))) pss_nil)
  (pss_cons (ps_if (pt_cmpR op_lt (pv 4) pe_int (nomark _)) (pss_one (ps_ret (pe_tup (pa_cons (pe_ix ix_list (pe_lst (pa_cons pe_str (pa_cons pe_str (pa_cons pe_str pa_nil)))) (pe_call G1 r1 rfl m1 k1 b1 .nil pass0 (pa_cons (pv 0) (pa_cons pe_int (pa_cons pe_int pa_nil)))) (fun _ _=>rfl)) (pa_cons pe_str pa_nil))))) pss_nil)
  (pss_cons (ps_if (pt_cmpR op_eq (pv 4) pe_int (nomark _)) (pss_one (ps_ret (pe_tup (pa_cons (pe_ix ix_list (pe_lst (pa_cons pe_str (pa_cons pe_str (pa_cons pe_str pa_nil)))) (pe_call G1 r1 rfl m1 k1 b1 .nil pass0 (pa_cons (pv 0) (pa_cons pe_int (pa_cons pe_int pa_nil)))) (fun _ _=>rfl)) (pa_cons pe_str pa_nil))))) pss_nil)
  (pss_one (ps_ret (pe_tup (pa_cons (pe_ix ix_list (pe_lst (pa_cons pe_str (pa_cons pe_str (pa_cons pe_str pa_nil)))) (pe_call G1 r1 rfl m1 k1 b1 .nil pass0 (pa_cons (pv 0) (pa_cons pe_int (pa_cons pe_int pa_nil)))) (fun _ _=>rfl)) (pa_cons pe_str pa_nil))))))))))),?_⟩
 obtain⟨w0,w9⟩:=mixF_in c 3821 (show (0:Int) < 9 by decide)
 refine⟨_,rfl,c,3821,9,rfl,by decide,by decide,by decide,?_⟩
 generalize mixF c 3821 9=wy at w0 w9 ⊢
 dsimp only[gName]
 refine cut1 (fun σ H'=>σ=[some (.int c),some (.ref KN),some (.ref U),some (.str (S op)),some (.int wy),none]∧H=H') (fun X hX=>?_) ?_
 ·refine⟨_,rfl,_,_,rfl,rfl,_,rfl,ite2 (fun h=>?_) (fun h=>hX _ _ ⟨rfl,rfl⟩)⟩
  refine⟨_,rfl,_,rfl,rfl,c,_,rfl,fun ws H1 s1 fo=>?_⟩
  rw[op_bl] at fo
  refine⟨by show 2≤sizeLine;decide,fun T hT=>?_⟩
  exact q T ws .r _ (s1.trans (same_new hT _)) upd_same (.inl ⟨rfl,fo⟩)
 rintro σ H' ⟨rfl,rfl⟩
 refine cut1 (fun σ H'=>σ=[some (.int c),some (.ref KN),some (.ref U),some (.str (S op)),some (.int wy),none]∧H=H') (fun X hX=>?_) ?_
 ·refine⟨_,rfl,_,_,rfl,rfl,_,rfl,ite2 (fun h=>?_) (fun h=>hX _ _ ⟨rfl,rfl⟩)⟩
  refine⟨_,rfl,_,rfl,_,rfl,_,rfl,c,KN,U,kvs,kn,us,op,rfl,hK,hKn,hU,ku,fun ws H1 s1 po=>?_⟩
  refine⟨by show 2≤sizeLine;decide,fun T hT=>?_⟩
  exact q T ws .m _ (s1.trans (same_new hT _)) upd_same (.inr (.inl ⟨rfl,po⟩))
 rintro σ H' ⟨rfl,rfl⟩
 refine cut1 (fun σ H'=>σ=[some (.int c),some (.ref KN),some (.ref U),some (.str (S op)),some (.int wy),none]∧H=H') (fun X hX=>?_) ?_
 ·refine⟨_,rfl,rfl,_,rfl,ite2 (fun h=>?_) (fun h=>iteF (hX _ _ ⟨rfl,rfl⟩))⟩
  refine⟨_,rfl,rfl,_,rfl,ite2 (fun h2=>?_) (fun h=>hX _ _ ⟨rfl,rfl⟩)⟩
  have op0:=op_eq0 h2
  refine⟨by show 4≤sizeLine;decide,fun L hL=>?_⟩
  have s1:=same_new hL (.lst [V.str "part kuw a a",V.str "part kuw a B",V.str "part kuwkuwkuw a",V.str "part kuw a b c a"])
  have e1:upd H L (.lst [V.str "part kuw a a",V.str "part kuw a B",V.str "part kuwkuwkuw a",V.str "part kuw a b c a"]) L=some (.lst [V.str "part kuw a a",V.str "part kuw a B",V.str "part kuwkuwkuw a",V.str "part kuw a b c a"]):=upd_same
  generalize upd H L (.lst [V.str "part kuw a a",V.str "part kuw a B",V.str "part kuwkuwkuw a",V.str "part kuw a b c a"])=H1 at s1 e1 ⊢
  dsimp only[gName]
  refine cut1 (fun σ H'=>∃more:List V,σ=[some (.int c),some (.ref KN),some (.ref U),some (.str (S op)),some (.int wy),some (.ref L)]∧Same H H'∧H' L=some (.lst ([V.str "part kuw a a",V.str "part kuw a B",V.str "part kuwkuwkuw a",V.str "part kuw a b c a"]++more))∧(more=[]∨∃n q,(n,q)∈kn∧more=[V.str (S (jnc 32 [[112,97,114,116],n,[97]]))])) (fun X hX=>?_) ?_
  ·refine⟨_,rfl,KN,_,rfl,.inl (s1.seq hK),_,_,rfl,rfl,_,rfl,ite2 (fun h=>?_) (fun h=>hX _ _ ⟨[],rfl,s1,by rw[List.append_nil];exact e1,.inl rfl⟩)⟩
   have kl:0 < kvs.length:=by
    have:=of_decide_eq_true h
    omega
   obtain⟨t,n,m,k1',hin,hT⟩:=hKn.at (i:=0) kl
   have nl:=(ku.k _ hin).1
   dsimp only at nl
   have a0:atI kvs 0=some (.ref t):=show atI kvs ((0:Nat):Int)=_ from atI_nat k1'
   have l5:("part ":Str).length=5:=by decide +kernel
   have l2:(" a":Str).length=2:=by decide +kernel
   refine⟨_,rfl,.inl ⟨rfl,_,SqL.of e1⟩,_,rfl,KN,_,0,_,rfl,rfl,s1.seq hK,a0,t,_,0,_,rfl,rfl,s1.seqT hT,rfl,_,_,rfl,rfl,(by simp only[len2,S_len,l5,l2];omega),_,_,rfl,rfl,(by simp only[len2,S_len,l5,l2];omega),L,_,_,rfl,rfl,e1,small1000 (by simp),?_⟩
   rw[partD]
   exact hX _ _ ⟨[_],rfl,s1.change hL,upd_same,.inr ⟨n,m,hin,rfl⟩⟩
  rintro σ H2 ⟨more,rfl,s2,e2,hm⟩
  have ml:more.length≤1:=by
   rcases hm with rfl | ⟨n,q,_,rfl⟩
   ·decide
   ·simp
  have lm:([V.str "part kuw a a",V.str "part kuw a B",V.str "part kuwkuwkuw a",V.str "part kuw a b c a"]++more).length=4+more.length:=by rw[List.length_append];rfl
  obtain⟨r0,r3⟩:=mixF_in c 3823 (show (0:Int) < (([V.str "part kuw a a",V.str "part kuw a B",V.str "part kuwkuwkuw a",V.str "part kuw a b c a"]++more).length:Int) by omega)
  obtain⟨ws,hws,eA⟩:∃ws,(ws∈PartW∨∃n q,(n,q)∈kn∧ws=[[112,97,114,116],n,[97]])∧atI ([V.str "part kuw a a",V.str "part kuw a B",V.str "part kuwkuwkuw a",V.str "part kuw a b c a"]++more) (mixF c 3823 (([V.str "part kuw a a",V.str "part kuw a B",V.str "part kuwkuwkuw a",V.str "part kuw a b c a"]++more).length:Int))=some (.str (S (jnc 32 ws))):=by
   by_cases h4:mixF c 3823 (([V.str "part kuw a a",V.str "part kuw a B",V.str "part kuwkuwkuw a",V.str "part kuw a b c a"]++more).length:Int) < 4
   ·obtain⟨ws,a,b⟩:=part_at r0 h4 more
    exact⟨ws,.inl a,b⟩
   ·rcases hm with rfl | ⟨n,q,hin,rfl⟩
    ·exfalso
     simp only[List.length_nil] at lm
     omega
    ·have l5:(([V.str "part kuw a a",V.str "part kuw a B",V.str "part kuwkuwkuw a",V.str "part kuw a b c a"]++[V.str (S (jnc 32 [[112,97,114,116],n,[97]]))]).length:Int)=5:=rfl
     rw[l5] at r3 h4 ⊢
     rw[show mixF c 3823 5=((4:Nat):Int) by omega]
     exact⟨_,.inr ⟨n,q,hin,rfl⟩,atI_nat rfl⟩
  refine⟨_,rfl,_,rfl,_,rfl,L,_,rfl,.inl (SqL.of e2),c,3823,_,rfl,by decide,by decide,by omega,L,_,_,_,rfl,rfl,SqL.of e2,eA,by show 2≤sizeLine;decide,fun T hT=>?_⟩
  exact q T ws .m _ (s2.trans (same_new hT _)) upd_same (.inr (.inr (.inl ⟨rfl,op0,hws⟩)))
 rintro σ H' ⟨rfl,rfl⟩
 refine cut1 (fun σ H'=>σ=[some (.int c),some (.ref KN),some (.ref U),some (.str (S op)),some (.int wy),none]∧H=H') (fun X hX=>?_) ?_
 ·refine⟨_,rfl,_,_,rfl,rfl,_,rfl,ite2 (fun h=>?_) (fun h=>hX _ _ ⟨rfl,rfl⟩)⟩
  refine⟨by show 3≤sizeLine;decide,fun L hL=>?_⟩
  have s1:=same_new hL (.lst [V.str "piece a b 2/4",V.str "hold a b +1",V.str "push a b "])
  have e1:upd H L (.lst [V.str "piece a b 2/4",V.str "hold a b +1",V.str "push a b "]) L=some (.lst [V.str "piece a b 2/4",V.str "hold a b +1",V.str "push a b "]):=upd_same
  generalize upd H L (.lst [V.str "piece a b 2/4",V.str "hold a b +1",V.str "push a b "])=H1 at s1 e1 ⊢
  obtain⟨r0,r3⟩:=mixF_in c 3833 (show (0:Int) < 3 by decide)
  obtain⟨ws,hws,eA⟩:=con_u r0 r3
  refine⟨_,rfl,c,3833,3,rfl,by decide,by decide,by decide,L,_,_,_,rfl,rfl,SqL.of e1,eA,by show 2≤sizeLine;decide,fun T hT=>?_⟩
  exact q T ws .u _ (s1.trans (same_new hT _)) upd_same (.inr (.inr (.inr hws)))
 rintro σ H' ⟨rfl,rfl⟩
 refine cut1 (fun σ H'=>σ=[some (.int c),some (.ref KN),some (.ref U),some (.str (S op)),some (.int wy),none]∧H=H') (fun X hX=>?_) ?_
 ·refine⟨_,rfl,rfl,_,rfl,ite2 (fun h=>?_) (fun h=>hX _ _ ⟨rfl,rfl⟩)⟩
  refine⟨by show 3≤sizeLine;decide,fun L hL=>?_⟩
  have s1:=same_new hL (.lst [V.str "piece A b 2/4",V.str "hold a b2 x",V.str "piece  b 0"])
  have e1:upd H L (.lst [V.str "piece A b 2/4",V.str "hold a b2 x",V.str "piece  b 0"]) L=some (.lst [V.str "piece A b 2/4",V.str "hold a b2 x",V.str "piece  b 0"]):=upd_same
  generalize upd H L (.lst [V.str "piece A b 2/4",V.str "hold a b2 x",V.str "piece  b 0"])=H1 at s1 e1 ⊢
  obtain⟨r0,r3⟩:=mixF_in c 3833 (show (0:Int) < 3 by decide)
  obtain⟨ws,hws,eA⟩:=con_m r0 r3
  refine⟨_,rfl,c,3833,3,rfl,by decide,by decide,by decide,L,_,_,_,rfl,rfl,SqL.of e1,eA,by show 2≤sizeLine;decide,fun T hT=>?_⟩
  exact q T ws .m _ (s1.trans (same_new hT _)) upd_same (.inr (.inr (.inr hws)))
 rintro σ H' ⟨rfl,rfl⟩
 refine⟨by show 3≤sizeLine;decide,fun L hL=>?_⟩
 have s1:=same_new hL (.lst [V.str "piece a b 0",V.str "piece a b -3",V.str "piece a a -1/7"])
 have e1:upd H L (.lst [V.str "piece a b 0",V.str "piece a b -3",V.str "piece a a -1/7"]) L=some (.lst [V.str "piece a b 0",V.str "piece a b -3",V.str "piece a a -1/7"]):=upd_same
 generalize upd H L (.lst [V.str "piece a b 0",V.str "piece a b -3",V.str "piece a a -1/7"])=H1 at s1 e1 ⊢
 obtain⟨r0,r3⟩:=mixF_in c 3833 (show (0:Int) < 3 by decide)
 obtain⟨ws,hws,eA⟩:=con_z r0 r3
 refine⟨_,rfl,c,3833,3,rfl,by decide,by decide,by decide,L,_,_,_,rfl,rfl,SqL.of e1,eA,by show 2≤sizeLine;decide,fun T hT=>?_⟩
 exact q T ws .z _ (s1.trans (same_new hT _)) upd_same (.inr (.inr (.inr hws)))
theorem call_isiE {X:Cx}:CallR X (.builtin "isinstance") (fun xs H Q=>(∃a C c cv b,xs=[.ref a,c]∧H a=some (excO a (.ref C) none)∧ExcK X.K C∧RelV c cv∧(∀u,RelV c u→u=cv)∧PySem.W.kitOne X.K (.ref C) cv=some b∧Q (.bl b) H)∨(∃x C t b,xs=[x,.ref C]∧TyQ X.K H x t∧PySem.W.kitOne X.K t (.ref C)=some b∧Q (.bl b) H)):=by
 intro pins s σ H xs us Q I r h
 rcases h with h | h
 ·exact call_isiX pins s σ H xs us Q I r h
 ·exact call_isiO pins s σ H xs us Q I r h
def spTold (CY CP CT:Addr)(cl:Ek→Addr)(K:PySem.W.Frag):Sp:=fun vs H Q _=>∃(av:List Addr) (y d:Addr) (Y:YS) (ws:List (List Nat)) (c:Nat),vs=[.ref y,.str (S (jnc 32 ws))]∧YG CY CP K av H y d Y∧WfY c Y∧c≤60∧TxOk ws∧((∃Y',tV Y ws=.ok Y'∧∀H',SYd y d H H'→YG CY CP K av H' y d Y'→Q (.str "") H')∨(∃e:Ek,tV Y ws=.error e.er∧∀H',Same H H'→Q (.str e.wd) H'))
theorem erx (cl:Ek→Addr)(CT:Addr)(e:Ek):ErX (cl .r) (cl .m) (cl .u) (cl .z) CT e.er=cl e:=by cases e<;>rfl
abbrev sTold:Stmt:=top 64
theorem scTold:FnScope ["_law_yard","_law_row_here","_law_kept","e"] ["_law_yard","_law_row_here"] (defScope sTold):=⟨rfl,rfl,rfl,by decide +kernel,rfl,by decide +kernel,by decide +kernel⟩
theorem ok_told {dV:Value}(F:FunD K "_law_told" "_law_told" sTold dV f fd){CY CP CT:Addr}{cl:Ek→Addr}(YTx:YaT K mg CY)(b:Bl mg)(c:ErrC K mg cl){gTe:Addr}{gdTe:FuncData}(GTe:FnOk P w K mg base (CX1 P w) 7 gTe gdTe ["self","row"] (spTellG CY CP (cl .r) (cl .m) (cl .u) (cl .z) CT K))(bTe:Binds K gdTe ["self","row"] [])(mTe:Meth K CY "tell" gTe) :
  FnOk P w K mg base CX 8 f fd ["_law_yard","_law_row_here"] (spTold CY CP CT cl K):=by
 refine F.ok scTold (fun vs H Q E h=>?_) (fun cdv A outer s H vs Q E hr h=>?_)
 ·obtain⟨av,y,d,Y,ws,wc,rfl,Gy,Wf,wc60,tx,h⟩:=h
  rfl
 obtain⟨av,y,d,Y,ws,wc,rfl,Gy,Wf,wc60,tx,h⟩:=h
 obtain⟨CO,mO,oe⟩:=c.oe
 obtain⟨dy,g,o,qq,kvs,hy,_⟩:=id Gy
 refine⟨_,(pss_cons (ps_set (i:=2) scTold.nd rfl (Or.inl rfl) pe_non) (pss_cons (ps_try ⟨rfl,rfl,rfl⟩ (psxs_one (psx_expr (px_meth (pv 0) YTx.cl mTe GTe ⟨rfl,rfl,rfl⟩ hr bTe .nil (pa_cons (pv 1) pa_nil)))) pss_nil (ph_as (j:=3) ⟨rfl,rfl,rfl⟩ scTold.nd rfl rfl rfl (.inl mO) (fun a=>pss_one (ps_set (i:=2) scTold.nd rfl (Or.inl rfl) (pv 3))) ph_never)) (pss_cons (ps_if (PW.pt (pw_and (pt_val (pe_callB call_isiE rfl b.isi PyProof.Rows.boot_isinstance (pa_cons (pv 2) (pa_cons (pe_cls rfl c.mr) pa_nil)))) (pw_and1 (pt_not (pt_val (pe_callB call_isiXT rfl b.isi PyProof.Rows.boot_isinstance (pa_cons (pv 2) (pa_cons (pe_tup (pa_cons (pe_cls rfl c.mm) (pa_cons (pe_cls rfl c.mu) (pa_cons (pe_cls rfl c.mz) pa_nil)))) pa_nil)))))))) (pss_one (ps_ret pe_str)) pss_nil) (pss_cons (ps_if (PW.pt (pw_and (pt_val (pe_callB call_isiE rfl b.isi PyProof.Rows.boot_isinstance (pa_cons (pv 2) (pa_cons (pe_cls rfl c.mm) pa_nil)))) (pw_and1 (pt_not (pt_val (pe_callB call_isiXT rfl b.isi PyProof.Rows.boot_isinstance (pa_cons (pv 2) (pa_cons (pe_tup (pa_cons (pe_cls rfl c.mr) (pa_cons (pe_cls rfl c.mu) (pa_cons (pe_cls rfl c.mz) pa_nil)))) pa_nil)))))))) (pss_one (ps_ret pe_str)) pss_nil) (pss_cons (ps_if (PW.pt (pw_and (pt_val (pe_callB call_isiE rfl b.isi PyProof.Rows.boot_isinstance (pa_cons (pv 2) (pa_cons (pe_cls rfl c.mu) pa_nil)))) (pw_and1 (pt_not (pt_val (pe_callB call_isiXT rfl b.isi PyProof.Rows.boot_isinstance (pa_cons (pv 2) (pa_cons (pe_tup (pa_cons (pe_cls rfl c.mr) (pa_cons (pe_cls rfl c.mm) (pa_cons (pe_cls rfl c.mz) pa_nil)))) pa_nil)))))))) (pss_one (ps_ret pe_str)) pss_nil) (pss_cons (ps_if (PW.pt (pw_and (pt_val (pe_callB call_isiE rfl b.isi PyProof.Rows.boot_isinstance (pa_cons (pv 2) (pa_cons (pe_cls rfl c.mz) pa_nil)))) (pw_and1 (pt_not (pt_val (pe_callB call_isiXT rfl b.isi PyProof.Rows.boot_isinstance (pa_cons (pv 2) (pa_cons (pe_tup (pa_cons (pe_cls rfl c.mr) (pa_cons (pe_cls rfl c.mm) (pa_cons (pe_cls rfl c.mu) pa_nil)))) pa_nil)))))))) (pss_one (ps_ret pe_str)) pss_nil) (pss_cons (ps_if (pt_cmp (pc_isN (pv 2))) (pss_one (ps_ret pe_str)) pss_nil) (pss_one (ps_ret pe_str))))))))),?_⟩
 refine⟨_,rfl,y,dy,_,rfl,hy,(by with_unfolding_all rfl),_,rfl,?_⟩
 dsimp only[tNil]
 refine⟨y,_,rfl,.inr ⟨av,d,Y,ws,rfl,tx.s32,tx.ln,tx.jl,Nat.le_trans tx.wl (by omega),Gy,SmY.of Wf (by omega),tell_of Wf tx.ne tx.wl tx.bd ?_⟩⟩
 rcases h with ⟨Y',ev,q1⟩ | ⟨e,ev,q1⟩
 ·rw[ev]
  intro H1 sd G1
  refine⟨_,rfl,.inr ⟨.non,cl .r,_,false,rfl,.of .non,c.n .r,_,rfl,iteF ?_⟩⟩
  refine⟨_,rfl,.inr ⟨.non,cl .m,_,false,rfl,.of .non,c.n .m,_,rfl,iteF ?_⟩⟩
  refine⟨_,rfl,.inr ⟨.non,cl .u,_,false,rfl,.of .non,c.n .u,_,rfl,iteF ?_⟩⟩
  refine⟨_,rfl,.inr ⟨.non,cl .z,_,false,rfl,.of .non,c.n .z,_,rfl,iteF ?_⟩⟩
  refine⟨_,rfl,_,rfl,iteT ?_⟩
  exact q1 _ sd G1
 ·rw[ev]
  intro H1 s1
  rw[erx]
  have q1:∀H',Same H1 H'→Q (.str e.wd) H':=fun H' s'=>q1 H' (s1.trans s')
  intro a ha
  cases e
  ·refine⟨true,oe .r,?_⟩
   rw[if_pos rfl]
   refine⟨_,rfl,?_⟩
   have sa:=same_new ha (excO a (.ref (cl .r)) none)
   have ea:upd H1 a (excO a (.ref (cl .r)) none) a=some (excO a (.ref (cl .r)) none):=upd_same
   generalize upd H1 a (excO a (.ref (cl .r)) none)=H2 at sa ea ⊢
   refine⟨_,rfl,.inl ⟨a,cl .r,_,_,true,rfl,ea,c.x .r,rfl,fun _ h=>h,kit_self K _,_,rfl,iteT ⟨_,rfl,by show 3≤sizeLine;decide,fun p2 hp2=>?_⟩⟩⟩
   have s2:=same_new hp2 (.tup [.ref (cl .m),.ref (cl .u),.ref (cl .z)])
   refine⟨a,cl .r,p2,[cl .m,cl .u,cl .z],false,rfl,s2 _ _ ea,c.x .r,upd_same,c.a .r,_,rfl,iteT ?_⟩
   exact q1 _ (sa.trans s2)
  ·refine⟨true,oe .m,?_⟩
   rw[if_pos rfl]
   refine⟨_,rfl,?_⟩
   have sa:=same_new ha (excO a (.ref (cl .m)) none)
   have ea:upd H1 a (excO a (.ref (cl .m)) none) a=some (excO a (.ref (cl .m)) none):=upd_same
   generalize upd H1 a (excO a (.ref (cl .m)) none)=H2 at sa ea ⊢
   refine⟨_,rfl,.inl ⟨a,cl .m,_,_,false,rfl,ea,c.x .m,rfl,fun _ h=>h,c.k .m .r (by decide),_,rfl,iteF ?_⟩⟩
   refine⟨_,rfl,.inl ⟨a,cl .m,_,_,true,rfl,ea,c.x .m,rfl,fun _ h=>h,kit_self K _,_,rfl,iteT ⟨_,rfl,by show 3≤sizeLine;decide,fun p2 hp2=>?_⟩⟩⟩
   have s2:=same_new hp2 (.tup [.ref (cl .r),.ref (cl .u),.ref (cl .z)])
   refine⟨a,cl .m,p2,[cl .r,cl .u,cl .z],false,rfl,s2 _ _ ea,c.x .m,upd_same,c.a .m,_,rfl,iteT ?_⟩
   exact q1 _ (sa.trans s2)
  ·refine⟨true,oe .u,?_⟩
   rw[if_pos rfl]
   refine⟨_,rfl,?_⟩
   have sa:=same_new ha (excO a (.ref (cl .u)) none)
   have ea:upd H1 a (excO a (.ref (cl .u)) none) a=some (excO a (.ref (cl .u)) none):=upd_same
   generalize upd H1 a (excO a (.ref (cl .u)) none)=H2 at sa ea ⊢
   refine⟨_,rfl,.inl ⟨a,cl .u,_,_,false,rfl,ea,c.x .u,rfl,fun _ h=>h,c.k .u .r (by decide),_,rfl,iteF ?_⟩⟩
   refine⟨_,rfl,.inl ⟨a,cl .u,_,_,false,rfl,ea,c.x .u,rfl,fun _ h=>h,c.k .u .m (by decide),_,rfl,iteF ?_⟩⟩
   refine⟨_,rfl,.inl ⟨a,cl .u,_,_,true,rfl,ea,c.x .u,rfl,fun _ h=>h,kit_self K _,_,rfl,iteT ⟨_,rfl,by show 3≤sizeLine;decide,fun p2 hp2=>?_⟩⟩⟩
   have s2:=same_new hp2 (.tup [.ref (cl .r),.ref (cl .m),.ref (cl .z)])
   refine⟨a,cl .u,p2,[cl .r,cl .m,cl .z],false,rfl,s2 _ _ ea,c.x .u,upd_same,c.a .u,_,rfl,iteT ?_⟩
   exact q1 _ (sa.trans s2)
  ·refine⟨true,oe .z,?_⟩
   rw[if_pos rfl]
   refine⟨_,rfl,?_⟩
   have sa:=same_new ha (excO a (.ref (cl .z)) none)
   have ea:upd H1 a (excO a (.ref (cl .z)) none) a=some (excO a (.ref (cl .z)) none):=upd_same
   generalize upd H1 a (excO a (.ref (cl .z)) none)=H2 at sa ea ⊢
   refine⟨_,rfl,.inl ⟨a,cl .z,_,_,false,rfl,ea,c.x .z,rfl,fun _ h=>h,c.k .z .r (by decide),_,rfl,iteF ?_⟩⟩
   refine⟨_,rfl,.inl ⟨a,cl .z,_,_,false,rfl,ea,c.x .z,rfl,fun _ h=>h,c.k .z .m (by decide),_,rfl,iteF ?_⟩⟩
   refine⟨_,rfl,.inl ⟨a,cl .z,_,_,false,rfl,ea,c.x .z,rfl,fun _ h=>h,c.k .z .u (by decide),_,rfl,iteF ?_⟩⟩
   refine⟨_,rfl,.inl ⟨a,cl .z,_,_,true,rfl,ea,c.x .z,rfl,fun _ h=>h,kit_self K _,_,rfl,iteT ⟨_,rfl,by show 3≤sizeLine;decide,fun p2 hp2=>?_⟩⟩⟩
   have s2:=same_new hp2 (.tup [.ref (cl .r),.ref (cl .m),.ref (cl .u)])
   refine⟨a,cl .z,p2,[cl .r,cl .m,cl .u],false,rfl,s2 _ _ ea,c.x .z,upd_same,c.a .z,_,rfl,iteT ?_⟩
   exact q1 _ (sa.trans s2)
theorem fV_split:∀{A B:List (List (List Nat))} {Y Y2:YS},fV Y (A++B)=.ok Y2→∃Y1,fV Y A=.ok Y1∧fV Y1 B=.ok Y2
 | [],B,Y,Y2,h=>⟨Y,rfl,h⟩
 |a :: A,B,Y,Y2,h=>by
  obtain⟨Y3,h3,h4⟩:=fV_cons (show fV Y (a :: (A++B))=.ok Y2 from h)
  obtain⟨Y1,h5,h6⟩:=fV_split h4
  exact⟨Y1,(fV_step h3).trans h5,h6⟩
theorem YG.av {CY CP:Addr}{K:PySem.W.Frag}{av:List Addr}{H:Hp}{y d r:Addr}{Y:YS}{us us':List V}(hr:H r=some (.lst us))(hin:r∈av)(h:YG CY CP K av H y d Y):YG CY CP K av (upd H r (.lst us')) y d Y:=by
 obtain⟨dy,g,o,q,kvs,hy,hg,hd,hp,ho,ha⟩:=h
 have far:∀b o,H b=some o→b≠r→upd H r (.lst us') b=some o:=fun b o h n=>by rw[upd_ne n];exact h
 have m:∀g P,PlOk CP K av H g P→PlOk CP K av (upd H r (.lst us')) g P:=fun g P h=>by
  obtain⟨l,t,p,es,⟨⟨dg,hg⟩,hl,ht,hp,n1,n2,n3⟩,hR,x1,x2,x3⟩:=h
  exact⟨l,t,p,es,⟨⟨dg,far _ _ hg (ne_of hg hr (fun z=>by cases z))⟩,far _ _ hl (fun z=>x1 (z ▸ hin)),far _ _ ht (fun z=>x2 (z ▸ hin)),far _ _ hp (fun z=>x3 (z ▸ hin)),n1,n2,n3⟩,Rts.upd hr hR,x1,x2,x3⟩
 refine⟨dy,g,o,q,kvs,far _ _ hy (ne_of hy hr (fun z=>by cases z)),m _ _ hg,far _ _ hd (ne_of hd hr (fun z=>by cases z)),hp.imp m,ho.imp m,fun a hin z=>?_⟩
 by_cases h:a=r
 ·rw[h,upd_same] at z;cases z
 ·rw[upd_ne h] at z;exact ha a hin z
theorem PlOk.more {CP:Addr}{av:List Addr}{H:Hp}{g p:Addr}{P:PD}(hp:H p=none)(h:PlOk CP K av H g P):PlOk CP K (p :: av) H g P:=by
 obtain⟨l,t,q,es,PA,hR,x1,x2,x3⟩:=h
 have f:∀{a:Addr} {xs:List V},H a=some (.lst xs)→a∉av→a∉p :: av:=fun h n z=>by
  rcases List.mem_cons.mp z with z | z
  ·rw[z,hp] at h;cases h
  ·exact n z
 exact⟨l,t,q,es,PA,hR,f PA.hl x1,f PA.ht x2,f PA.hp x3⟩
theorem YG.more {CY CP:Addr}{av:List Addr}{H:Hp}{y d p:Addr}{Y:YS}{o:HO}(hp:H p=none)(h:YG CY CP K av H y d Y):YG CY CP K (p :: av) (upd H p o) y d Y:=by
 obtain⟨dy,g,o',q,kvs,hy,hg,hd,hpa,ho,ha⟩:=h
 have s:=same_new hp o
 have m:∀g P,PlOk CP K av H g P→PlOk CP K (p :: av) (upd H p o) g P:=fun g P h=>(h.more hp).same s
 have im:∀{kvs:List (Key × V)} {pa:List (Str × PD)},PaOk CP K av H kvs pa→PaOk CP K (p :: av) (upd H p o) kvs pa:=by
  intro kvs pa
  induction kvs generalizing pa with
  |nil=>cases pa with
   |nil=>exact fun h=>h
   |cons _ _=>exact fun h=>h
  |cons kv kvs ih=>cases pa with
   |nil=>exact fun h=>h
   |cons nP pa=>exact fun ⟨a,⟨g,e,p'⟩,c⟩=>⟨a,⟨g,e,m _ _ p'⟩,ih c⟩
 have io:∀{x:Option (Str × PD)},OpOk CP K av H o' q x→OpOk CP K (p :: av) (upd H p o) o' q x:=by
  intro x
  cases x with
  |none=>exact fun h=>h
  |some _=>exact fun ⟨a,g,e,p'⟩=>⟨a,g,e,m _ _ p'⟩
 refine⟨dy,g,o',q,kvs,s _ _ hy,m _ _ hg,s _ _ hd,im hpa,io ho,fun a hin z=>?_⟩
 rcases List.mem_cons.mp hin with e | e
 ·rw[e,upd_same] at z;cases z
 ·cases e':H a with
  |none=>exact ha a e e'
  |some o''=>rw[s _ _ e'] at z;cases z
theorem syd_sqt {CY CP:Addr}{av:List Addr}{H H':Hp}{y d a:Addr}{Y:YS}{xs:List V}(G:YG CY CP K av H y d Y)(s:SYd y d H H')(h:SqT K H a xs):SqT K H' a xs:=by
 obtain⟨dy,g,o,q,kvs,hy,_,hd,_⟩:=G
 rcases h with (h | ⟨u,h⟩) | h
 ·exact .inl (.inl (s _ _ h (ne_of h hy (fun z=>by cases z)) (ne_of h hd (fun z=>by cases z))))
 ·exact .inl (.inr ⟨u,s _ _ h (ne_of h hy (fun z=>by cases z)) (ne_of h hd (fun z=>by cases z))⟩)
 ·exact .inr h
theorem syd_lst {CY CP:Addr}{av:List Addr}{H H':Hp}{y d a:Addr}{Y:YS}{xs:List V}(G:YG CY CP K av H y d Y)(s:SYd y d H H')(h:H a=some (.lst xs)):H' a=some (.lst xs):=by
 obtain⟨dy,g,o,q,kvs,hy,_,hd,_⟩:=G
 exact s _ _ h (ne_of h hy (fun z=>by cases z)) (ne_of h hd (fun z=>by cases z))
def Rk (c:Int)(ws:List (List Nat)):Prop:=(∃(k:Nat) (X:List (List Nat)),k < 4∧ws=[112,97,114,116] :: nmL c k :: X∧X≠[]∧X.length≤5)∨(∃(n m:List Nat) (X:List (List Nat)),ws=[112,117,116] :: n :: m :: X∧X≠[]∧nmB n=true)∨ws=[[100,111,110,101]]∨∃(k:Kd) (a b t:List Nat),ws=[wdC k,a,b,t]
section
variable {c:Int} {Y Y':YS} {kn:Kn} {us:List (List Nat)} {op:List Nat}
theorem kp_op (Y:YS)(P:PD):(Y.keep P).op=Y.op.map fun q=>(q.1,P):=by unfold YS.keep;cases Y.op<;>rfl
theorem mir_keep (M:Mir c Y kn us op){P:PD}{vs:List (List Nat)}(hu:∀u∈vs,nmB u=true∧S u∈P.pn)(he:P.e=Y.cur.e):Mir c (Y.keep P) kn vs op:=by
 refine⟨fun x hx=>?_,fun u hu'=>?_,fun h=>?_,fun q h=>?_,fun q hq=>?_⟩
 ·rw[keep_pa];exact M.kn x hx
 ·rw[keep_cur];exact hu u hu'
 ·rw[kp_op] at h
  exact M.o0 (by cases e:Y.op with | none=>rfl | some q=>rw[e] at h;cases h)
 ·rw[kp_op] at h
  cases e:Y.op with
  |none=>rw[e] at h;cases h
  |some r=>
   rw[e] at h
   cases h
   obtain⟨a,b,d,f⟩:=M.o1 r e
   refine⟨a,b,?_,f⟩
   have:Y.cur=r.2:=by unfold YS.cur;rw[e]
   show P.e≤5
   rw[he,this]
   exact d
 ·rw[keep_pa] at hq;exact M.pv q hq
theorem mir_row (M:Mir c Y kn us op){k:Kd}{a b t:List Nat}(h:tV Y [wdC k,a,b,t]=.ok Y'):Mir c Y' kn us op∧(∀q,Y.op=some q→∃q',Y'.op=some q'∧q'.2.e=q.2.e)∧(Y.op=none→Y'.op=none):=by
 rw[tV_row] at h
 unfold rowV at h
 split at h
 ·cases h
 split at h
 ·cases h
 split at h
 ·cases h
 obtain⟨_,rfl⟩:=fitV_ok h
 refine⟨mir_keep M (fun u hu=>M.us u hu) rfl,fun q e=>?_,fun e=>by rw[kp_op,e];rfl⟩
 rw[kp_op,e]
 refine⟨_,rfl,?_⟩
 have:Y.cur=q.2:=by unfold YS.cur;rw[e]
 show Y.cur.e=_
 rw[this]
theorem mir_put (M:Mir c Y kn us op){n m:List Nat}{X:List (List Nat)}(hX:X≠[])(nn:nmB n=true)(h:tV Y ([112,117,116] :: n :: m :: X)=.ok Y'):Mir c Y' kn (us++[n]) op∧(∀q,Y.op=some q→∃q',Y'.op=some q'∧q'.2.e=q.2.e)∧(Y.op=none→Y'.op=none):=by
 cases X with
 |nil=>exact absurd rfl hX
 |cons x X=>
  rw[tV_put] at h
  unfold putV at h
  split at h
  ·cases h
  split at h
  ·cases h
  split at h
  ·cases h
  split at h
  ·cases h
  obtain⟨_,rfl⟩:=fitV_ok h
  refine⟨mir_keep M (fun u hu=>?_) rfl,fun q e=>?_,fun e=>by rw[kp_op,e];rfl⟩
  ·rcases List.mem_append.mp hu with hu | hu
   ·exact⟨(M.us u hu).1,List.mem_append_left _ (M.us u hu).2⟩
   ·rw[List.mem_singleton.mp hu]
    exact⟨nn,List.mem_append_right _ (by simp)⟩
  ·rw[kp_op,e]
   refine⟨_,rfl,?_⟩
   have:Y.cur=q.2:=by unfold YS.cur;rw[e]
   show Y.cur.e=_
   rw[this]
theorem mir_part (M:Mir c Y kn us op){k:Nat}{X:List (List Nat)}(hk:k < 4)(hX:X≠[])(h5:X.length≤5)(h:tV Y ([112,97,114,116] :: nmL c k :: X)=.ok Y'):Mir c Y' kn [] (nmL c k)∧∃q',Y'.op=some q'∧q'.2.e=X.length:=by
 cases X with
 |nil=>exact absurd rfl hX
 |cons x X=>
  rw[tV_part] at h
  unfold begV at h
  cases o:Y.op with
  |some q=>rw[o] at h;cases h
  |none=>
   rw[o] at h
   dsimp only at h
   split at h
   ·cases h
   split at h
   ·cases h
   split at h
   ·cases h
   injection h with h
   subst h
   refine⟨⟨M.kn,fun u hu=>(by cases hu),fun z=>(by cases z),fun q e=>?_,M.pv⟩,_,rfl,rfl⟩
   cases e
   exact⟨rfl,nmL_ok (by omega),h5,k,hk,rfl⟩
theorem mir_done (M:Mir c Y kn us op){wc:Nat}(Wf:WfY wc Y)(h:tV Y [[100,111,110,101]]=.ok Y'):∃q,Y.op=some q∧Mir c Y' (kn++[(op,q.2.e)]) [] []:=by
 rw[tV_done] at h
 unfold endV at h
 cases o:Y.op with
 |none=>rw[o] at h;cases h
 |some q=>
  rw[o] at h
  injection h with h
  subst h
  obtain⟨a,b,e5,k,hk,ek⟩:=M.o1 q o
  obtain⟨_,e1,nin⟩:=Wf.op q o
  refine⟨q,rfl,⟨fun x hx=>?_,fun u hu=>(by cases hu),fun _=>rfl,fun q e=>(by cases e),fun x hx=>?_⟩⟩
  ·rcases List.mem_append.mp hx with hx | hx
   ·obtain⟨h1,h2,h3,P,hP,eP⟩:=M.kn x hx
    exact⟨h1,h2,h3,P,partOf_app2 hP,eP⟩
   ·rw[List.mem_singleton.mp hx]
    exact⟨b,e1,e5,q.2,partOf_app (by rw[← a];exact nin) a,rfl⟩
  ·rcases List.mem_append.mp hx with hx | hx
   ·exact M.pv x hx
   ·rw[List.mem_singleton.mp hx]
    exact⟨k,hk,by rw[a,ek,nmL_S]⟩
theorem mir0:Mir c Y0 [] [] []:=⟨fun _ h=>(by cases h),fun _ h=>(by cases h),fun _=>rfl,fun q h=>(by cases h),fun q h=>(by cases h)⟩
theorem Mir.ku (M:Mir c Y kn us op)(kl:kn.length≤100)(ul:us.length≤100):KuOk kn us op:=by
 refine⟨fun x hx=>⟨nm_len (M.kn x hx).1,(M.kn x hx).2.1,(M.kn x hx).2.2.1⟩,kl,fun u hu=>nm_len (M.us u hu).1,ul,?_⟩
 cases e:Y.op with
 |none=>rw[M.o0 e];exact Nat.zero_le _
 |some q=>exact nm_len (M.o1 q e).2.1
end
theorem nk_none {H:Hp}{a:Addr}(h:H a=none):nk H a=none:=by unfold nk;rw[h]
theorem sqt_upd {K:PySem.W.Frag}{H:Hp}{t U:Addr}{xs us us':List V}(hU:H U=some (.lst us))(h:SqT K H t xs):SqT K (upd H U (.lst us')) t xs:=by
 rcases h with (h | ⟨o,h⟩) | h
 ·exact .inl (.inl (by rw[upd_ne (fun z=>by rw[z,hU] at h;cases h)];exact h))
 ·exact .inl (.inr ⟨o,by rw[upd_ne (fun z=>by rw[z,hU] at h;cases h)];exact h⟩)
 ·exact .inr h
theorem KnAt.upd {K:PySem.W.Frag}{H:Hp}{U:Addr}{us us':List V}(hU:H U=some (.lst us)):∀{xs:List V} {rs:Kn},KnAt K H xs rs→KnAt K (L2.upd H U (.lst us')) xs rs
 |_,_,.nil=>.nil
 |_,_,.cons h r=>.cons (sqt_upd hU h) (KnAt.upd hU r)
theorem KnAt.syd {CY CP:Addr}{av:List Addr}{H H':Hp}{y d:Addr}{Y:YS}(G:YG CY CP K av H y d Y)(s:SYd y d H H'):∀{xs:List V} {rs:Kn},KnAt K H xs rs→KnAt K H' xs rs
 |_,_,.nil=>.nil
 |_,_,.cons h r=>.cons (syd_sqt G s h) (KnAt.syd G s r)
theorem syd_nk {CY CP:Addr}{av:List Addr}{H0 H H':Hp}{y d:Addr}{Y:YS}(G:YG CY CP K av H y d Y)(s0:Same (nk H0) H)(s:SYd y d H H'):Same (nk H0) H':=by
 obtain⟨dy,g,o,q,kvs,hy,_,hd,_⟩:=G
 intro b u e
 have e1:=s0 _ _ e
 have e2:=nk_same _ _ e
 refine s _ _ e1 (fun z=>?_) (fun z=>?_)
 ·rw[z] at e;rw[z,hy] at e1;cases e1;unfold nk at e;rw[z] at e2;rw[e2] at e;cases e
 ·rw[z] at e;rw[z,hd] at e1;cases e1;unfold nk at e;rw[z] at e2;rw[e2] at e;cases e
def spWalked (CY CP:Addr)(K:PySem.W.Frag):Sp:=fun vs H Q _=>∃(y d sc R:Addr) (ns:List Int) (wss:List (List (List Nat))) (c:Int) (Y2:YS),vs=[.ref y,.ref sc,.ref R]∧YG CY CP K [] H y d Y0∧SqL K H sc (ns.map V.int)∧ns.length≤63∧H R=some (.lst ((txts wss).map V.str))∧wss.length≤50∧(∀ws∈wss,TxOk ws∧Rk c ws)∧fV Y0 wss=.ok Y2∧∀av H',Same (nk H) H'→YG CY CP K av H' y d Y2→Q (.bl true) H'
theorem sp_eq:(" ":Str)=⟨#[32]⟩:=by decide +kernel
theorem sp_len:(" ":Str).length≠0:=by decide +kernel
theorem txts_at {wss:List (List (List Nat))}{i:Nat}(h:i < wss.length):((txts wss).map V.str)[i]?=some (.str (S (jnc 32 wss[i]))):=by
 unfold txts
 simp only[List.getElem?_map,List.getElem?_eq_getElem h,Option.map_some]
abbrev sWalked:Stmt:=top 65
theorem scWalked:FnScope ["_law_yard","_law_script","_law_rows","_law_known","_law_used","_law_opened","_law_k","_law_cell","_law_words","_law_bad_here","_law_due","_law_many"] ["_law_yard","_law_script","_law_rows"] (defScope sWalked):=⟨rfl,rfl,rfl,by decide +kernel,rfl,by decide +kernel,by decide +kernel⟩
theorem ok_walked {dV:Value}(F:FunD K "_law_walked" "_law_walked" sWalked dV f fd){CY CP CT:Addr}{cl:Ek→Addr}(YTx:YaT K mg CY)(b:Bl mg)(ml:mg "len"=none)(mr:mg "range"=none){gNa:Addr}{gdNa:FuncData}(GNa:FnOk P w K mg base CX0 1 gNa gdNa ["self"] (spNamesG CY CP K))(bNa:Binds K gdNa ["self"] [])(mNa:Meth K CY "names" gNa)(G1:FnOk P w K mg base CX0 1 g1 gd1 ["_law_script","_law_k"] (spPick K))(b1:Binds K gd1 ["_law_script","_law_k"] [])(k1:PySem.W.keepIn K (.ref g1)=true)(m1:mg "_law_pick"=some (.ref g1))(G2:FnOk P w K mg base CX0 1 g2 gd2 ["_law_cell","_law_prime","_law_many"] spMixF)(b2:Binds K gd2 ["_law_cell","_law_prime","_law_many"] [])(k2:PySem.W.keepIn K (.ref g2)=true)(m2:mg "_law_mix"=some (.ref g2))(G3:FnOk P w K mg base CX0 3 g3 gd3 ["_law_cell","_law_known","_law_used","_law_opened"] (spBad K))(b3:Binds K gd3 ["_law_cell","_law_known","_law_used","_law_opened"] [])(k3:PySem.W.keepIn K (.ref g3)=true)(m3:mg "_law_bad"=some (.ref g3))(G4:FnOk P w K mg base CX0 8 g4 gd4 ["_law_yard","_law_row_here"] (spTold CY CP CT cl K))(b4:Binds K gd4 ["_law_yard","_law_row_here"] [])(k4:PySem.W.keepIn K (.ref g4)=true)(m4:mg "_law_told"=some (.ref g4)) :
  FnOk P w K mg base CX 9 f fd ["_law_yard","_law_script","_law_rows"] (spWalked CY CP K):=by
 refine F.ok scWalked (fun vs H Q E h=>?_) (fun cdv A outer s H vs Q E hr h=>?_)
 ·obtain⟨y,d,sc,R,ns,wss,c,Y2,rfl,Gy,hN,n63,eR,wl,tx,fv,q⟩:=h
  rfl
 obtain⟨y,d,sc,R,ns,wss,c,Y2,rfl,Gy,hN,n63,eR,wl,tx,fv,q⟩:=h
 have hz:sizeLine=16777216:=sizeLine_eq
 have r1:=hr.mono (show 1≤8 by omega)
 have r3:=hr.mono (show 3≤8 by omega)
 refine⟨_,(pss_cons (ps_set (i:=3) scWalked.nd rfl (Or.inl rfl) (pe_lst pa_nil))
  (pss_cons (ps_set (i:=4) scWalked.nd rfl (Or.inl rfl) (pe_lst pa_nil))
  (pss_cons (ps_set (i:=5) scWalked.nd rfl (Or.inl rfl) pe_str)
  (pss_cons (ps_for PassesOwn.never rfl (pi_range1 rfl mr (pa_cons (pe_callB call_len_seq rfl ml PySem.boot_len (pa_cons (pv 2) pa_nil)) pa_nil)) (pg_name (i:=6) scWalked.nd rfl (Or.inl rfl))
   (pss_cons (ps_set (i:=7) scWalked.nd rfl (Or.inl rfl) (pe_call G1 r1 rfl m1 k1 b1 .nil pass0 (pa_cons (pv 1) (pa_cons (pe_op op_add pe_int (pv 6)) pa_nil))))
  (pss_cons (ps_set (i:=8) scWalked.nd rfl (Or.inl rfl) (pe_bm PySem.F.plainAttrs_str PySem.F.slot_str_split PySem.F.type_str_split mt_split (pe_ix ix_list (pv 2) (pv 6) (fun _ _=>rfl)) (pa_cons pe_str pa_nil)))
  (pss_cons (ps_if (pt_cmpR op_gt (pe_call G2 r1 rfl m2 k2 b2 .nil pass0 (pa_cons (pv 7) (pa_cons pe_int (pa_cons pe_int pa_nil)))) pe_int (nomark _)) (pss_cons (ps_asg (pe_call G3 r3 rfl m3 k3 b3 .nil pass0 (pa_cons (pv 7) (pa_cons (pv 3) (pa_cons (pv 4) (pa_cons (pv 5) pa_nil))))) (pg_tup rfl (pgs_cons (pg_name (i:=9) scWalked.nd rfl (Or.inl rfl)) (pgs_cons (pg_name (i:=10) scWalked.nd rfl (Or.inl rfl)) pgs_nil))))
  (pss_one (ps_if (pt_cmpR op_ne (pe_call G4 hr rfl m4 k4 b4 .nil pass0 (pa_cons (pv 0) (pa_cons (pv 9) pa_nil))) (pv 10) (nomark _)) (pss_one (ps_ret pe_bl)) pss_nil))) pss_nil)
  (pss_cons (ps_if (pt_cmpR op_eq (pv 6) (pe_op op_sub (pe_callB call_len_seq rfl ml PySem.boot_len (pa_cons (pv 2) pa_nil)) pe_int) (nomark _)) (pss_one (ps_expr (pe_bm PySem.F.plainAttrs_list PySem.F.slot_list_append PySem.F.type_list_append mt_append (pe_meth0 (pv 0) YTx.cl mNa GNa r1 bNa .nil pass0) (pa_cons pe_str pa_nil)))) pss_nil)
  (pss_cons (ps_if (pt_cmpR op_ne (pe_call G4 hr rfl m4 k4 b4 .nil pass0 (pa_cons (pv 0) (pa_cons (pe_ix ix_list (pv 2) (pv 6) (fun _ _=>rfl)) pa_nil))) pe_str (nomark _)) (pss_one (ps_ret pe_bl)) pss_nil)
  (pss_cons (ps_if (pt_cmpR op_eq (pe_ix ix_list (pv 8) pe_int (fun _ _=>rfl)) pe_str (nomark _)) (pss_cons (ps_set (i:=5) scWalked.nd rfl (Or.inl rfl) (pe_ix ix_list (pv 8) pe_int (fun _ _=>rfl)))
  (pss_cons (ps_set (i:=4) scWalked.nd rfl (Or.inl rfl) (pe_lst pa_nil))
  (pss_one (ps_set (i:=11) scWalked.nd rfl (Or.inl rfl) (pe_op op_sub (pe_callB call_len_seq rfl ml PySem.boot_len (pa_cons (pv 8) pa_nil)) pe_int))))) pss_nil)
  (pss_cons (ps_if (pt_cmpR op_eq (pe_ix ix_list (pv 8) pe_int (fun _ _=>rfl)) pe_str (nomark _)) (pss_one (ps_expr (pe_bm PySem.F.plainAttrs_list PySem.F.slot_list_append PySem.F.type_list_append mt_append (pv 4) (pa_cons (pe_ix ix_list (pv 8) pe_int (fun _ _=>rfl)) pa_nil)))) pss_nil)
  (pss_one (ps_if (pt_cmpR op_eq (pe_ix ix_list (pv 8) pe_int (fun _ _=>rfl)) pe_str (nomark _)) (pss_cons (ps_expr (pe_bm PySem.F.plainAttrs_list PySem.F.slot_list_append PySem.F.type_list_append mt_append (pv 3) (pa_cons (pe_tup (pa_cons (pv 5) (pa_cons (pv 11) pa_nil))) pa_nil)))
  (pss_cons (ps_set (i:=5) scWalked.nd rfl (Or.inl rfl) pe_str)
  (pss_one (ps_set (i:=4) scWalked.nd rfl (Or.inl rfl) (pe_lst pa_nil))))) pss_nil))))))))))
  (pss_one (ps_ret pe_bl)))))),?_⟩
 refine⟨by show 0≤sizeLine;decide,fun KN hKN=>?_⟩
 have G1':=Gy.more (o:=.lst []) hKN
 have s1:=same_new hKN (.lst [])
 have eK:upd H KN (.lst []) KN=some (.lst []):=upd_same
 generalize upd H KN (.lst [])=H1 at s1 eK G1' ⊢
 refine⟨by show 0≤sizeLine;decide,fun U hU=>?_⟩
 have G2':=G1'.more (o:=.lst []) hU
 have s2:=same_new hU (.lst [])
 have eU:upd H1 U (.lst []) U=some (.lst []):=upd_same
 generalize upd H1 U (.lst [])=H2 at s2 eU G2' ⊢
 have s02:=s1.trans s2
 have UK:U≠KN:=fun z=>by rw[z,eK] at hU;cases hU
 dsimp only[gName]
 have Sn:("":Str)=S []:=by decide +kernel
 rw[Sn]
 refine cut2 (fun σ H'=>∃av,Same (nk H) H'∧YG CY CP K av H' y d Y2) (fun X hX=>?_) ?_
 ·refine⟨_,rfl,R,_,rfl,.inl (SqL.of (s02 _ _ eR)),_,rfl,by omega,by rw[List.length_map];unfold txts;rw[List.length_map];omega,?_⟩
  have nl:((((txts wss).map V.str).length:Nat):Int).toNat=wss.length:=by rw[Int.toNat_natCast,List.length_map];unfold txts;rw[List.length_map]
  refine for_range (n:=((((txts wss).map V.str).length:Nat):Int).toNat) (fun i σ H'=>∃(kn:Kn) (us:List (List Nat)) (op:List Nat) (U:Addr) (kvs:List V) (av:List Addr) (Yi:YS) (z6 z7 z8 z9 z10 z11:Option V),σ=[some (.ref y),some (.ref sc),some (.ref R),some (.ref KN),some (.ref U),some (.str (S op)),z6,z7,z8,z9,z10,z11]∧Same (nk H) H'∧KN∈av∧U∈av∧YG CY CP K av H' y d Yi∧H' KN=some (.lst kvs)∧KnAt K H' kvs kn∧H' U=some (.lst (us.map fun x=>V.str (S x)))∧fV Y0 (wss.take i)=.ok Yi∧WfY i Yi∧Mir c Yi kn us op∧kn.length≤i∧us.length≤i∧(∀q,Yi.op=some q→z11=some (.int (q.2.e:Int)))∧nk H U=none∧U≠KN) ⟨[],[],[],U,[],[U,KN],Y0,_,_,_,_,_,_,rfl,nk_same.trans s02,by simp,by simp,G2',s2 _ _ eK,.nil,eU,rfl,wf0,mir0,Nat.le_refl _,Nat.le_refl _,fun q e=>(by cases e),nk_none (s1.free hU),UK⟩ ?_ ?_
  ·rintro i σ Ha hi ⟨kn,us,op,U,kvs,av,Yi,z6,z7,z8,z9,z10,z11,rfl,sa,kin,uin,Ga,eKa,hKa,eUa,fi,Wi,Mi,kl,ul,z11e,fU,UK⟩
   rw[nl] at hi
   rw[Int.zero_add]
   have eRa:=sa _ _ (nk_lst eR)
   obtain⟨hT,hRk⟩:=tx _ (List.getElem_mem hi)
   have fv':=fv
   rw[← List.take_append_drop i wss,List.drop_eq_getElem_cons hi] at fv'
   obtain⟨Y1,f1,f2⟩:=fV_split fv'
   rw[fi] at f1
   injection f1 with f1
   subst f1
   obtain⟨Y5,t5,_⟩:=fV_cons f2
   have f6:fV Y0 (wss.take (i+1))=.ok Y5:=by
    rw[List.take_add_one,List.getElem?_eq_getElem hi]
    exact fV_app fi t5
   have hat:=txts_at hi
   generalize wss[i]=ws at hT hRk t5 f2 fv' hat
   have W5:=tV_wf Wi hT.ne hT.bd t5
   refine⟨_,rfl,_,rfl,_,_,rfl,rfl,sc,ns,_,20+i,rfl,by omega,sa.seq (nk_L hN),n63,fun Hb sb=>?_⟩
   generalize pickN ns (20+i)=c1
   have eRb:=sb _ _ eRa
   refine⟨_,rfl,_,rfl,R,_,_,_,rfl,rfl,SqL.of eRb,atI_nat hat,rfl,_,_,rfl,rfl,sp_len,by rw[S_len];have:=hT.jl;omega,fun WL hWL=>?_⟩
   rw[sp_eq,split_is hT.ne hT.s32]
   have sc':=same_new hWL (.lst ((ws.map S).map V.str))
   have eW:upd Hb WL (.lst ((ws.map S).map V.str)) WL=some (.lst ((ws.map S).map V.str)):=upd_same
   generalize upd Hb WL (.lst ((ws.map S).map V.str))=Hc at sc' eW ⊢
   have sac:=sb.trans sc'
   dsimp only[gName]
   refine cut1 (fun σ H'=>∃z9 z10,σ=[some (.ref y),some (.ref sc),some (.ref R),some (.ref KN),some (.ref U),some (.str (S op)),some (.int (i:Int)),some (.int c1),some (.ref WL),z9,z10,z11]∧Same Hc H') (fun X hX=>?_) ?_
   ·refine⟨_,rfl,c1,44488,3,rfl,by decide,by decide,by decide,_,_,rfl,rfl,_,rfl,ite2 (fun h=>?_) (fun h=>hX _ _ ⟨_,_,rfl,Same.refl _⟩)⟩
    refine⟨_,rfl,_,rfl,_,rfl,_,rfl,c1,KN,U,kvs,kn,us,op,rfl,SqL.of (sac _ _ eKa),hKa.same sac,SqL.of (sac _ _ eUa),Mi.ku (by omega) (by omega),fun tt bw e Hd sd ett bok=>?_⟩
    obtain⟨btx,btv⟩:=bad_ok Mi Wi bok
    refine⟨tt,_,rfl,SqT.of ett,rfl,_,_,rfl,_,_,rfl,rfl,?_⟩
    refine⟨_,rfl,_,rfl,av,y,d,Yi,bw,i,rfl,(Ga.same sac).same sd,Wi,by omega,btx,.inr ⟨e,btv,fun He se=>?_⟩⟩
    refine⟨_,rfl,rfl,_,rfl,L2.ifF ?_ (hX _ _ ⟨_,_,rfl,sd.trans se⟩)⟩
    rw[decide_eq_true rfl];rfl
   rintro σ Hd ⟨z9,z10,rfl,sd⟩
   have sad:=sac.trans sd
   refine cut1 (fun σ H'=>σ=[some (.ref y),some (.ref sc),some (.ref R),some (.ref KN),some (.ref U),some (.str (S op)),some (.int (i:Int)),some (.int c1),some (.ref WL),z9,z10,z11]∧Same Hd H') (fun X hX=>?_) ?_
   ·refine⟨_,rfl,_,rfl,R,_,rfl,.inl (SqL.of (sad _ _ eRa)),_,_,rfl,rfl,rfl,_,rfl,ite2 (fun h=>?_) (fun h=>hX _ _ ⟨rfl,Same.refl _⟩)⟩
    obtain⟨dya,ga,oa,qa,kvsa,hya,_⟩:=id (Ga.same sad)
    refine⟨_,rfl,y,dya,_,rfl,hya,(by with_unfolding_all rfl),av,y,d,Yi,rfl,Ga.same sad,fun r He se hr' er=>?_⟩
    refine⟨.inl ⟨rfl,_,SqL.of er⟩,r,_,_,rfl,rfl,er,small1000 ?_,hX _ _ ⟨rfl,se.change hr'⟩⟩
    rw[List.length_map]
    have:=Wi.gr.l20
    omega
   rintro σ He ⟨rfl,se⟩
   have sae:=sad.trans se
   have eWe:=(sd.trans se) _ _ eW
   refine cut1 (fun σ H'=>σ=[some (.ref y),some (.ref sc),some (.ref R),some (.ref KN),some (.ref U),some (.str (S op)),some (.int (i:Int)),some (.int c1),some (.ref WL),z9,z10,z11]∧SYd y d He H'∧YG CY CP K av H' y d Y5) (fun X hX=>?_) ?_
   ·refine⟨_,rfl,_,rfl,_,rfl,R,_,_,_,rfl,rfl,SqL.of (sae _ _ eRa),atI_nat hat,av,y,d,Yi,ws,i,rfl,Ga.same sae,Wi,by omega,hT,.inl ⟨Y5,t5,fun Hf sf Gf=>?_⟩⟩
    refine⟨rfl,_,rfl,L2.ifF ?_ (hX _ _ ⟨rfl,sf,Gf⟩)⟩
    rw[← Sn,decide_eq_true rfl];rfl
   rintro σ Hf ⟨rfl,sf,Gf⟩
   have Gae:=Ga.same sae
   have sf':Same (nk H) Hf:=syd_nk Gae (sa.trans sae) sf
   have eKf:=syd_lst Gae sf (sae _ _ eKa)
   have hKf:=(hKa.same sae).syd Gae sf
   have eUf:=syd_lst Gae sf (sae _ _ eUa)
   have eW5:=syd_lst Gae sf eWe
   have WU:WL≠U:=fun z=>by rw[z,sb _ _ eUa] at hWL;cases hWL
   have WK:WL≠KN:=fun z=>by rw[z,sb _ _ eKa] at hWL;cases hWL
   have nKN:nk H KN=none:=nk_none hKN
   rcases hRk with ⟨k,X',hk,rfl,hX0,hX5⟩ | ⟨n,m,X',rfl,hX0,nn⟩ | rfl | ⟨kd,a,b',t',rfl⟩
   ·have at0:atI ((([112,97,114,116] :: nmL c k :: X').map S).map V.str) 0=some (.str (S [112,97,114,116])):=show atI _ ((0:Nat):Int)=_ from atI_nat rfl
    have at1:atI ((([112,97,114,116] :: nmL c k :: X').map S).map V.str) 1=some (.str (S (nmL c k))):=show atI _ ((1:Nat):Int)=_ from atI_nat rfl
    refine⟨_,rfl,WL,_,0,_,rfl,rfl,SqL.of eW5,at0,rfl,_,rfl,L2.ifT (by decide +kernel) ?_⟩
    refine⟨_,rfl,WL,_,1,_,rfl,rfl,SqL.of eW5,at1,?_⟩
    refine⟨by show 0≤sizeLine;decide,fun U2 hU2=>?_⟩
    have G6:=Gf.more (o:=.lst []) hU2
    have s6:=same_new hU2 (.lst [])
    have eU2:upd Hf U2 (.lst []) U2=some (.lst []):=upd_same
    generalize upd Hf U2 (.lst [])=Hg at s6 eU2 G6 ⊢
    have eW6:=s6 _ _ eW5
    refine⟨_,rfl,WL,_,rfl,.inl (SqL.of eW6),_,_,rfl,rfl,?_⟩
    refine⟨_,rfl,WL,_,0,_,rfl,rfl,SqL.of eW6,at0,rfl,_,rfl,L2.ifF (by decide +kernel) ?_⟩
    refine⟨_,rfl,WL,_,0,_,rfl,rfl,SqL.of eW6,at0,rfl,_,rfl,L2.ifF (by decide +kernel) ?_⟩
    obtain⟨M5,q',e',eq⟩:=mir_part Mi hk hX0 hX5 t5
    refine⟨kn,[],nmL c k,U2,kvs,U2 :: av,Y5,_,_,_,_,_,_,rfl,sf'.trans s6,List.mem_cons_of_mem _ kin,by simp,G6,s6 _ _ eKf,hKf.same s6,eU2,f6,W5,M5,by omega,Nat.zero_le _,fun q e=>?_,sf'.free hU2,fun z=>by rw[z,eKf] at hU2;cases hU2⟩
    rw[e'] at e
    cases e
    rw[eq]
    simp only[List.map_cons,List.length_cons,List.length_map]
    congr 2
    omega
   ·have at0:atI ((([112,117,116] :: n :: m :: X').map S).map V.str) 0=some (.str (S [112,117,116])):=show atI _ ((0:Nat):Int)=_ from atI_nat rfl
    have at1:atI ((([112,117,116] :: n :: m :: X').map S).map V.str) 1=some (.str (S n)):=show atI _ ((1:Nat):Int)=_ from atI_nat rfl
    refine⟨_,rfl,WL,_,0,_,rfl,rfl,SqL.of eW5,at0,rfl,_,rfl,L2.ifF (by decide +kernel) ?_⟩
    refine⟨_,rfl,WL,_,0,_,rfl,rfl,SqL.of eW5,at0,rfl,_,rfl,L2.ifT (by decide +kernel) ?_⟩
    refine⟨_,rfl,.inl ⟨rfl,_,SqL.of eUf⟩,_,rfl,WL,_,1,_,rfl,rfl,SqL.of eW5,at1,U,_,_,rfl,rfl,eUf,small1000 (by rw[List.length_map];omega),?_⟩
    have G6:=Gf.av (us':=(us.map fun x=>V.str (S x))++[V.str (S n)]) eUf uin
    have eW6:L2.upd Hf U (.lst ((us.map fun x=>V.str (S x))++[V.str (S n)])) WL=_:=(upd_ne WU).trans eW5
    refine⟨_,rfl,WL,_,0,_,rfl,rfl,SqL.of eW6,at0,rfl,_,rfl,L2.ifF (by decide +kernel) ?_⟩
    obtain⟨M5,m1',m2'⟩:=mir_put Mi hX0 nn t5
    refine⟨kn,us++[n],op,U,kvs,av,Y5,_,_,_,_,_,_,rfl,sf'.change fU,kin,uin,G6,(upd_ne (Ne.symm UK)).trans eKf,hKf.upd eUf,by rw[List.map_append];exact upd_same,f6,W5,M5,by omega,by rw[List.length_append];simp only[List.length_cons,List.length_nil];omega,fun q e=>?_,fU,UK⟩
    cases o:Yi.op with
    |none=>rw[m2' o] at e;cases e
    |some q0=>
     obtain⟨q',e1,e2⟩:=m1' q0 o
     rw[e1] at e
     cases e
     rw[e2]
     exact z11e q0 o
   ·have at0:atI (([[100,111,110,101]].map S).map V.str) 0=some (.str (S [100,111,110,101])):=show atI _ ((0:Nat):Int)=_ from atI_nat rfl
    obtain⟨q0,o0,Md⟩:=mir_done Mi Wi t5
    obtain rfl:=z11e q0 o0
    refine⟨_,rfl,WL,_,0,_,rfl,rfl,SqL.of eW5,at0,rfl,_,rfl,L2.ifF (by decide +kernel) ?_⟩
    refine⟨_,rfl,WL,_,0,_,rfl,rfl,SqL.of eW5,at0,rfl,_,rfl,L2.ifF (by decide +kernel) ?_⟩
    refine⟨_,rfl,WL,_,0,_,rfl,rfl,SqL.of eW5,at0,rfl,_,rfl,L2.ifT (by decide +kernel) ?_⟩
    refine⟨_,rfl,.inl ⟨rfl,_,SqL.of eKf⟩,_,rfl,_,rfl,by show 2≤sizeLine;decide,fun T hT2=>?_⟩
    have sT:=same_new hT2 (.tup [V.str (S op),V.int (q0.2.e:Int)])
    have eT:upd Hf T (.tup [V.str (S op),V.int (q0.2.e:Int)]) T=some (.tup [V.str (S op),V.int (q0.2.e:Int)]):=upd_same
    generalize upd Hf T (.tup [V.str (S op),V.int (q0.2.e:Int)])=Hg at sT eT ⊢
    have eKg:=sT _ _ eKf
    refine⟨KN,_,_,rfl,rfl,eKg,small1000 (by rw[hKf.length];omega),?_⟩
    have G7:=(Gf.same sT).av (us':=kvs++[.ref T]) eKg kin
    have s7:Same (nk H) (L2.upd Hg KN (.lst (kvs++[.ref T]))):=(sf'.trans sT).change nKN
    have eK7:L2.upd Hg KN (.lst (kvs++[.ref T])) KN=some (.lst (kvs++[.ref T])):=upd_same
    have hK7:KnAt K (L2.upd Hg KN (.lst (kvs++[.ref T]))) (kvs++[.ref T]) (kn++[(op,q0.2.e)]):=((hKf.same sT).snoc (SqT.of eT)).upd eKg
    generalize L2.upd Hg KN (.lst (kvs++[.ref T]))=Hh at G7 s7 eK7 hK7 ⊢
    refine⟨by show 0≤sizeLine;decide,fun U2 hU2=>?_⟩
    have G8:=G7.more (o:=.lst []) hU2
    have s8:=same_new hU2 (.lst [])
    have eU2:upd Hh U2 (.lst []) U2=some (.lst []):=upd_same
    generalize upd Hh U2 (.lst [])=Hj at s8 eU2 G8 ⊢
    refine⟨kn++[(op,q0.2.e)],[],[],U2,_,U2 :: av,Y5,_,_,_,_,_,_,rfl,s7.trans s8,List.mem_cons_of_mem _ kin,by simp,G8,s8 _ _ eK7,hK7.same s8,eU2,f6,W5,Md,by rw[List.length_append];simp only[List.length_cons,List.length_nil];omega,Nat.zero_le _,fun q e=>?_,s7.free hU2,fun z=>by rw[z,eK7] at hU2;cases hU2⟩
    exfalso
    rw[tV_done] at t5
    unfold endV at t5
    rw[o0] at t5
    injection t5 with t5
    rw[← t5] at e
    cases e
   ·have at0:atI (([wdC kd,a,b',t'].map S).map V.str) 0=some (.str (S (wdC kd))):=show atI _ ((0:Nat):Int)=_ from atI_nat rfl
    refine⟨_,rfl,WL,_,0,_,rfl,rfl,SqL.of eW5,at0,rfl,_,rfl,L2.ifF (by cases kd<;>decide +kernel) ?_⟩
    refine⟨_,rfl,WL,_,0,_,rfl,rfl,SqL.of eW5,at0,rfl,_,rfl,L2.ifF (by cases kd<;>decide +kernel) ?_⟩
    refine⟨_,rfl,WL,_,0,_,rfl,rfl,SqL.of eW5,at0,rfl,_,rfl,L2.ifF (by cases kd<;>decide +kernel) ?_⟩
    obtain⟨M5,m1',m2'⟩:=mir_row Mi t5
    refine⟨kn,us,op,U,kvs,av,Y5,_,_,_,_,_,_,rfl,sf',kin,uin,Gf,eKf,hKf,eUf,f6,W5,M5,by omega,by omega,fun q e=>?_,fU,UK⟩
    cases o:Yi.op with
    |none=>rw[m2' o] at e;cases e
    |some q0=>
     obtain⟨q',e1,e2⟩:=m1' q0 o
     rw[e1] at e
     cases e
     rw[e2]
     exact z11e q0 o
  ·rintro σ Ha ⟨kn,us,op,U,kvs,av,Yi,z6,z7,z8,z9,z10,z11,rfl,sa,kin,uin,Ga,eKa,hKa,eUa,fi,Wi,Mi,kl,ul,z11e,fU,UK⟩
   rw[nl,List.take_length,fv] at fi
   injection fi with fi
   subst fi
   exact hX _ _ ⟨av,sa,Ga⟩
 rintro σ Ha ⟨av,sa,Ga⟩
 exact q av Ha sa Ga
theorem pe_bmK {X:Cx}{K:PySem.W.Frag}(hK:X.K=K){o e:Expr}{es:List Expr}{to:TE}{t:TA}{name:Str}{apos cpos:Pos}{T id:String}{r:V→List V→Hp→VK→Prop}(pa:PySem.PlainAttrs T)(slot:PySem.Slot T name id)(hty:typeOf (.builtin id)=pure (.type "method_descriptor"))(hm:MtR X id r)(ho:PE X o to)(ha:PA X (e :: es) t)(hbase:attributeBase o name X.env (eval o X.env)=eval o X.env:=by rfl)(hfew:((backTo cpos (starEach (e :: es) X.env)).all (fun x=>!x.1) && (backToKw cpos (keywordEach [] X.env)).all (fun x=>x.1.isSome)
   && decide ((e :: es).length+([]:List Keyword).length+(if ([]:List Keyword).isEmpty then 0 else 1) < 30))=true:=by rfl)(hline:(apos.endLine == cpos.line)=true:=by rfl)(hs:starEach (e :: es) X.env=(false,eval e X.env) :: starEach es X.env:=by rfl)(hplain:(backTo cpos (starEach es X.env)).any (·.1)=false:=by rfl) :
  PE X (.Call (.Attribute o name apos) (e :: es) [] cpos) (tBM K T r to t):=by subst hK;exact pe_bm pa slot hty hm ho ha hbase hfew hline hs hplain
theorem keep4 {fr:List Nat}{σ:St}{x y z u:V}:(((((σC 4 fr σ).set 0 (some x)).set 1 (some y)).set 2 (some z)).set 3 (some u)).length=(σC 4 fr σ).length∧∀(i:Nat) v,(σC 4 fr σ)[i]?=some (some v)→(((((σC 4 fr σ).set 0 (some x)).set 1 (some y)).set 2 (some z)).set 3 (some u))[i]?=some (some v):=by
 refine⟨by simp,fun i v h=>?_⟩
 have h4:4≤i:=by
  rcases i with _ | _ | _ | _ | i
  ·cases h
  ·cases h
  ·cases h
  ·cases h
  ·omega
 rw[List.getElem?_set_ne (by omega),List.getElem?_set_ne (by omega),List.getElem?_set_ne (by omega),List.getElem?_set_ne (by omega)]
 exact h
theorem nd_at {ls:List Str}(h:ls.Nodup){i:Nat}{x:Str}(e:ls[i]?=some x):∀j,j < i→ls[j]?≠some x:=fun j hj z=>by
 obtain⟨l1,e1⟩:=List.getElem?_eq_some_iff.mp e
 obtain⟨l2,e2⟩:=List.getElem?_eq_some_iff.mp z
 have:=List.pairwise_iff_getElem.mp h j i l2 l1 hj
 rw[e1,e2] at this
 exact this rfl
theorem Lrs.at {K:PySem.W.Frag}{H:Hp}:∀{xs:List V} {rs:List LD} {i:Nat} {x:V},Lrs K H xs rs→xs[i]?=some x→∃t z d,x=.ref t∧rs[i]?=some d∧SqT K H t [.str d.1.wd,.str d.2.1,.str d.2.2.1,.ref z]∧Fq K H z d.2.2.2
 |_,_,i,_,.nil,h=>by simp at h
 |_,_,0,_,.cons (t:=t) (z:=z) (d:=d) a b _,h=>by cases h;exact⟨t,z,d,rfl,rfl,a,b⟩
 |_,_,i+1,_,.cons _ _ r,h=>Lrs.at (i:=i) r (by simpa using h)
theorem same_mk2 {n f:Addr}{H H':Hp}(s:Same H H')(hn:H n=none)(hf:H f=none):Same H (mk2 n f H'):=fun a u e=>mk2_at (ne_of_none e hn) (ne_of_none e hf) (s _ _ e)
theorem fm_id (x:Str):Fm (fun _=>none) "" x=x:=by
 show (""++x:Str)=x
 show (⟨("":Str).cps++x.cps⟩:Str)=x
 have:("":Str).cps=#[]:=by decide +kernel
 rw[this,Array.empty_append]
theorem getD_at {bk:Bk}{k:Nat}(h:k < bk.length):bk[k]?=some (bk.getD k ([],[])):=by rw[List.getD_eq_getElem?_getD,List.getElem?_eq_getElem h];rfl
theorem partsT_len {c:Int}{bk:Bk}(bo:Bo c bk)(h3:bk.length=2):∀k,k≤2→(partsT c bk k).length≤7*k
 |0,_=>Nat.le_refl _
 |k+1,hk=>by
  have ih:=partsT_len bo h3 k (by omega)
  show (partsT c bk k++partT c k (bk.getD k ([],[]))).length≤_
  obtain⟨m,n,_,_,_,g⟩:=bo.2 k _ (getD_at (show k < bk.length by omega))
  have:=g.cl
  rw[List.length_append]
  unfold partT
  rw[List.length_cons,List.length_append,List.length_map]
  show _+(_+1+1)≤_
  omega
theorem part_ok {c:Int}{bk:Bk}(bo:Bo c bk){k:Nat}(hk:k < bk.length):(bk.getD k ([],[])).1≠[]∧(bk.getD k ([],[])).1.length≤10∧(∀x∈(bk.getD k ([],[])).1,x.length≤8)∧(∀it∈(bk.getD k ([],[])).2,ItW it)∧(bk.getD k ([],[])).2.length≤20:=by
 have he:=getD_at hk
 obtain⟨m,n,_,_,e1,g⟩:=bo.2 k _ he
 have e5:=bo.ends5 _ (List.mem_of_getElem? he)
 have:=g.cl
 have:=bo.1
 exact⟨e5.2,by omega,fun x hx=>nm_len (nmsOf_ok (c:=c) (m:=m) (n:=n) x (List.mem_of_mem_drop (by rw[← e1];exact hx))),fun it hit=>it_w nmsOf_ok (fun e he=>bo.ends5 e (List.mem_of_mem_take he)) (by rw[List.length_take];omega) (g.g it hit),by omega⟩
theorem txts_len (A:List (List (List Nat))):(txts A).length=A.length:=by unfold txts;rw[List.length_map]
theorem fm_fun:Fm (fun _=>none) ""=id:=funext fm_id
theorem lps_app_nd:∀{L acc:List Str},(acc++L).Nodup→lps acc L=acc++L
 | [],acc,_=>(List.append_nil _).symm
 |x :: r,acc,h=>by
  show lps (lput acc x) r=_
  have hx:x∉acc:=fun z=>(List.nodup_append.mp h).2.2 x z x (by simp) rfl
  rw[show lput acc x=acc++[x] from if_neg hx]
  have e:acc++[x]++r=acc++x :: r:=by rw[List.append_assoc];rfl
  rw[lps_app_nd (by rw[e];exact h),e]
theorem lps_nil {L:List Str}(h:L.Nodup):lps [] L=L:=lps_app_nd (acc:=[]) h
theorem plan_ne {c:Int}{bk:Bk}{PS:List PD}{its:List It}(g:Gi bk (own c) c 2 2 its)(el:∀e∈bk,e.1.length≤5∧e.1≠[])(ne:its≠[]):(plan PS pd0 its).ls≠[]:=fun z=>by
 cases its with
 |nil=>exact ne rfl
 |cons it r=>
  have h1:0 < (addIt PS pd0 it).ls.length:=by
   refine Nat.pos_of_ne_zero fun z0=>?_
   have z:=List.eq_nil_of_length_eq_zero z0
   have gi:=g.g it (by simp)
   cases it with
   |row k a b p=>
    have:S a∈(addRow pd0 k a b p).ls:=(lps_mem (labs:=[S a,S b])).mpr (.inr (by simp))
    rw[show (addRow pd0 k a b p).ls=[] from z] at this
    cases this
   |put n w X=>
    obtain⟨_,e,he,eX,_⟩:=gi
    cases X with
    |nil=>exact(el e (List.mem_of_getElem? he)).2 (List.eq_nil_of_length_eq_zero eX.symm)
    |cons x X=>
     have:S x∈(addPut pd0 n (x :: X) (PS.getD w ⟨[],0,[],[]⟩)).ls:=(lps_mem (labs:=labsV n (x :: X) _)).mpr (.inr (List.mem_append_left _ (by simp)))
     rw[show (addPut pd0 n (x :: X) (PS.getD w ⟨[],0,[],[]⟩)).ls=[] from z] at this
     cases this
  have h2:=plan_le PS r (addIt PS pd0 it)
  have z:(plan PS (addIt PS pd0 it) r).ls=[]:=z
  rw[z] at h2
  simp only[List.length_nil] at h2
  omega
theorem rk_it {c:Int}{bk:Bk}{nms:List (List Nat)}{it:It}(el:∀e∈bk,e.1.length≤5∧e.1≠[])(g:ItG bk nms c it):Rk c (itT c it):=by
 cases it with
 |row k a b p=>exact .inr (.inr (.inr ⟨k,a,b,_,rfl⟩))
 |put n w X=>
  obtain⟨⟨j,hj,rfl⟩,e,he,eX,_⟩:=g
  exact .inr (.inl ⟨_,_,X,rfl,fun z=>(el e (List.mem_of_getElem? he)).2 (List.eq_nil_of_length_eq_zero (by rw[← eX,z];rfl)),nmL_ok (by omega)⟩)
theorem rk_parts {c:Int}{bk:Bk}(bo:Bo c bk)(h2:bk.length=2):∀k,k≤2→∀ws∈partsT c bk k,Rk c ws
 |0,_,ws,h=>by cases h
 |k+1,hk,ws,h=>by
  rcases List.mem_append.mp h with h | h
  ·exact rk_parts bo h2 k (by omega) ws h
  ·have he:=getD_at (show k < bk.length by omega)
   obtain⟨m,n,_,_,_,g⟩:=bo.2 k _ he
   obtain⟨e5,e0⟩:=bo.ends5 _ (List.mem_of_getElem? he)
   unfold partT at h
   rcases List.mem_cons.mp h with rfl | h
   ·exact .inl ⟨k,_,by omega,rfl,e0,e5⟩
   ·rcases List.mem_append.mp h with h | h
    ·obtain⟨it,hit,rfl⟩:=List.mem_map.mp h
     exact rk_it (fun e he=>bo.ends5 e (List.mem_of_mem_take he)) (g.g it hit)
    ·exact .inr (.inr (.inl (List.mem_singleton.mp h)))
def spLaw (K:PySem.W.Frag):Sp:=fun vs H Q _=>∃(a:Addr) (ns:List Int),vs=[.ref a]∧SqL K H a (ns.map V.int)∧ns.length≤63∧∀H',Q (.bl true) H'
theorem nd_k_cell:(["_law_k","_law_cell"]:List Str).Nodup:=by decide +kernel
theorem nd_word_one_other_size_names:(["_law_word","_law_one","_law_other","_law_size","_law_names"]:List Str).Nodup:=by decide +kernel
abbrev sLaw:Stmt:=top 66
theorem scLaw:FnScope ["_law_script","_law_cell","_law_book_here","_law_items_here","_law_rows","_law_k","_law_yard","_law_names","_law_flat","_law_due"] ["_law_script"] (defScope sLaw):=⟨rfl,rfl,rfl,by decide +kernel,rfl,by decide +kernel,by decide +kernel⟩
theorem ok_law {dV:Value}(F:FunD K "law" "law" sLaw dV f fd){CY CP CN CO:Addr}(YTx:YaT K mg CY)(NTx:NT K mg CN)(b:Bl mg)(ml:mg "len"=none)(mli:mg "list"=none)(mr:mg "range"=none){gYI:Addr}{gdYI:FuncData}(GYI:FnOk P w K mg base CX0 3 gYI gdYI ["self"] (spYInit CY CP))(bYI:Binds K gdYI ["self"] [])(MY:Mk K CY gYI){gNe:Addr}{gdNe:FuncData}(GNe:FnOk P w K mg base (CX1 P w) 7 gNe gdNe ["self"] (spYNetG CY CP CN CO K))(bNe:Binds K gdNe ["self"] [])(mNe:Meth K CY "net" gNe){gNT:Addr}{gdNT:FuncData}(GNT:FnOk P w K mg base CX0 1 gNT gdNT ["self"] (spNTold CN K))(bNT:Binds K gdNT ["self"] [])(mNT:Meth K CN "told" gNT){gMa:Addr}{gdMa:FuncData}(GMa:FnOk P w K mg base CX0 1 gMa gdMa ["self"] (spMany CN K))(bMa:Binds K gdMa ["self"] [])(mMa:Meth K CN "many" gMa){gNa:Addr}{gdNa:FuncData}(GNa:FnOk P w K mg base CX0 1 gNa gdNa ["self"] (spNamesG CY CP K))(bNa:Binds K gdNa ["self"] [])(mNa:Meth K CY "names" gNa)(G1:FnOk P w K mg base CX0 1 g1 gd1 ["_law_script","_law_k"] (spPick K))(b1:Binds K gd1 ["_law_script","_law_k"] [])(k1:PySem.W.keepIn K (.ref g1)=true)(m1:mg "_law_pick"=some (.ref g1))(G2:FnOk P w K mg base CX0 2 g2 gd2 ["_law_k","_law_cell"] spNameL)(b2:Binds K gd2 ["_law_k","_law_cell"] [])(k2:PySem.W.keepIn K (.ref g2)=true)(m2:mg "_law_name"=some (.ref g2))(G3:FnOk P w K mg base CX0 4 g3 gd3 ["_law_script","_law_cell"] (spBook K))(b3:Binds K gd3 ["_law_script","_law_cell"] [])(k3:PySem.W.keepIn K (.ref g3)=true)(m3:mg "_law_book"=some (.ref g3))(G4:FnOk P w K mg base CX0 3 g4 gd4 ["_law_script","_law_at","_law_book_here","_law_names","_law_cell"] (spItems K))(b4:Binds K gd4 ["_law_script","_law_at","_law_book_here","_law_names","_law_cell"] [])(k4:PySem.W.keepIn K (.ref g4)=true)(m4:mg "_law_items"=some (.ref g4))(G5:FnOk P w K mg base CX0 4 g5 gd5 ["_law_book_here","_law_items_here","_law_ahead","_law_places","_law_names","_law_flat"] (spO K 4))(b5:Binds K gd5 ["_law_book_here","_law_items_here","_law_ahead","_law_places","_law_names","_law_flat"] [])(k5:PySem.W.keepIn K (.ref g5)=true)(m5:mg "_law_out"=some (.ref g5))(G7:FnOk P w K mg base CX0 3 g7 gd7 ["_law_items_here","_law_cell"] (spWritten K))(b7:Binds K gd7 ["_law_items_here","_law_cell"] [])(k7:PySem.W.keepIn K (.ref g7)=true)(m7:mg "_law_written"=some (.ref g7))(G8:FnOk P w K mg base CX0 9 g8 gd8 ["_law_yard","_law_script","_law_rows"] (spWalked CY CP K))(b8:Binds K gd8 ["_law_yard","_law_script","_law_rows"] [])(k8:PySem.W.keepIn K (.ref g8)=true)(m8:mg "_law_walked"=some (.ref g8)) :
  FnOk P w K mg base CX 10 f fd ["_law_script"] (spLaw K):=by
 refine F.ok scLaw (fun vs H Q E h=>?_) (fun cdv A outer s H vs Q E hr h=>?_)
 ·obtain⟨a,ns,rfl,hS,h63,q⟩:=h
  rfl
 obtain⟨a,ns,rfl,hS,h63,q⟩:=h
 have hz:sizeLine=16777216:=sizeLine_eq
 have hu:=hr.units
 have r1:=hr.mono (show 1≤9 by omega)
 have r2:=hr.mono (show 2≤9 by omega)
 have r3:=hr.mono (show 3≤9 by omega)
 have r4:=hr.mono (show 4≤9 by omega)
 have r7:=hr.mono (show 7≤9 by omega)
 refine⟨_,(pss_cons (ps_set (i:=1) scLaw.nd rfl (Or.inr rfl) (pe_call G1 r1 rfl m1 k1 b1 .nil pass0 (pa_cons (pv 0) (pa_cons pe_int pa_nil))))
  (pss_cons (ps_set (i:=2) scLaw.nd rfl (Or.inl rfl) (pe_call G3 r4 rfl m3 k3 b3 .nil pass0 (pa_cons (pv 0) (pa_cons (pv 1) pa_nil))))
  (pss_cons (ps_set (i:=3) scLaw.nd rfl (Or.inl rfl) (pe_call G4 r3 rfl m4 k4 b4 .nil pass0 (pa_cons (pv 0) (pa_cons pe_int (pa_cons (pv 2) (pa_cons (pe_comp (nl:=1) (fr:=[1]) (Nc:=["_law_k","_law_cell"]) (cl:=[("_law_cell",s.heap.objs.size+1)]) rfl ⟨rfl,rfl,by decide +kernel,by decide +kernel,(sub_cons rfl (sub_nil)),has_of rfl,rfl,fun i n h=>match i,h with | 0,h=>by cases h;exact⟨1,rfl,rfl,rfl,rfl,.inl rfl⟩ | k+1,h=>by rw[show 1+(k+1)=k+2 by omega] at h;cases h⟩
    (pi_range1 rfl mr (pa_cons pe_int pa_nil)) (fun C s3 H3 fp pins=>(pg_name (i:=0) nd_k_cell rfl (Or.inl rfl))) (fun C s3 H3 fp pins=>pif_nil)
    (fun C s3 H3 fp pins=>(pe_call G2 r2 rfl m2 k2 b2 .nil pass0 (pa_cons (pv 0) (pa_cons (pv 1) pa_nil))))) (pa_cons (pv 1) pa_nil)))))))
  (pss_cons (ps_set (i:=4) scLaw.nd rfl (Or.inl rfl) (pe_lst pa_nil))
  (pss_cons (ps_for PassesOwn.never rfl (pi_range1 rfl mr (pa_cons pe_int pa_nil)) (pg_name (i:=5) scLaw.nd rfl (Or.inl rfl))
   (pss_cons (ps_expr (pe_bm PySem.F.plainAttrs_list PySem.F.slot_list_append PySem.F.type_list_append mt_append (pv 4) (pa_cons (pe_op op_add_str (pe_op op_add_str (pe_op op_add_str pe_str (pe_call G2 r2 rfl m2 k2 b2 .nil pass0 (pa_cons (pv 5) (pa_cons (pv 1) pa_nil)))) pe_str) (pe_bm PySem.F.plainAttrs_str PySem.F.slot_str_join PySem.F.type_str_join mt_join pe_str (pa_cons (pe_ix ix_tup (pe_ix ix_list (pv 2) (pv 5) (fun _ _=>rfl)) pe_int (fun _ _=>rfl)) pa_nil))) pa_nil)))
  (pss_cons (ps_expr (pe_bm PySem.F.plainAttrs_list PySem.F.slot_list_extend PySem.F.type_list_extend mt_extend (pv 4) (pa_cons (pe_call G7 r3 rfl m7 k7 b7 .nil pass0 (pa_cons (pe_ix ix_tup (pe_ix ix_list (pv 2) (pv 5) (fun _ _=>rfl)) pe_int (fun _ _=>rfl)) (pa_cons (pv 1) pa_nil))) pa_nil)))
  (pss_one (ps_expr (pe_bm PySem.F.plainAttrs_list PySem.F.slot_list_append PySem.F.type_list_append mt_append (pv 4) (pa_cons pe_str pa_nil)))))))
  (pss_cons (ps_set (i:=6) scLaw.nd rfl (Or.inl rfl) (pe_make0 MY GYI r4 rfl YTx.mY bYI .nil pass0))
  (pss_cons (ps_if (pt_not (pt_val (pe_call G8 hr rfl m8 k8 b8 .nil pass0 (pa_cons (pv 6) (pa_cons (pv 0) (pa_cons (pe_op op_cat (pv 4) (pe_call G7 r3 rfl m7 k7 b7 .nil pass0 (pa_cons (pv 3) (pa_cons (pv 1) pa_nil)))) pa_nil)))))) (pss_one (ps_ret pe_bl)) pss_nil)
  (pss_cons (ps_set (i:=7) scLaw.nd rfl (Or.inr rfl) (pe_lst pa_nil))
  (pss_cons (ps_set (i:=8) scLaw.nd rfl (Or.inl rfl) (pe_lst pa_nil))
  (pss_cons (ps_expr (pe_call G5 r4 rfl m5 k5 b5 .nil pass0 (pa_cons (pv 2) (pa_cons (pv 3) (pa_cons pe_str (pa_cons pe_dnewK (pa_cons (pv 7) (pa_cons (pv 8) pa_nil))))))))
  (pss_cons (ps_setC (i:=9) (nl:=4) (fr:=[7]) (Nc:=["_law_word","_law_one","_law_other","_law_size","_law_names"]) (cl:=[("_law_names",s.heap.objs.size+2)]) (g:=(gTup K 4 (gCons (gName 0) (gCons (gName 1) (gCons (gName 2) (gCons (gName 3) gNil)))))) scLaw.nd rfl rfl rfl ⟨rfl,rfl,by decide +kernel,by decide +kernel,(sub_cons rfl (sub_nil)),has_of rfl,rfl,fun i n h=>match i,h with | 0,h=>by cases h;exact⟨7,rfl,rfl,rfl,rfl,.inl rfl⟩ | k+1,h=>by rw[show 4+(k+1)=k+5 by omega] at h;cases h⟩
    (pi_list (pv 8)) (fun C s3 H3 fp pins=>(pg_tup rfl (pgs_cons (pg_name (i:=0) nd_word_one_other_size_names rfl (Or.inl rfl)) (pgs_cons (pg_name (i:=1) nd_word_one_other_size_names rfl (Or.inl rfl)) (pgs_cons (pg_name (i:=2) nd_word_one_other_size_names rfl (Or.inl rfl)) (pgs_cons (pg_name (i:=3) nd_word_one_other_size_names rfl (Or.inl rfl)) pgs_nil)))))) (fun C s3 H3 fp pins=>pif_nil)
    (fun C s3 H3 fp pins=>(pe_tup (pa_cons (pv 0) (pa_cons (pe_bmK (K:=K) rfl PySem.F.plainAttrs_list PySem.F.slot_list_index PySem.F.type_list_index (mt_indexSK (K:=K) rfl) (pv 4) (pa_cons (pv 1) pa_nil)) (pa_cons (pe_bmK (K:=K) rfl PySem.F.plainAttrs_list PySem.F.slot_list_index PySem.F.type_list_index (mt_indexSK (K:=K) rfl) (pv 4) (pa_cons (pv 2) pa_nil)) (pa_cons (pv 3) pa_nil)))))) rfl)
  (pss_one (ps_ret (pe_and (pe_cmpR (op_eqD hu) (pe_meth0 (pv 6) YTx.cl mNa GNa r1 bNa .nil pass0) (pv 7) (nomark _)) (pe_and (pe_cmpR op_eq (pe_meth0 (pe_meth0 (pv 6) YTx.cl mNe GNe.calm r7 bNe .nil pass0) NTx.cl mMa GMa r1 bMa .nil pass0) (pe_callB call_len_seq rfl ml PySem.boot_len (pa_cons (pv 7) pa_nil)) (nomark _)) (pe_one (pe_cmpR (op_eqD hu) (pe_meth0 (pe_meth0 (pv 6) YTx.cl mNe GNe.calm r7 bNe .nil pass0) NTx.cl mNT GNT r1 bNT .nil pass0) (pv 9) (nomark _)))))))))))))))))),?_⟩
 refine⟨_,rfl,a,ns,_,0,rfl,rfl,hS,h63,fun H1 s1=>?_⟩
 generalize pickN ns 0=c
 refine⟨_,rfl,_,rfl,a,ns,c,rfl,s1.seq hS,h63,fun B bs bk H2 nB s2 eB hBk bo h3=>?_⟩
 have s02:=s1.trans s2
 refine⟨_,rfl,_,rfl,4,rfl,by decide,by decide,fun D hD=>?_⟩
 have sD:=same_new hD (.lst [])
 refine comp_range (n:=4) (fun k zs H'=>Same H2 H'∧H' D=some (.lst zs)∧zs=(nmsOf c 0 k).map fun x=>V.str (S x)) ⟨sD,upd_same,rfl⟩ (fun k zs H' h=>h.2.1) ?_ ?_
 ·rintro k zs Hd hk ⟨sd,ed,rfl⟩ C hC
  rw[Int.zero_add]
  refine⟨keep1.1,keep1.2,iteT ?_⟩
  refine⟨_,rfl,_,rfl,(k:Int),c,rfl,by omega,by omega,ed,small1000 (by rw[List.length_map,nmsOf_len];omega),hC _ _ ⟨sd.change hD,upd_same,?_⟩⟩
  rw[nmsOf_snoc,List.map_append,Nat.add_zero,Nat.mod_eq_of_lt hk,← nmL_S]
  rfl
 rintro zs H3 ⟨s3,e3,rfl⟩
 have s03:=s02.trans s3
 have bk3:BkAt K H3 bs bk:=((hBk.same nw_same).same mk2_same).same s3
 have eB3:=s3 _ _ eB
 refine⟨_,rfl,a,B,D,ns,14,c,bs,bk,own c,rfl,s03.seq hS,h63,SqL.of eB3,bk3,bo.1,bo.ends,SqL.of e3,by rw[own_len];decide,by rw[own_len];decide,fun I is its H4 nI s4 eI hIt gi ine=>?_⟩
 have s04:=s03.trans s4
 obtain⟨PS,pok,pts⟩:=book_ok bo h3
 have bk4:=bk3.same s4
 have eB4:=s4 _ _ eB3
 have it4:Its K H4 is its:=hIt.same (nw_same.trans mk2_same)
 refine⟨by show 0≤sizeLine;decide,fun RW hRW=>?_⟩
 have s5:=same_new hRW (.lst [])
 have eP5:upd H4 RW (.lst []) RW=some (.lst []):=upd_same
 generalize upd H4 RW (.lst [])=H5 at s5 eP5 ⊢
 dsimp only[gName]
 refine cut1 (fun σ H'=>(∃z5,σ=[some (.ref a),some (.int c),some (.ref B),some (.ref I),some (.ref RW),z5,none,none,none,none])∧Same H4 H'∧H' RW=some (.lst ((txts (partsT c bk 2)).map V.str))) (fun X hX=>?_) ?_
 ·refine⟨_,rfl,by decide,by decide,?_⟩
  refine for_range (n:=2) (fun i σ H'=>(∃z5,σ=[some (.ref a),some (.int c),some (.ref B),some (.ref I),some (.ref RW),z5,none,none,none,none])∧Same H4 H'∧H' RW=some (.lst ((txts (partsT c bk i)).map V.str))) ⟨⟨_,rfl⟩,s5,eP5⟩ ?_ ?_
  ·rintro i σ Ha hi ⟨⟨z5,rfl⟩,sa,eP⟩
   rw[Int.zero_add]
   have hib:i < bk.length:=by omega
   obtain⟨p1,p2,p3,p4,p5⟩:=part_ok bo hib
   have he:=getD_at hib
   have pl:=partsT_len bo h3 i (by omega)
   have eqT:txts (partsT c bk (i+1))=txts (partsT c bk i)++(S (jnc 32 ([112,97,114,116] :: nmL c i :: (bk.getD i ([],[])).1)) :: (txts ((bk.getD i ([],[])).2.map (itT c))++[S [100,111,110,101]])):=by
    show txts (partsT c bk i++partT c i (bk.getD i ([],[])))=_
    rw[txts_app]
    unfold partT
    rw[show ∀(x:List (List Nat)) (r:List (List (List Nat))),txts (x :: r)=S (jnc 32 x) :: txts r from fun _ _=>rfl,txts_app]
    rfl
   rw[eqT]
   generalize bk.getD i ([],[])=e at p1 p2 p3 p4 p5 he
   have hwl:i < bs.length:=by rw[bk4.1];exact hib
   obtain⟨tt,l1,l2,ivs,hv,hTT,h1,h2,hIts⟩:=bk4.2 i _ e (List.getElem?_eq_getElem hwl) he
   have hat:atI bs (i:Int)=some (.ref tt):=atI_nat (by rw[List.getElem?_eq_getElem hwl,hv])
   have lu:(txts (partsT c bk i)).length≤14:=by rw[txts_len];omega
   generalize txts (partsT c bk i)=us at eP lu
   have l1':(" ":Str).length=1:=by decide +kernel
   have l5:("part ":Str).length=5:=by decide +kernel
   have nl:(nmS c (i:Int)).length≤8:=by rw[← nmL_S,S_len];exact nm_len (nmL_ok (by omega))
   have hl':SqL K H4 l1 ((e.1.map S).map V.str):=by rw[List.map_map];exact h1
   have sm:=sum8 p3
   have jl:=jnc_le 32 e.1
   have e8:((e.1.map S).map (·.length))=e.1.map (·.length):=by rw[List.map_map];exact List.map_congr_left fun x _=>S_len x
   have hB4:=SqL.of (K:=K) eB4
   refine⟨_,rfl,.inl ⟨rfl,_,SqL.of eP⟩,_,rfl,_,rfl,(i:Int),c,rfl,by omega,by omega,_,_,rfl,rfl,(by omega),_,_,rfl,rfl,(by rw[len2];omega),rfl,_,rfl,_,rfl,B,_,_,_,rfl,rfl,sa.seq hB4,hat,tt,_,0,_,rfl,rfl,sa.seqT hTT,rfl," ",l1,e.1.map S,rfl,rfl,sa.seq hl',by rw[e8,List.length_map,l1'];omega,?_⟩
   rw[jn32]
   refine⟨_,_,rfl,rfl,(by simp only[len2,S_len,l1',l5];omega),RW,_,_,rfl,rfl,eP,small1000 (by rw[List.length_map];omega),?_⟩
   rw[← nmL_S,part_is _ p1]
   have sb:Same H4 (upd Ha RW (.lst (us.map V.str++[V.str (S (jnc 32 ([112,97,114,116] :: nmL c i :: e.1)))]))):=sa.change hRW
   have eP1:upd Ha RW (.lst (us.map V.str++[V.str (S (jnc 32 ([112,97,114,116] :: nmL c i :: e.1)))])) RW=some _:=upd_same
   generalize upd Ha RW (.lst (us.map V.str++[V.str (S (jnc 32 ([112,97,114,116] :: nmL c i :: e.1)))]))=Hb at sb eP1 ⊢
   refine⟨_,rfl,.inl ⟨rfl,_,SqL.of eP1⟩,_,rfl,_,rfl,B,_,_,_,rfl,rfl,sb.seq hB4,hat,tt,_,1,_,rfl,rfl,sb.seqT hTT,rfl,_,rfl,l2,c,ivs,e.2,rfl,sb.seq h2,hIts.same sb,p4,p5,fun R Hc nR sc' eR=>?_⟩
   have sbc:=sb.trans sc'
   have il:(txts (e.2.map (itT c))).length≤20:=by rw[txts_len,List.length_map];exact p5
   refine⟨RW,R,_,_,rfl,rfl,sc' _ _ eP1,eR,by simp only[List.length_append,List.length_map,List.length_cons,List.length_nil];omega,?_⟩
   have sd:Same H4 (upd Hc RW (.lst ((us.map V.str++[V.str (S (jnc 32 ([112,97,114,116] :: nmL c i :: e.1)))])++(txts (e.2.map (itT c))).map V.str))):=sbc.change hRW
   have eP2:upd Hc RW (.lst ((us.map V.str++[V.str (S (jnc 32 ([112,97,114,116] :: nmL c i :: e.1)))])++(txts (e.2.map (itT c))).map V.str)) RW=some _:=upd_same
   generalize upd Hc RW (.lst ((us.map V.str++[V.str (S (jnc 32 ([112,97,114,116] :: nmL c i :: e.1)))])++(txts (e.2.map (itT c))).map V.str))=Hd at sd eP2 ⊢
   refine⟨_,rfl,.inl ⟨rfl,_,SqL.of eP2⟩,RW,_,_,rfl,rfl,eP2,small1000 (by simp only[List.length_append,List.length_map,List.length_cons,List.length_nil];omega),⟨_,rfl⟩,sd.change hRW,?_⟩
   rw[← S_done]
   refine upd_same.trans ?_
   simp only[List.map_append,List.map_cons,List.map_nil,List.append_assoc,List.cons_append,List.nil_append]
  ·rintro σ Ha ⟨⟨z5,rfl⟩,sa,eP⟩
   exact hX _ _ ⟨⟨_,rfl⟩,sa,eP⟩
 rintro σ Hp ⟨⟨z5,rfl⟩,sp,eP⟩
 have iw:∀it∈its,ItW it:=fun it hit=>it_w nmsOf_ok bo.ends5 (by omega) (gi.g it hit)
 obtain⟨wss,hw⟩:∃wss,partsT c bk 2++its.map (itT c)=wss:=⟨_,rfl⟩
 have wl:wss.length≤26:=by
  rw[← hw,List.length_append,List.length_map]
  have:=partsT_len bo h3 2 (by decide)
  have:=gi.cl
  omega
 have tx:∀ws∈wss,TxOk ws∧Rk c ws:=fun ws h=>by
  rw[← hw] at h
  rcases List.mem_append.mp h with h | h
  ·exact⟨tx_parts bo h3 2 (by decide) ws h,rk_parts bo h3 2 (by decide) ws h⟩
  ·obtain⟨it,hit,rfl⟩:=List.mem_map.mp h
   exact⟨tx_it nmsOf_ok (fun e he=>(bo.ends5 e he).1) (by omega) (gi.g it hit),rk_it bo.ends5 (gi.g it hit)⟩
 have fv:fV Y0 wss=.ok ⟨plan PS pd0 its,paOf c PS 2,none⟩:=by rw[← hw];exact fV_app2 (fV_parts (G:=pd0) bo h3 pok pts 2 (by decide)) (fV_ground bo h3 pts gi pb_pd0 (by decide) rfl)
 have er:(txts (partsT c bk 2)).map V.str++(txts (its.map (itT c))).map V.str=(txts wss).map V.str:=by rw[← List.map_append,← txts_app,hw]
 intro y dy h1 h2 ne
 refine⟨y,dy,rfl,upd_same,fun g l' t p d Hq keep hy nl nt np nd PA hd=>⟨rfl,?_⟩⟩
 have sq:Same Hp Hq:=fun b o h=>keep b o (by rw[upd_ne (ne_of_none h h1),upd_ne (ne_of_none h h2)];exact h) (ne_of_none h h1)
 clear keep
 have Yi:YG CY CP K [] Hq y d Y0:=⟨dy,g,.non,.non,[],hy,⟨l',t,p,[],PA,.nil,(by simp),(by simp),(by simp)⟩,hd,trivial,⟨rfl,rfl⟩,fun a hin=>by cases hin⟩
 have s4q:=sp.trans sq
 dsimp only[gName]
 refine⟨_,rfl,_,rfl,_,rfl,_,rfl,_,rfl,I,c,is,its,rfl,s4q.seq (SqL.of eI),it4.same s4q,iw,by have:=gi.cl;omega,fun R Hr nR sr eR=>?_⟩
 refine⟨RW,R,_,_,rfl,rfl,(sq.trans sr) _ _ eP,eR,?_,fun RR hRR=>?_⟩
 ·have:=congrArg List.length er
  rw[List.length_append,List.length_map,List.length_map,List.length_map,txts_len wss] at this
  rw[List.length_map,List.length_map]
  omega
 rw[er]
 have ss:=same_new hRR (.lst ((txts wss).map V.str))
 have eRR:upd Hr RR (.lst ((txts wss).map V.str)) RR=some (.lst ((txts wss).map V.str)):=upd_same
 generalize upd Hr RR (.lst ((txts wss).map V.str))=Hs at ss eRR ⊢
 have s4s:=s4q.trans (sr.trans ss)
 refine⟨y,d,a,RR,ns,wss,c,_,rfl,Yi.same (sr.trans ss),(s04.trans s4s).seq hS,h63,eRR,by omega,tx,fv,fun av Ht st Gt=>⟨_,rfl,L2.ifF (by decide) ?_⟩⟩
 obtain⟨gnd,g20,g40,grd⟩:=ground_wf pts gi pb_pd0 (by decide)
 have glay:=ground_lay bo pok gi (G:=pd0) (fun x hx=>(by cases hx))
 have gne:=plan_ne (PS:=PS) gi bo.ends5 ine
 have eBt:=st _ _ (nk_lst (s4s _ _ eB4))
 have bkt:BkAt K Ht bs bk:=(bk4.same s4s).nk.same st
 have itt:Its K Ht is its:=(it4.same s4s).nk.same st
 have eIt:=st _ _ (nk_lst (s4s _ _ eI))
 refine⟨by show 0≤sizeLine;decide,fun NN hNN=>?_⟩
 have s5:=same_new hNN (.lst [])
 have eN:upd Ht NN (.lst []) NN=some (.lst []):=upd_same
 generalize upd Ht NN (.lst [])=H5 at s5 eN ⊢
 refine⟨by show 0≤sizeLine;decide,fun FF hFF=>?_⟩
 have s6:=same_new hFF (.lst [])
 have eF:upd H5 FF (.lst []) FF=some (.lst []):=upd_same
 generalize upd H5 FF (.lst [])=H6 at s6 eF ⊢
 have nF4:Ht FF=none:=s5.free hFF
 have NF:NN≠FF:=ne_of_none eN hFF
 have eN6:=s6 _ _ eN
 dsimp only[gName]
 refine⟨_,rfl,_,rfl,fun W hW=>?_⟩
 have s7:=same_new hW (.dK [])
 have eW:upd H6 W (.dK []) W=some (.dK []):=upd_same
 generalize upd H6 W (.dK [])=H7 at s7 eW ⊢
 have eN7:=s7 _ _ eN6
 have eF7:=s7 _ _ eF
 have WN:W≠NN:=fun z=>by rw[z,eN6] at hW;cases hW
 have WF:W≠FF:=fun z=>by rw[z,eF] at hW;cases hW
 have s47:Same Ht (mk2 NN FF H7):=same_mk2 (s5.trans (s6.trans s7)) hNN nF4
 refine⟨_,rfl,_,rfl,?_⟩
 refine⟨B,I,W,NN,FF,"",bk,PS,its,(fun _=>none),pd0,[],[],[],bs,is,rfl,NF,eN7,eF7,.nil,s47.seq (SqL.of eBt),bkt.same s47,s47.seq (SqL.of eIt),itt.same s47,⟨[],mk2_at WN WF eW,fun x=>rfl⟩,pok,sml_ground pts gi pb_pd0 (by decide),itok_ground h3 gi,fun _ _=>rfl,by decide,by decide,by decide +kernel,by have:=gi.cl;omega,fun x s z=>(by cases z),fun H8 fs s8 eN8 eF8 hL8=>?_⟩
 rw[fm_fun,List.map_id,lps_nil gnd] at eN8
 rw[fm_fun,List.nil_append] at hL8
 have hL:=hL8.same mk2_same
 have G:=Gt.same ((s47.trans s8).trans mk2_same)
 obtain⟨Y,hY⟩:∃Y:YS,⟨plan PS pd0 its,paOf c PS 2,none⟩=Y:=⟨_,rfl⟩
 rw[hY] at G
 have hls:Y.gr.ls=(plan PS pd0 its).ls:=by rw[← hY]
 have hds:Y.gr.ds=(plan PS pd0 its).ds:=by rw[← hY]
 clear hY
 generalize (plan PS pd0 its).ls=ls at gnd g20 grd glay gne eN8 hL hls
 generalize (plan PS pd0 its).ds=ds at g40 grd hL hds
 have nd:=gnd
 have lus:fs.length=ds.length:=by rw[hL.length,List.length_map]
 have hN:=SqL.of (K:=K) eN8
 have hF:=SqL.of (K:=K) eF8
 dsimp only[gName]
 refine⟨_,rfl,FF,rfl,⟨_,hF⟩,fun D' hD'=>?_⟩
 have sD':=same_new hD' (.lst [])
 refine comp_list (xs:=fs) (fun i zs H'=>Same H8 H'∧H' D'=some (.lst zs)∧Rts K H' zs (ds.take i)) ⟨sD',upd_same,.nil⟩ (fun i zs H' h=>h.2.1) (fun i zs H' _ h=>h.1.seq hF) ?_ ?_
 ·rintro i zs x H6 hx ⟨s06,e6,R6⟩ C hC
  obtain⟨t',z',dd',rfl,hdd,hT,fz⟩:=hL.at hx
  rw[List.getElem?_map] at hdd
  obtain⟨⟨k,u,v,p'⟩,hd,rfl⟩:=Option.map_eq_some_iff.mp hdd
  have hi:=(List.getElem?_eq_some_iff.mp hd).1
  obtain⟨u0,ul,v0,vl,_⟩:=grd _ (List.mem_of_getElem? hd)
  have u0:0≤u:=u0
  have v0:0≤v:=v0
  have ul:u < (ls.length:Int):=ul
  have vl:v < (ls.length:Int):=vl
  have lu:u.toNat < ls.length:=by omega
  have lv:v.toNat < ls.length:=by omega
  have hu1:ls[u.toNat]?=some (ls.getD u.toNat ""):=by rw[getD_of (List.getElem?_eq_getElem lu)];exact List.getElem?_eq_getElem lu
  have hv1:ls[v.toNat]?=some (ls.getD v.toNat ""):=by rw[getD_of (List.getElem?_eq_getElem lv)];exact List.getElem?_eq_getElem lv
  have hT:SqT K H8 t' [.str k.wd,.str (ls.getD u.toNat ""),.str (ls.getD v.toNat ""),.ref z']:=hT
  have fz:Fq K H8 z' p':=fz
  have hN7:=s06.seq hN
  have lz:=R6.length
  refine⟨t',_,rfl,s06.seqT hT,rfl,_,_,rfl,_,_,rfl,_,_,rfl,_,_,rfl,rfl,keep4.1,keep4.2,iteT ?_⟩
  refine⟨_,rfl,_,rfl,.inl ⟨rfl,_,hN7⟩,_,rfl,NN,ls,_,u.toNat,rfl,rfl,hN7,hu1,nd_at nd hu1,by omega,_,rfl,.inl ⟨rfl,_,hN7⟩,_,rfl,NN,ls,_,v.toNat,rfl,rfl,hN7,hv1,nd_at nd hv1,by omega,_,rfl,by show 4≤sizeLine;decide,fun w' hw'=>?_⟩
  rw[show ((u.toNat:Nat):Int)=u by omega,show ((v.toNat:Nat):Int)=v by omega]
  have s7:=same_new hw' (.tup [.str k.wd,.int u,.int v,.ref z'])
  have e7:SqT K (upd H6 w' (.tup [.str k.wd,.int u,.int v,.ref z'])) w' [.str k.wd,.int u,.int v,.ref z']:=SqT.of upd_same
  generalize upd H6 w' (.tup [.str k.wd,.int u,.int v,.ref z'])=H7' at s7 e7 ⊢
  refine⟨s7 _ _ e6,small1000 (by rw[lz,List.length_take];omega),hC _ _ ⟨(s06.trans s7).change hD',upd_same,?_⟩⟩
  rw[List.take_add_one,hd]
  exact Rts.upd (s7 _ _ e6) ((R6.same s7).app (.cons e7 ((s06.trans s7).fq fz) .nil))
 rintro zs H6' ⟨s06,e6,R6⟩
 rw[lus,List.take_length] at R6
 have G6:=G.same s06
 obtain⟨dy2,gf,of,qf,kvsf,hy6,_⟩:=id G6
 dsimp only[gName]
 refine⟨_,rfl,y,dy2,_,rfl,hy6,(by with_unfolding_all rfl),av,y,d,Y,rfl,G6,fun r H7' s7' nr e1=>?_⟩
 rw[hls] at e1
 have dd:=strs_depth ls
 have s07:=s06.trans s7'
 refine⟨_,rfl,rd_eqS (d:=.list (ls.map .str)) (.lst (SqL.of e1) (strs_dat ls)) (.lst (s07.seq hN) (strs_dat ls)) (strs_lay glay) (by simp only[PyData.depth];omega) ⟨_,rfl,iteT ?_⟩⟩
 have G7:=G.same s07
 obtain⟨dy3,gf3,of3,qf3,kvsf3,hy7,_⟩:=id G7
 refine⟨_,rfl,y,dy3,_,rfl,hy7,(by with_unfolding_all rfl),av,y,d,Y,rfl,G7,by rw[hls,hds];exact grd,by rw[hls];exact g20,by rw[hds];exact g40,fun z=>absurd (hls.symm.trans z) gne,fun _ n nl H9 s9 nnl N9=>?_⟩
 rw[hls,hds] at N9
 obtain⟨dn,hn⟩:=N9.ob
 have s09:=s07.trans s9
 refine⟨n,dn,_,rfl,hn,nflds_no _ _ (by decide +kernel) (by decide +kernel),n,nl,_,ds,rfl,N9,_,rfl,NN,_,rfl,.inl (s09.seq hN),rfl,_,rfl,L2.ifT (by rw[List.length_map];exact decide_eq_true rfl) ?_⟩
 have G9:=G.same s09
 obtain⟨dy4,gf4,of4,qf4,kvsf4,hy9,_⟩:=id G9
 refine⟨_,rfl,y,dy4,_,rfl,hy9,(by with_unfolding_all rfl),av,y,d,Y,rfl,G9,by rw[hls,hds];exact grd,by rw[hls];exact g20,by rw[hds];exact g40,fun z=>absurd (hls.symm.trans z) gne,fun _ n2 nl2 Hz' sz' nnl2 N8=>?_⟩
 rw[hls,hds] at N8
 obtain⟨dn2,hn2⟩:=N8.ob
 refine⟨n2,dn2,_,rfl,hn2,nflds_no _ _ (by decide +kernel) (by decide +kernel),n2,nl2,_,ds,rfl,N8,fun a' ts Hy' sy' na ey' R9=>⟨_,rfl,?_⟩⟩
 exact rd_eqR (SqL.of ey') (SqL.of ((s7'.trans (s9.trans (sz'.trans sy'))) _ _ e6)) R9 (R6.same (s7'.trans (s9.trans (sz'.trans sy')))) (q Hy')
end
end K84
namespace L2
open PySem PySem.W
theorem walkX_of {q:Program}{loose:List Str}{XP:(Str→Option Value)→Heap→Prop}{K:Params→PySem.W.Frag}{bs:List Addr}{n t:Nat}{r:RowW}{d:DefRec}{kwd:List (Str × Expr)}{run:Value→List Value→Sem Value}(e:∀P,bs=(K P).map (·.1))(h:WalkO q loose XP (fun w h=>(K w.params).In h) r d kwd run):WalkX q loose XP (PySem.W.X.obsZ bs) (PySem.W.X.valZ K n t) r d kwd run:=
 fun w s₀ s₁ mg mb G y a o pm cd doc dV kV h1 h2 h3 h4 h5 h6 args vals as' L=>h w s₀ s₁ mg mb G (InK.keeps w _ _ (PySem.W.X.z_facts e y).2.1 L.keeps) a o pm cd doc dV kV h1 h2 h3 h4 h5 h6 args vals as'
end L2
namespace K84
open PySem L2
def ek4 (a b c d:Addr):Ek→Addr
 | .r=>a
 | .m=>b
 | .u=>c
 | .z=>d
theorem all_mk {l:PySem.W.OpenLaw}{w:World}{K:PySem.W.Frag}{h:Heap}{mg:Str→Option Value}{fa:Addr}(X:K.In h)(G:h.Ns mainGlobals mg)(hfa:mg "law"=some (.ref fa)){c_OhmError:Addr}{c_NoRow:Addr}{c_NoName:Addr}{c_NoNumber:Addr}{c_NoSize:Addr}{c_NoPoint:Addr}{c_TooMany:Addr}{c_Row:Addr}{c_Piece:Addr}{c_Push:Addr}{c_Hold:Addr}{c_Net:Addr}{c_Plan:Addr}{c_Yard:Addr}{f1:Addr}{od1 an1:Option Addr}{sl1:Array (Option Value)}{oc1 kV1 dc1 pm1 cd1 ct1:Value}{f2:Addr}{od2 an2:Option Addr}{sl2:Array (Option Value)}{oc2 kV2 dc2 pm2 cd2 ct2:Value}{f3:Addr}{od3 an3:Option Addr}{sl3:Array (Option Value)}{oc3 kV3 dc3 pm3 cd3 ct3:Value}{f4:Addr}{od4 an4:Option Addr}{sl4:Array (Option Value)}{oc4 kV4 dc4 pm4 cd4 ct4:Value}{T4:Addr}{oT4:Value}{dT4:Option Addr}{nT4:Nat}{sT4:Array (Option Value)}{tk4:Tok}{f5:Addr}{od5 an5:Option Addr}{sl5:Array (Option Value)}{oc5 kV5 dc5 pm5 cd5 ct5:Value}{f6:Addr}{od6 an6:Option Addr}{sl6:Array (Option Value)}{oc6 kV6 dc6 pm6 cd6 ct6:Value}{f7:Addr}{od7 an7:Option Addr}{sl7:Array (Option Value)}{oc7 kV7 dc7 pm7 cd7 ct7:Value}{f8:Addr}{od8 an8:Option Addr}{sl8:Array (Option Value)}{oc8 kV8 dc8 pm8 cd8 ct8:Value}{f9:Addr}{od9 an9:Option Addr}{sl9:Array (Option Value)}{oc9 kV9 dc9 pm9 cd9 ct9:Value}{f10:Addr}{od10 an10:Option Addr}{sl10:Array (Option Value)}{oc10 kV10 dc10 pm10 cd10 ct10:Value}{f11:Addr}{od11 an11:Option Addr}{sl11:Array (Option Value)}{oc11 kV11 dc11 pm11 cd11 ct11:Value}{f12:Addr}{od12 an12:Option Addr}{sl12:Array (Option Value)}{oc12 kV12 dc12 pm12 cd12 ct12:Value}{f13:Addr}{od13 an13:Option Addr}{sl13:Array (Option Value)}{oc13 kV13 dc13 pm13 cd13 ct13:Value}{f14:Addr}{od14 an14:Option Addr}{sl14:Array (Option Value)}{oc14 kV14 dc14 pm14 cd14 ct14:Value}{f15:Addr}{od15 an15:Option Addr}{sl15:Array (Option Value)}{oc15 kV15 dc15 pm15 cd15 ct15:Value}{f16:Addr}{od16 an16:Option Addr}{sl16:Array (Option Value)}{oc16 kV16 dc16 pm16 cd16 ct16:Value}{f17:Addr}{od17 an17:Option Addr}{sl17:Array (Option Value)}{oc17 kV17 dc17 pm17 cd17 ct17:Value}{f18:Addr}{od18 an18:Option Addr}{sl18:Array (Option Value)}{oc18 kV18 dc18 pm18 cd18 ct18:Value}{f19:Addr}{od19 an19:Option Addr}{sl19:Array (Option Value)}{oc19 kV19 dc19 pm19 cd19 ct19:Value}{f20:Addr}{od20 an20:Option Addr}{sl20:Array (Option Value)}{oc20 kV20 dc20 pm20 cd20 ct20:Value}{f21:Addr}{od21 an21:Option Addr}{sl21:Array (Option Value)}{oc21 kV21 dc21 pm21 cd21 ct21:Value}{f22:Addr}{od22 an22:Option Addr}{sl22:Array (Option Value)}{oc22 kV22 dc22 pm22 cd22 ct22:Value}{f23:Addr}{od23 an23:Option Addr}{sl23:Array (Option Value)}{oc23 kV23 dc23 pm23 cd23 ct23:Value}{f24:Addr}{od24 an24:Option Addr}{sl24:Array (Option Value)}{oc24 kV24 dc24 pm24 cd24 ct24:Value}{f25:Addr}{od25 an25:Option Addr}{sl25:Array (Option Value)}{oc25 kV25 dc25 pm25 cd25 ct25:Value}{f26:Addr}{od26 an26:Option Addr}{sl26:Array (Option Value)}{oc26 kV26 dc26 pm26 cd26 ct26:Value}{f27:Addr}{od27 an27:Option Addr}{sl27:Array (Option Value)}{oc27 kV27 dc27 pm27 cd27 ct27:Value}{f28:Addr}{od28 an28:Option Addr}{sl28:Array (Option Value)}{oc28 kV28 dc28 pm28 cd28 ct28:Value}{f29:Addr}{od29 an29:Option Addr}{sl29:Array (Option Value)}{oc29 kV29 dc29 pm29 cd29 ct29:Value}{f30:Addr}{od30 an30:Option Addr}{sl30:Array (Option Value)}{oc30 kV30 dc30 pm30 cd30 ct30:Value}{f31:Addr}{od31 an31:Option Addr}{sl31:Array (Option Value)}{oc31 kV31 dc31 pm31 cd31 ct31:Value}{f32:Addr}{od32 an32:Option Addr}{sl32:Array (Option Value)}{oc32 kV32 dc32 pm32 cd32 ct32:Value}{f33:Addr}{od33 an33:Option Addr}{sl33:Array (Option Value)}{oc33 kV33 dc33 pm33 cd33 ct33:Value}{f34:Addr}{od34 an34:Option Addr}{sl34:Array (Option Value)}{oc34 kV34 dc34 pm34 cd34 ct34:Value}{f35:Addr}{od35 an35:Option Addr}{sl35:Array (Option Value)}{oc35 kV35 dc35 pm35 cd35 ct35:Value}{f36:Addr}{od36 an36:Option Addr}{sl36:Array (Option Value)}{oc36 kV36 dc36 pm36 cd36 ct36:Value}{f37:Addr}{od37 an37:Option Addr}{sl37:Array (Option Value)}{oc37 kV37 dc37 pm37 cd37 ct37:Value}{f38:Addr}{od38 an38:Option Addr}{sl38:Array (Option Value)}{oc38 kV38 dc38 pm38 cd38 ct38:Value}{f39:Addr}{od39 an39:Option Addr}{sl39:Array (Option Value)}{oc39 kV39 dc39 pm39 cd39 ct39:Value}{f40:Addr}{od40 an40:Option Addr}{sl40:Array (Option Value)}{oc40 kV40 dc40 pm40 cd40 ct40:Value}{f41:Addr}{od41 an41:Option Addr}{sl41:Array (Option Value)}{oc41 kV41 dc41 pm41 cd41 ct41:Value}{f42:Addr}{od42 an42:Option Addr}{sl42:Array (Option Value)}{oc42 kV42 dc42 pm42 cd42 ct42:Value}{f43:Addr}{od43 an43:Option Addr}{sl43:Array (Option Value)}{oc43 kV43 dc43 pm43 cd43 ct43:Value}{f44:Addr}{od44 an44:Option Addr}{sl44:Array (Option Value)}{oc44 kV44 dc44 pm44 cd44 ct44:Value}{f45:Addr}{od45 an45:Option Addr}{sl45:Array (Option Value)}{oc45 kV45 dc45 pm45 cd45 ct45:Value}{f46:Addr}{od46 an46:Option Addr}{sl46:Array (Option Value)}{oc46 kV46 dc46 pm46 cd46 ct46:Value}{f47:Addr}{od47 an47:Option Addr}{sl47:Array (Option Value)}{oc47 kV47 dc47 pm47 cd47 ct47:Value}{f48:Addr}{od48 an48:Option Addr}{sl48:Array (Option Value)}{oc48 kV48 dc48 pm48 cd48 ct48:Value}{f49:Addr}{od49 an49:Option Addr}{sl49:Array (Option Value)}{oc49 kV49 dc49 pm49 cd49 ct49:Value}{f50:Addr}{od50 an50:Option Addr}{sl50:Array (Option Value)}{oc50 kV50 dc50 pm50 cd50 ct50:Value}{f51:Addr}{od51 an51:Option Addr}{sl51:Array (Option Value)}{oc51 kV51 dc51 pm51 cd51 ct51:Value}{f52:Addr}{od52 an52:Option Addr}{sl52:Array (Option Value)}{oc52 kV52 dc52 pm52 cd52 ct52:Value}{f53:Addr}{od53 an53:Option Addr}{sl53:Array (Option Value)}{oc53 kV53 dc53 pm53 cd53 ct53:Value}{f54:Addr}{od54 an54:Option Addr}{sl54:Array (Option Value)}{oc54 kV54 dc54 pm54 cd54 ct54:Value}{f55:Addr}{od55 an55:Option Addr}{sl55:Array (Option Value)}{oc55 kV55 dc55 pm55 cd55 ct55:Value}{f56:Addr}{od56 an56:Option Addr}{sl56:Array (Option Value)}{oc56 kV56 dc56 pm56 cd56 ct56:Value}{f57:Addr}{od57 an57:Option Addr}{sl57:Array (Option Value)}{oc57 kV57 dc57 pm57 cd57 ct57:Value}{f58:Addr}{od58 an58:Option Addr}{sl58:Array (Option Value)}{oc58 kV58 dc58 pm58 cd58 ct58:Value}{f59:Addr}{od59 an59:Option Addr}{sl59:Array (Option Value)}{oc59 kV59 dc59 pm59 cd59 ct59:Value}{f60:Addr}{od60 an60:Option Addr}{sl60:Array (Option Value)}{oc60 kV60 dc60 pm60 cd60 ct60:Value}{f61:Addr}{od61 an61:Option Addr}{sl61:Array (Option Value)}{oc61 kV61 dc61 pm61 cd61 ct61:Value}{aN:Addr}{dN:Option Addr}{nN:Nat}{sN:Array (Option Value)}{t0 t1:Tok}{aW:Addr}{dW:Option Addr}{nW:Nat}{sW:Array (Option Value)}{w0 w1 w2:Tok}{tM:Tok}{tR:Tok}{tF:Tok}{tG:Tok}{tL:Tok}{tE:Tok}{tP:Tok}(y_OhmError:PySem.W.nsIn K mainGlobals "OhmError"=some (some (.ref c_OhmError)))(y_NoRow:PySem.W.nsIn K mainGlobals "NoRow"=some (some (.ref c_NoRow)))(y_NoName:PySem.W.nsIn K mainGlobals "NoName"=some (some (.ref c_NoName)))(y_NoNumber:PySem.W.nsIn K mainGlobals "NoNumber"=some (some (.ref c_NoNumber)))(y_NoSize:PySem.W.nsIn K mainGlobals "NoSize"=some (some (.ref c_NoSize)))(y_NoPoint:PySem.W.nsIn K mainGlobals "NoPoint"=some (some (.ref c_NoPoint)))(y_TooMany:PySem.W.nsIn K mainGlobals "TooMany"=some (some (.ref c_TooMany)))(y_Row:PySem.W.nsIn K mainGlobals "Row"=some (some (.ref c_Row)))(y_Piece:PySem.W.nsIn K mainGlobals "Piece"=some (some (.ref c_Piece)))(y_Push:PySem.W.nsIn K mainGlobals "Push"=some (some (.ref c_Push)))(y_Hold:PySem.W.nsIn K mainGlobals "Hold"=some (some (.ref c_Hold)))(y_Net:PySem.W.nsIn K mainGlobals "Net"=some (some (.ref c_Net)))(y_Plan:PySem.W.nsIn K mainGlobals "Plan"=some (some (.ref c_Plan)))(y_Yard:PySem.W.nsIn K mainGlobals "Yard"=some (some (.ref c_Yard)))(a1:PySem.W.nsIn K mainGlobals "is_whole"=some (some (.ref f1)))(l1:K.lookup f1=some ⟨oc1,od1,.func (PySem.W.fnOf "is_whole" "is_whole" (defArgs sWhole) (defBody sWhole) (defScope sWhole) .none kV1 dc1 pm1 an1 cd1 ct1),sl1⟩)(c1:PySem.W.codeIn K cd1 "is_whole"=true)(k1:PySem.W.keepIn K (.ref f1)=true)(a2:PySem.W.nsIn K mainGlobals "greatest_common"=some (some (.ref f2)))(l2:K.lookup f2=some ⟨oc2,od2,.func (PySem.W.fnOf "greatest_common" "greatest_common" (defArgs sGc) (defBody sGc) (defScope sGc) .none kV2 dc2 pm2 an2 cd2 ct2),sl2⟩)(c2:PySem.W.codeIn K cd2 "greatest_common"=true)(k2:PySem.W.keepIn K (.ref f2)=true)(a3:PySem.W.nsIn K mainGlobals "under"=some (some (.ref f3)))(l3:K.lookup f3=some ⟨oc3,od3,.func (PySem.W.fnOf "under" "under" (defArgs sUnder) (defBody sUnder) (defScope sUnder) .none kV3 dc3 pm3 an3 cd3 ct3),sl3⟩)(c3:PySem.W.codeIn K cd3 "under"=true)(k3:PySem.W.keepIn K (.ref f3)=true)(a4:PySem.W.nsIn K mainGlobals "fraction"=some (some (.ref f4)))(l4:K.lookup f4=some ⟨oc4,od4,.func (PySem.W.fnOf "fraction" "fraction" (defArgs sFrac) (defBody sFrac) (defScope sFrac) (.ref T4) kV4 dc4 pm4 an4 cd4 ct4),sl4⟩)(c4:PySem.W.codeIn K cd4 "fraction"=true)(k4:PySem.W.keepIn K (.ref f4)=true)(lt4:K.lookup T4=some ⟨oT4,dT4,.seq #[.int 1 tk4] nT4,sT4⟩)(a5:PySem.W.nsIn K mainGlobals "show"=some (some (.ref f5)))(l5:K.lookup f5=some ⟨oc5,od5,.func (PySem.W.fnOf "show" "show" (defArgs sShow) (defBody sShow) (defScope sShow) .none kV5 dc5 pm5 an5 cd5 ct5),sl5⟩)(c5:PySem.W.codeIn K cd5 "show"=true)(k5:PySem.W.keepIn K (.ref f5)=true)(a6:PySem.W.nsIn K mainGlobals "without_sign"=some (some (.ref f6)))(l6:K.lookup f6=some ⟨oc6,od6,.func (PySem.W.fnOf "without_sign" "without_sign" (defArgs sNosign) (defBody sNosign) (defScope sNosign) .none kV6 dc6 pm6 an6 cd6 ct6),sl6⟩)(c6:PySem.W.codeIn K cd6 "without_sign"=true)(k6:PySem.W.keepIn K (.ref f6)=true)(a7:PySem.W.nsIn K mainGlobals "are_figures"=some (some (.ref f7)))(l7:K.lookup f7=some ⟨oc7,od7,.func (PySem.W.fnOf "are_figures" "are_figures" (defArgs sFigs) (defBody sFigs) (defScope sFigs) .none kV7 dc7 pm7 an7 cd7 ct7),sl7⟩)(c7:PySem.W.codeIn K cd7 "are_figures"=true)(k7:PySem.W.keepIn K (.ref f7)=true)(a8:PySem.W.nsIn K mainGlobals "read"=some (some (.ref f8)))(l8:K.lookup f8=some ⟨oc8,od8,.func (PySem.W.fnOf "read" "read" (defArgs sRead) (defBody sRead) (defScope sRead) .none kV8 dc8 pm8 an8 cd8 ct8),sl8⟩)(c8:PySem.W.codeIn K cd8 "read"=true)(k8:PySem.W.keepIn K (.ref f8)=true)(a9:PySem.W.nsIn K mainGlobals "is_fraction"=some (some (.ref f9)))(l9:K.lookup f9=some ⟨oc9,od9,.func (PySem.W.fnOf "is_fraction" "is_fraction" (defArgs sIsF) (defBody sIsF) (defScope sIsF) .none kV9 dc9 pm9 an9 cd9 ct9),sl9⟩)(c9:PySem.W.codeIn K cd9 "is_fraction"=true)(k9:PySem.W.keepIn K (.ref f9)=true)(a10_0:PySem.W.findIn K (.ref c_Piece) "__init__"=some (some (.ref f10)))(a10_1:PySem.W.findIn K (.ref c_Push) "__init__"=some (some (.ref f10)))(a10_2:PySem.W.findIn K (.ref c_Hold) "__init__"=some (some (.ref f10)))(i10:PySem.W.isFn K (.ref f10)=true)(l10:K.lookup f10=some ⟨oc10,od10,.func (PySem.W.fnOf "__init__" "Row.__init__" (defArgs sRInit) (defBody sRInit) (defScope sRInit) .none kV10 dc10 pm10 an10 cd10 ct10),sl10⟩)(c10:PySem.W.codeIn K cd10 "Row.__init__"=true)(k10:PySem.W.keepIn K (.ref f10)=true)(a11_0:PySem.W.findIn K (.ref c_Piece) "word"=some (some (.ref f11)))(i11:PySem.W.isFn K (.ref f11)=true)(l11:K.lookup f11=some ⟨oc11,od11,.func (PySem.W.fnOf "word" "Piece.word" (defArgs sWord_pc) (defBody sWord_pc) (defScope sWord_pc) .none kV11 dc11 pm11 an11 cd11 ct11),sl11⟩)(c11:PySem.W.codeIn K cd11 "Piece.word"=true)(k11:PySem.W.keepIn K (.ref f11)=true)(a12_0:PySem.W.findIn K (.ref c_Push) "word"=some (some (.ref f12)))(i12:PySem.W.isFn K (.ref f12)=true)(l12:K.lookup f12=some ⟨oc12,od12,.func (PySem.W.fnOf "word" "Push.word" (defArgs sWord_pu) (defBody sWord_pu) (defScope sWord_pu) .none kV12 dc12 pm12 an12 cd12 ct12),sl12⟩)(c12:PySem.W.codeIn K cd12 "Push.word"=true)(k12:PySem.W.keepIn K (.ref f12)=true)(a13_0:PySem.W.findIn K (.ref c_Hold) "word"=some (some (.ref f13)))(i13:PySem.W.isFn K (.ref f13)=true)(l13:K.lookup f13=some ⟨oc13,od13,.func (PySem.W.fnOf "word" "Hold.word" (defArgs sWord_ho) (defBody sWord_ho) (defScope sWord_ho) .none kV13 dc13 pm13 an13 cd13 ct13),sl13⟩)(c13:PySem.W.codeIn K cd13 "Hold.word"=true)(k13:PySem.W.keepIn K (.ref f13)=true)(a14_0:PySem.W.findIn K (.ref c_Piece) "told"=some (some (.ref f14)))(a14_1:PySem.W.findIn K (.ref c_Push) "told"=some (some (.ref f14)))(a14_2:PySem.W.findIn K (.ref c_Hold) "told"=some (some (.ref f14)))(i14:PySem.W.isFn K (.ref f14)=true)(l14:K.lookup f14=some ⟨oc14,od14,.func (PySem.W.fnOf "told" "Row.told" (defArgs sRTold) (defBody sRTold) (defScope sRTold) .none kV14 dc14 pm14 an14 cd14 ct14),sl14⟩)(c14:PySem.W.codeIn K cd14 "Row.told"=true)(k14:PySem.W.keepIn K (.ref f14)=true)(a15:PySem.W.nsIn K mainGlobals "row_of"=some (some (.ref f15)))(l15:K.lookup f15=some ⟨oc15,od15,.func (PySem.W.fnOf "row_of" "row_of" (defArgs sRowOf) (defBody sRowOf) (defScope sRowOf) .none kV15 dc15 pm15 an15 cd15 ct15),sl15⟩)(c15:PySem.W.codeIn K cd15 "row_of"=true)(k15:PySem.W.keepIn K (.ref f15)=true)(a16_0:PySem.W.findIn K (.ref c_Piece) "at"=some (some (.ref f16)))(a16_1:PySem.W.findIn K (.ref c_Push) "at"=some (some (.ref f16)))(a16_2:PySem.W.findIn K (.ref c_Hold) "at"=some (some (.ref f16)))(i16:PySem.W.isFn K (.ref f16)=true)(l16:K.lookup f16=some ⟨oc16,od16,.func (PySem.W.fnOf "at" "Row.at" (defArgs sRAt) (defBody sRAt) (defScope sRAt) .none kV16 dc16 pm16 an16 cd16 ct16),sl16⟩)(c16:PySem.W.codeIn K cd16 "Row.at"=true)(k16:PySem.W.keepIn K (.ref f16)=true)(a17:PySem.W.nsIn K mainGlobals "is_piece_size"=some (some (.ref f17)))(l17:K.lookup f17=some ⟨oc17,od17,.func (PySem.W.fnOf "is_piece_size" "is_piece_size" (defArgs sPS) (defBody sPS) (defScope sPS) .none kV17 dc17 pm17 an17 cd17 ct17),sl17⟩)(c17:PySem.W.codeIn K cd17 "is_piece_size"=true)(k17:PySem.W.keepIn K (.ref f17)=true)(a18:PySem.W.nsIn K mainGlobals "is_number_below"=some (some (.ref f18)))(l18:K.lookup f18=some ⟨oc18,od18,.func (PySem.W.fnOf "is_number_below" "is_number_below" (defArgs sNB) (defBody sNB) (defScope sNB) .none kV18 dc18 pm18 an18 cd18 ct18),sl18⟩)(c18:PySem.W.codeIn K cd18 "is_number_below"=true)(k18:PySem.W.keepIn K (.ref f18)=true)(a19:PySem.W.nsIn K mainGlobals "refuse_size"=some (some (.ref f19)))(l19:K.lookup f19=some ⟨oc19,od19,.func (PySem.W.fnOf "refuse_size" "refuse_size" (defArgs sRS) (defBody sRS) (defScope sRS) .none kV19 dc19 pm19 an19 cd19 ct19),sl19⟩)(c19:PySem.W.codeIn K cd19 "refuse_size"=true)(k19:PySem.W.keepIn K (.ref f19)=true)(a20:PySem.W.nsIn K mainGlobals "refuse_points"=some (some (.ref f20)))(l20:K.lookup f20=some ⟨oc20,od20,.func (PySem.W.fnOf "refuse_points" "refuse_points" (defArgs sRP) (defBody sRP) (defScope sRP) .none kV20 dc20 pm20 an20 cd20 ct20),sl20⟩)(c20:PySem.W.codeIn K cd20 "refuse_points"=true)(k20:PySem.W.keepIn K (.ref f20)=true)(a21_0:PySem.W.findIn K (.ref c_Net) "__init__"=some (some (.ref f21)))(i21:PySem.W.isFn K (.ref f21)=true)(l21:K.lookup f21=some ⟨oc21,od21,.func (PySem.W.fnOf "__init__" "Net.__init__" (defArgs sNInit) (defBody sNInit) (defScope sNInit) .none kV21 dc21 pm21 an21 cd21 ct21),sl21⟩)(c21:PySem.W.codeIn K cd21 "Net.__init__"=true)(k21:PySem.W.keepIn K (.ref f21)=true)(a22_0:PySem.W.findIn K (.ref c_Net) "add"=some (some (.ref f22)))(i22:PySem.W.isFn K (.ref f22)=true)(l22:K.lookup f22=some ⟨oc22,od22,.func (PySem.W.fnOf "add" "Net.add" (defArgs sAdd) (defBody sAdd) (defScope sAdd) .none kV22 dc22 pm22 an22 cd22 ct22),sl22⟩)(c22:PySem.W.codeIn K cd22 "Net.add"=true)(k22:PySem.W.keepIn K (.ref f22)=true)(a23_0:PySem.W.findIn K (.ref c_Net) "many"=some (some (.ref f23)))(i23:PySem.W.isFn K (.ref f23)=true)(l23:K.lookup f23=some ⟨oc23,od23,.func (PySem.W.fnOf "many" "Net.many" (defArgs sMany) (defBody sMany) (defScope sMany) .none kV23 dc23 pm23 an23 cd23 ct23),sl23⟩)(c23:PySem.W.codeIn K cd23 "Net.many"=true)(k23:PySem.W.keepIn K (.ref f23)=true)(a24_0:PySem.W.findIn K (.ref c_Net) "told"=some (some (.ref f24)))(i24:PySem.W.isFn K (.ref f24)=true)(l24:K.lookup f24=some ⟨oc24,od24,.func (PySem.W.fnOf "told" "Net.told" (defArgs sNTold) (defBody sNTold) (defScope sNTold) .none kV24 dc24 pm24 an24 cd24 ct24),sl24⟩)(c24:PySem.W.codeIn K cd24 "Net.told"=true)(k24:PySem.W.keepIn K (.ref f24)=true)(a25:PySem.W.nsIn K mainGlobals "is_name"=some (some (.ref f25)))(l25:K.lookup f25=some ⟨oc25,od25,.func (PySem.W.fnOf "is_name" "is_name" (defArgs sName) (defBody sName) (defScope sName) .none kV25 dc25 pm25 an25 cd25 ct25),sl25⟩)(c25:PySem.W.codeIn K cd25 "is_name"=true)(k25:PySem.W.keepIn K (.ref f25)=true)(a26:PySem.W.nsIn K mainGlobals "refuse_names"=some (some (.ref f26)))(l26:K.lookup f26=some ⟨oc26,od26,.func (PySem.W.fnOf "refuse_names" "refuse_names" (defArgs sRNames) (defBody sRNames) (defScope sRNames) .none kV26 dc26 pm26 an26 cd26 ct26),sl26⟩)(c26:PySem.W.codeIn K cd26 "refuse_names"=true)(k26:PySem.W.keepIn K (.ref f26)=true)(a27:PySem.W.nsIn K mainGlobals "words_of"=some (some (.ref f27)))(l27:K.lookup f27=some ⟨oc27,od27,.func (PySem.W.fnOf "words_of" "words_of" (defArgs sWords) (defBody sWords) (defScope sWords) .none kV27 dc27 pm27 an27 cd27 ct27),sl27⟩)(c27:PySem.W.codeIn K cd27 "words_of"=true)(k27:PySem.W.keepIn K (.ref f27)=true)(a28:PySem.W.nsIn K mainGlobals "has_form"=some (some (.ref f28)))(l28:K.lookup f28=some ⟨oc28,od28,.func (PySem.W.fnOf "has_form" "has_form" (defArgs sForm) (defBody sForm) (defScope sForm) .none kV28 dc28 pm28 an28 cd28 ct28),sl28⟩)(c28:PySem.W.codeIn K cd28 "has_form"=true)(k28:PySem.W.keepIn K (.ref f28)=true)(a29:PySem.W.nsIn K mainGlobals "refuse_form"=some (some (.ref f29)))(l29:K.lookup f29=some ⟨oc29,od29,.func (PySem.W.fnOf "refuse_form" "refuse_form" (defArgs sRForm) (defBody sRForm) (defScope sRForm) .none kV29 dc29 pm29 an29 cd29 ct29),sl29⟩)(c29:PySem.W.codeIn K cd29 "refuse_form"=true)(k29:PySem.W.keepIn K (.ref f29)=true)(a30_0:PySem.W.findIn K (.ref c_Plan) "__init__"=some (some (.ref f30)))(i30:PySem.W.isFn K (.ref f30)=true)(l30:K.lookup f30=some ⟨oc30,od30,.func (PySem.W.fnOf "__init__" "Plan.__init__" (defArgs sPInit) (defBody sPInit) (defScope sPInit) .none kV30 dc30 pm30 an30 cd30 ct30),sl30⟩)(c30:PySem.W.codeIn K cd30 "Plan.__init__"=true)(k30:PySem.W.keepIn K (.ref f30)=true)(a31_0:PySem.W.findIn K (.ref c_Plan) "copy"=some (some (.ref f31)))(i31:PySem.W.isFn K (.ref f31)=true)(l31:K.lookup f31=some ⟨oc31,od31,.func (PySem.W.fnOf "copy" "Plan.copy" (defArgs sPCopy) (defBody sPCopy) (defScope sPCopy) .none kV31 dc31 pm31 an31 cd31 ct31),sl31⟩)(c31:PySem.W.codeIn K cd31 "Plan.copy"=true)(k31:PySem.W.keepIn K (.ref f31)=true)(a32_0:PySem.W.findIn K (.ref c_Plan) "place_of"=some (some (.ref f32)))(i32:PySem.W.isFn K (.ref f32)=true)(l32:K.lookup f32=some ⟨oc32,od32,.func (PySem.W.fnOf "place_of" "Plan.place_of" (defArgs sPlace) (defBody sPlace) (defScope sPlace) .none kV32 dc32 pm32 an32 cd32 ct32),sl32⟩)(c32:PySem.W.codeIn K cd32 "Plan.place_of"=true)(k32:PySem.W.keepIn K (.ref f32)=true)(a33_0:PySem.W.findIn K (.ref c_Plan) "enter"=some (some (.ref f33)))(i33:PySem.W.isFn K (.ref f33)=true)(l33:K.lookup f33=some ⟨oc33,od33,.func (PySem.W.fnOf "enter" "Plan.enter" (defArgs sEnter) (defBody sEnter) (defScope sEnter) .none kV33 dc33 pm33 an33 cd33 ct33),sl33⟩)(c33:PySem.W.codeIn K cd33 "Plan.enter"=true)(k33:PySem.W.keepIn K (.ref f33)=true)(a34_0:PySem.W.findIn K (.ref c_Plan) "put_in"=some (some (.ref f34)))(i34:PySem.W.isFn K (.ref f34)=true)(l34:K.lookup f34=some ⟨oc34,od34,.func (PySem.W.fnOf "put_in" "Plan.put_in" (defArgs sPut) (defBody sPut) (defScope sPut) .none kV34 dc34 pm34 an34 cd34 ct34),sl34⟩)(c34:PySem.W.codeIn K cd34 "Plan.put_in"=true)(k34:PySem.W.keepIn K (.ref f34)=true)(a35_0:PySem.W.findIn K (.ref c_Plan) "is_overfull"=some (some (.ref f35)))(i35:PySem.W.isFn K (.ref f35)=true)(l35:K.lookup f35=some ⟨oc35,od35,.func (PySem.W.fnOf "is_overfull" "Plan.is_overfull" (defArgs sOver) (defBody sOver) (defScope sOver) .none kV35 dc35 pm35 an35 cd35 ct35),sl35⟩)(c35:PySem.W.codeIn K cd35 "Plan.is_overfull"=true)(k35:PySem.W.keepIn K (.ref f35)=true)(a36_0:PySem.W.findIn K (.ref c_Plan) "net"=some (some (.ref f36)))(i36:PySem.W.isFn K (.ref f36)=true)(l36:K.lookup f36=some ⟨oc36,od36,.func (PySem.W.fnOf "net" "Plan.net" (defArgs sPNet) (defBody sPNet) (defScope sPNet) .none kV36 dc36 pm36 an36 cd36 ct36),sl36⟩)(c36:PySem.W.codeIn K cd36 "Plan.net"=true)(k36:PySem.W.keepIn K (.ref f36)=true)(a37:PySem.W.nsIn K mainGlobals "refuse_overfull"=some (some (.ref f37)))(l37:K.lookup f37=some ⟨oc37,od37,.func (PySem.W.fnOf "refuse_overfull" "refuse_overfull" (defArgs sROver) (defBody sROver) (defScope sROver) .none kV37 dc37 pm37 an37 cd37 ct37),sl37⟩)(c37:PySem.W.codeIn K cd37 "refuse_overfull"=true)(k37:PySem.W.keepIn K (.ref f37)=true)(a38_0:PySem.W.findIn K (.ref c_Yard) "__init__"=some (some (.ref f38)))(i38:PySem.W.isFn K (.ref f38)=true)(l38:K.lookup f38=some ⟨oc38,od38,.func (PySem.W.fnOf "__init__" "Yard.__init__" (defArgs sYInit) (defBody sYInit) (defScope sYInit) .none kV38 dc38 pm38 an38 cd38 ct38),sl38⟩)(c38:PySem.W.codeIn K cd38 "Yard.__init__"=true)(k38:PySem.W.keepIn K (.ref f38)=true)(a39_0:PySem.W.findIn K (.ref c_Yard) "copy_of_told"=some (some (.ref f39)))(i39:PySem.W.isFn K (.ref f39)=true)(l39:K.lookup f39=some ⟨oc39,od39,.func (PySem.W.fnOf "copy_of_told" "Yard.copy_of_told" (defArgs sCoT) (defBody sCoT) (defScope sCoT) .none kV39 dc39 pm39 an39 cd39 ct39),sl39⟩)(c39:PySem.W.codeIn K cd39 "Yard.copy_of_told"=true)(k39:PySem.W.keepIn K (.ref f39)=true)(a40_0:PySem.W.findIn K (.ref c_Yard) "keep"=some (some (.ref f40)))(i40:PySem.W.isFn K (.ref f40)=true)(l40:K.lookup f40=some ⟨oc40,od40,.func (PySem.W.fnOf "keep" "Yard.keep" (defArgs sKeep) (defBody sKeep) (defScope sKeep) .none kV40 dc40 pm40 an40 cd40 ct40),sl40⟩)(c40:PySem.W.codeIn K cd40 "Yard.keep"=true)(k40:PySem.W.keepIn K (.ref f40)=true)(a41_0:PySem.W.findIn K (.ref c_Yard) "begin_part"=some (some (.ref f41)))(i41:PySem.W.isFn K (.ref f41)=true)(l41:K.lookup f41=some ⟨oc41,od41,.func (PySem.W.fnOf "begin_part" "Yard.begin_part" (defArgs sBeg) (defBody sBeg) (defScope sBeg) .none kV41 dc41 pm41 an41 cd41 ct41),sl41⟩)(c41:PySem.W.codeIn K cd41 "Yard.begin_part"=true)(k41:PySem.W.keepIn K (.ref f41)=true)(a42_0:PySem.W.findIn K (.ref c_Yard) "end_part"=some (some (.ref f42)))(i42:PySem.W.isFn K (.ref f42)=true)(l42:K.lookup f42=some ⟨oc42,od42,.func (PySem.W.fnOf "end_part" "Yard.end_part" (defArgs sEnd) (defBody sEnd) (defScope sEnd) .none kV42 dc42 pm42 an42 cd42 ct42),sl42⟩)(c42:PySem.W.codeIn K cd42 "Yard.end_part"=true)(k42:PySem.W.keepIn K (.ref f42)=true)(a43_0:PySem.W.findIn K (.ref c_Yard) "enter_put"=some (some (.ref f43)))(i43:PySem.W.isFn K (.ref f43)=true)(l43:K.lookup f43=some ⟨oc43,od43,.func (PySem.W.fnOf "enter_put" "Yard.enter_put" (defArgs sEPut) (defBody sEPut) (defScope sEPut) .none kV43 dc43 pm43 an43 cd43 ct43),sl43⟩)(c43:PySem.W.codeIn K cd43 "Yard.enter_put"=true)(k43:PySem.W.keepIn K (.ref f43)=true)(a44_0:PySem.W.findIn K (.ref c_Yard) "enter_row"=some (some (.ref f44)))(i44:PySem.W.isFn K (.ref f44)=true)(l44:K.lookup f44=some ⟨oc44,od44,.func (PySem.W.fnOf "enter_row" "Yard.enter_row" (defArgs sERow) (defBody sERow) (defScope sERow) .none kV44 dc44 pm44 an44 cd44 ct44),sl44⟩)(c44:PySem.W.codeIn K cd44 "Yard.enter_row"=true)(k44:PySem.W.keepIn K (.ref f44)=true)(a45_0:PySem.W.findIn K (.ref c_Yard) "tell"=some (some (.ref f45)))(i45:PySem.W.isFn K (.ref f45)=true)(l45:K.lookup f45=some ⟨oc45,od45,.func (PySem.W.fnOf "tell" "Yard.tell" (defArgs sTell) (defBody sTell) (defScope sTell) .none kV45 dc45 pm45 an45 cd45 ct45),sl45⟩)(c45:PySem.W.codeIn K cd45 "Yard.tell"=true)(k45:PySem.W.keepIn K (.ref f45)=true)(a46_0:PySem.W.findIn K (.ref c_Yard) "names"=some (some (.ref f46)))(i46:PySem.W.isFn K (.ref f46)=true)(l46:K.lookup f46=some ⟨oc46,od46,.func (PySem.W.fnOf "names" "Yard.names" (defArgs sNames) (defBody sNames) (defScope sNames) .none kV46 dc46 pm46 an46 cd46 ct46),sl46⟩)(c46:PySem.W.codeIn K cd46 "Yard.names"=true)(k46:PySem.W.keepIn K (.ref f46)=true)(a47_0:PySem.W.findIn K (.ref c_Yard) "net"=some (some (.ref f47)))(i47:PySem.W.isFn K (.ref f47)=true)(l47:K.lookup f47=some ⟨oc47,od47,.func (PySem.W.fnOf "net" "Yard.net" (defArgs sYNet) (defBody sYNet) (defScope sYNet) .none kV47 dc47 pm47 an47 cd47 ct47),sl47⟩)(c47:PySem.W.codeIn K cd47 "Yard.net"=true)(k47:PySem.W.keepIn K (.ref f47)=true)(a48:PySem.W.nsIn K mainGlobals "_law_pick"=some (some (.ref f48)))(l48:K.lookup f48=some ⟨oc48,od48,.func (PySem.W.fnOf "_law_pick" "_law_pick" (defArgs sPick) (defBody sPick) (defScope sPick) .none kV48 dc48 pm48 an48 cd48 ct48),sl48⟩)(c48:PySem.W.codeIn K cd48 "_law_pick"=true)(k48:PySem.W.keepIn K (.ref f48)=true)(a49:PySem.W.nsIn K mainGlobals "_law_mix"=some (some (.ref f49)))(l49:K.lookup f49=some ⟨oc49,od49,.func (PySem.W.fnOf "_law_mix" "_law_mix" (defArgs sMix) (defBody sMix) (defScope sMix) .none kV49 dc49 pm49 an49 cd49 ct49),sl49⟩)(c49:PySem.W.codeIn K cd49 "_law_mix"=true)(k49:PySem.W.keepIn K (.ref f49)=true)(a50:PySem.W.nsIn K mainGlobals "_law_name"=some (some (.ref f50)))(l50:K.lookup f50=some ⟨oc50,od50,.func (PySem.W.fnOf "_law_name" "_law_name" (defArgs sNameL) (defBody sNameL) (defScope sNameL) .none kV50 dc50 pm50 an50 cd50 ct50),sl50⟩)(c50:PySem.W.codeIn K cd50 "_law_name"=true)(k50:PySem.W.keepIn K (.ref f50)=true)(a51:PySem.W.nsIn K mainGlobals "_law_row"=some (some (.ref f51)))(l51:K.lookup f51=some ⟨oc51,od51,.func (PySem.W.fnOf "_law_row" "_law_row" (defArgs sRowI) (defBody sRowI) (defScope sRowI) .none kV51 dc51 pm51 an51 cd51 ct51),sl51⟩)(c51:PySem.W.codeIn K cd51 "_law_row"=true)(k51:PySem.W.keepIn K (.ref f51)=true)(a52:PySem.W.nsIn K mainGlobals "_law_items"=some (some (.ref f52)))(l52:K.lookup f52=some ⟨oc52,od52,.func (PySem.W.fnOf "_law_items" "_law_items" (defArgs sItems) (defBody sItems) (defScope sItems) .none kV52 dc52 pm52 an52 cd52 ct52),sl52⟩)(c52:PySem.W.codeIn K cd52 "_law_items"=true)(k52:PySem.W.keepIn K (.ref f52)=true)(a53:PySem.W.nsIn K mainGlobals "_law_book"=some (some (.ref f53)))(l53:K.lookup f53=some ⟨oc53,od53,.func (PySem.W.fnOf "_law_book" "_law_book" (defArgs sBook) (defBody sBook) (defScope sBook) .none kV53 dc53 pm53 an53 cd53 ct53),sl53⟩)(c53:PySem.W.codeIn K cd53 "_law_book"=true)(k53:PySem.W.keepIn K (.ref f53)=true)(a54:PySem.W.nsIn K mainGlobals "_law_written"=some (some (.ref f54)))(l54:K.lookup f54=some ⟨oc54,od54,.func (PySem.W.fnOf "_law_written" "_law_written" (defArgs sWritten) (defBody sWritten) (defScope sWritten) .none kV54 dc54 pm54 an54 cd54 ct54),sl54⟩)(c54:PySem.W.codeIn K cd54 "_law_written"=true)(k54:PySem.W.keepIn K (.ref f54)=true)(a55:PySem.W.nsIn K mainGlobals "_law_out"=some (some (.ref f55)))(l55:K.lookup f55=some ⟨oc55,od55,.func (PySem.W.fnOf "_law_out" "_law_out" (defArgs sOut) (defBody sOut) (defScope sOut) .none kV55 dc55 pm55 an55 cd55 ct55),sl55⟩)(c55:PySem.W.codeIn K cd55 "_law_out"=true)(k55:PySem.W.keepIn K (.ref f55)=true)(a56:PySem.W.nsIn K mainGlobals "_law_bad_form"=some (some (.ref f56)))(l56:K.lookup f56=some ⟨oc56,od56,.func (PySem.W.fnOf "_law_bad_form" "_law_bad_form" (defArgs sBadForm) (defBody sBadForm) (defScope sBadForm) .none kV56 dc56 pm56 an56 cd56 ct56),sl56⟩)(c56:PySem.W.codeIn K cd56 "_law_bad_form"=true)(k56:PySem.W.keepIn K (.ref f56)=true)(a57:PySem.W.nsIn K mainGlobals "_law_bad_put"=some (some (.ref f57)))(l57:K.lookup f57=some ⟨oc57,od57,.func (PySem.W.fnOf "_law_bad_put" "_law_bad_put" (defArgs sBadPut) (defBody sBadPut) (defScope sBadPut) .none kV57 dc57 pm57 an57 cd57 ct57),sl57⟩)(c57:PySem.W.codeIn K cd57 "_law_bad_put"=true)(k57:PySem.W.keepIn K (.ref f57)=true)(a58:PySem.W.nsIn K mainGlobals "_law_bad"=some (some (.ref f58)))(l58:K.lookup f58=some ⟨oc58,od58,.func (PySem.W.fnOf "_law_bad" "_law_bad" (defArgs sBad) (defBody sBad) (defScope sBad) .none kV58 dc58 pm58 an58 cd58 ct58),sl58⟩)(c58:PySem.W.codeIn K cd58 "_law_bad"=true)(k58:PySem.W.keepIn K (.ref f58)=true)(a59:PySem.W.nsIn K mainGlobals "_law_told"=some (some (.ref f59)))(l59:K.lookup f59=some ⟨oc59,od59,.func (PySem.W.fnOf "_law_told" "_law_told" (defArgs sTold) (defBody sTold) (defScope sTold) .none kV59 dc59 pm59 an59 cd59 ct59),sl59⟩)(c59:PySem.W.codeIn K cd59 "_law_told"=true)(k59:PySem.W.keepIn K (.ref f59)=true)(a60:PySem.W.nsIn K mainGlobals "_law_walked"=some (some (.ref f60)))(l60:K.lookup f60=some ⟨oc60,od60,.func (PySem.W.fnOf "_law_walked" "_law_walked" (defArgs sWalked) (defBody sWalked) (defScope sWalked) .none kV60 dc60 pm60 an60 cd60 ct60),sl60⟩)(c60:PySem.W.codeIn K cd60 "_law_walked"=true)(k60:PySem.W.keepIn K (.ref f60)=true)(a61:PySem.W.nsIn K mainGlobals "law"=some (some (.ref f61)))(l61:K.lookup f61=some ⟨oc61,od61,.func (PySem.W.fnOf "law" "law" (defArgs sLaw) (defBody sLaw) (defScope sLaw) .none kV61 dc61 pm61 an61 cd61 ct61),sl61⟩)(c61:PySem.W.codeIn K cd61 "law"=true)(k61:PySem.W.keepIn K (.ref f61)=true)(v_NOUGHT:PySem.W.nsIn K mainGlobals "NOUGHT"=some (some (.ref aN)))(v_ROW_WORDS:PySem.W.nsIn K mainGlobals "ROW_WORDS"=some (some (.ref aW)))(v_MOST_POINTS:PySem.W.nsIn K mainGlobals "MOST_POINTS"=some (some (.int 20 tM)))(v_MOST_ROWS:PySem.W.nsIn K mainGlobals "MOST_ROWS"=some (some (.int 40 tR)))(v_FIGURES:PySem.W.nsIn K mainGlobals "FIGURES"=some (some (.str "0123456789" tF)))(v_MOST_FIGURES:PySem.W.nsIn K mainGlobals "MOST_FIGURES"=some (some (.int 200 tG)))(v_LETTERS:PySem.W.nsIn K mainGlobals "LETTERS"=some (some (.str "abcdefghijklmnopqrstuvwxyz" tL)))(v_MOST_LETTERS:PySem.W.nsIn K mainGlobals "MOST_LETTERS"=some (some (.int 8 tE)))(v_MOST_PARTS:PySem.W.nsIn K mainGlobals "MOST_PARTS"=some (some (.int 20 tP)))(lN:K.lookup aN=some ⟨.type "tuple",dN,.seq #[.int 0 t0,.int 1 t1] nN,sN⟩)(lW:K.lookup aW=some ⟨.type "tuple",dW,.seq #[.str "piece" w0,.str "push" w1,.str "hold" w2] nW,sW⟩)(pg_Piece:PySem.W.plainGet K c_Piece Str.empty=true)(hd_Piece:PySem.W.hasDictIn K c_Piece=true)(po_Piece:PySem.W.plainOver K c_Piece=true)(sa_Piece:PySem.W.findIn K (.ref c_Piece) "__setattr__"=some (some (.builtin "object.__setattr__")))(mk_Piece:PySem.W.makesIn K c_Piece=true)(kc_Piece:PySem.W.keepIn K (.ref c_Piece)=true)(t1_Piece:PySem.W.findIn K (.ref c_Piece) "__class__"=some (some (.builtin "object.__class__")))(t4_Piece:PySem.W.mroIn K c_Piece (.type "object")=some true)(na_Piece_start:PySem.W.findIn K (.ref c_Piece) "start"=some none)(na_Piece_goal:PySem.W.findIn K (.ref c_Piece) "goal"=some none)(na_Piece_size:PySem.W.findIn K (.ref c_Piece) "size"=some none)(pg_Push:PySem.W.plainGet K c_Push Str.empty=true)(hd_Push:PySem.W.hasDictIn K c_Push=true)(po_Push:PySem.W.plainOver K c_Push=true)(sa_Push:PySem.W.findIn K (.ref c_Push) "__setattr__"=some (some (.builtin "object.__setattr__")))(mk_Push:PySem.W.makesIn K c_Push=true)(kc_Push:PySem.W.keepIn K (.ref c_Push)=true)(t1_Push:PySem.W.findIn K (.ref c_Push) "__class__"=some (some (.builtin "object.__class__")))(t4_Push:PySem.W.mroIn K c_Push (.type "object")=some true)(na_Push_start:PySem.W.findIn K (.ref c_Push) "start"=some none)(na_Push_goal:PySem.W.findIn K (.ref c_Push) "goal"=some none)(na_Push_size:PySem.W.findIn K (.ref c_Push) "size"=some none)(pg_Hold:PySem.W.plainGet K c_Hold Str.empty=true)(hd_Hold:PySem.W.hasDictIn K c_Hold=true)(po_Hold:PySem.W.plainOver K c_Hold=true)(sa_Hold:PySem.W.findIn K (.ref c_Hold) "__setattr__"=some (some (.builtin "object.__setattr__")))(mk_Hold:PySem.W.makesIn K c_Hold=true)(kc_Hold:PySem.W.keepIn K (.ref c_Hold)=true)(t1_Hold:PySem.W.findIn K (.ref c_Hold) "__class__"=some (some (.builtin "object.__class__")))(t4_Hold:PySem.W.mroIn K c_Hold (.type "object")=some true)(na_Hold_start:PySem.W.findIn K (.ref c_Hold) "start"=some none)(na_Hold_goal:PySem.W.findIn K (.ref c_Hold) "goal"=some none)(na_Hold_size:PySem.W.findIn K (.ref c_Hold) "size"=some none)(tt2:PySem.W.specialIn K (.builtin "object.__class__") "__get__"=some (some (.builtin "getset_descriptor.__get__")))(tt3:PySem.W.takesIn K (.builtin "object.__class__")=some true)(isR_Piece:PySem.W.kitOne K (.ref c_Piece) (.ref c_Row)=some true)(isR_Push:PySem.W.kitOne K (.ref c_Push) (.ref c_Row)=some true)(isR_Hold:PySem.W.kitOne K (.ref c_Hold) (.ref c_Row)=some true)(isK_Piece_Push:PySem.W.kitOne K (.ref c_Piece) (.ref c_Push)=some false)(isK_Piece_Hold:PySem.W.kitOne K (.ref c_Piece) (.ref c_Hold)=some false)(isK_Push_Piece:PySem.W.kitOne K (.ref c_Push) (.ref c_Piece)=some false)(isK_Push_Hold:PySem.W.kitOne K (.ref c_Push) (.ref c_Hold)=some false)(isK_Hold_Piece:PySem.W.kitOne K (.ref c_Hold) (.ref c_Piece)=some false)(isK_Hold_Push:PySem.W.kitOne K (.ref c_Hold) (.ref c_Push)=some false)(pg_Net:PySem.W.plainGet K c_Net Str.empty=true)(hd_Net:PySem.W.hasDictIn K c_Net=true)(po_Net:PySem.W.plainOver K c_Net=true)(sa_Net:PySem.W.findIn K (.ref c_Net) "__setattr__"=some (some (.builtin "object.__setattr__")))(mk_Net:PySem.W.makesIn K c_Net=true)(kc_Net:PySem.W.keepIn K (.ref c_Net)=true)(t1_Net:PySem.W.findIn K (.ref c_Net) "__class__"=some (some (.builtin "object.__class__")))(t4_Net:PySem.W.mroIn K c_Net (.type "object")=some true)(na_Net_point_count:PySem.W.findIn K (.ref c_Net) "point_count"=some none)(na_Net_kept:PySem.W.findIn K (.ref c_Net) "kept"=some none)(x1_NoRow:PySem.W.excIn K c_NoRow bmVE "ValueError.__new__"=true)(x2_NoRow:PySem.W.findIn K (.ref c_NoRow) "__getattribute__"=some (some (.builtin "BaseException.__getattribute__")))(x3_NoRow:PySem.W.findIn K (.ref c_NoRow) "__getattr__"=some none)(x4_NoRow:PySem.W.mroIn K c_NoRow (.type "BaseException")=some true)(x5_NoRow:PySem.W.mroIn K c_NoRow (.type "object")=some true)(x6_NoRow:PySem.W.findIn K (.ref c_NoRow) "__class__"=some (some (.builtin "object.__class__")))(x7_NoRow:PySem.W.specialIn K (.builtin "object.__class__") "__get__"=some (some (.builtin "getset_descriptor.__get__")))(x8_NoRow:PySem.W.takesIn K (.builtin "object.__class__")=some true)(x9_NoRow:(PySem.W.clsIn K c_NoRow).isSome=true)(x1_NoName:PySem.W.excIn K c_NoName bmVE "ValueError.__new__"=true)(x2_NoName:PySem.W.findIn K (.ref c_NoName) "__getattribute__"=some (some (.builtin "BaseException.__getattribute__")))(x3_NoName:PySem.W.findIn K (.ref c_NoName) "__getattr__"=some none)(x4_NoName:PySem.W.mroIn K c_NoName (.type "BaseException")=some true)(x5_NoName:PySem.W.mroIn K c_NoName (.type "object")=some true)(x6_NoName:PySem.W.findIn K (.ref c_NoName) "__class__"=some (some (.builtin "object.__class__")))(x7_NoName:PySem.W.specialIn K (.builtin "object.__class__") "__get__"=some (some (.builtin "getset_descriptor.__get__")))(x8_NoName:PySem.W.takesIn K (.builtin "object.__class__")=some true)(x9_NoName:(PySem.W.clsIn K c_NoName).isSome=true)(x1_NoNumber:PySem.W.excIn K c_NoNumber bmVE "ValueError.__new__"=true)(x2_NoNumber:PySem.W.findIn K (.ref c_NoNumber) "__getattribute__"=some (some (.builtin "BaseException.__getattribute__")))(x3_NoNumber:PySem.W.findIn K (.ref c_NoNumber) "__getattr__"=some none)(x4_NoNumber:PySem.W.mroIn K c_NoNumber (.type "BaseException")=some true)(x5_NoNumber:PySem.W.mroIn K c_NoNumber (.type "object")=some true)(x6_NoNumber:PySem.W.findIn K (.ref c_NoNumber) "__class__"=some (some (.builtin "object.__class__")))(x7_NoNumber:PySem.W.specialIn K (.builtin "object.__class__") "__get__"=some (some (.builtin "getset_descriptor.__get__")))(x8_NoNumber:PySem.W.takesIn K (.builtin "object.__class__")=some true)(x9_NoNumber:(PySem.W.clsIn K c_NoNumber).isSome=true)(x1_NoSize:PySem.W.excIn K c_NoSize bmVE "ValueError.__new__"=true)(x2_NoSize:PySem.W.findIn K (.ref c_NoSize) "__getattribute__"=some (some (.builtin "BaseException.__getattribute__")))(x3_NoSize:PySem.W.findIn K (.ref c_NoSize) "__getattr__"=some none)(x4_NoSize:PySem.W.mroIn K c_NoSize (.type "BaseException")=some true)(x5_NoSize:PySem.W.mroIn K c_NoSize (.type "object")=some true)(x6_NoSize:PySem.W.findIn K (.ref c_NoSize) "__class__"=some (some (.builtin "object.__class__")))(x7_NoSize:PySem.W.specialIn K (.builtin "object.__class__") "__get__"=some (some (.builtin "getset_descriptor.__get__")))(x8_NoSize:PySem.W.takesIn K (.builtin "object.__class__")=some true)(x9_NoSize:(PySem.W.clsIn K c_NoSize).isSome=true)(x1_NoPoint:PySem.W.excIn K c_NoPoint bmVE "ValueError.__new__"=true)(x2_NoPoint:PySem.W.findIn K (.ref c_NoPoint) "__getattribute__"=some (some (.builtin "BaseException.__getattribute__")))(x3_NoPoint:PySem.W.findIn K (.ref c_NoPoint) "__getattr__"=some none)(x4_NoPoint:PySem.W.mroIn K c_NoPoint (.type "BaseException")=some true)(x5_NoPoint:PySem.W.mroIn K c_NoPoint (.type "object")=some true)(x6_NoPoint:PySem.W.findIn K (.ref c_NoPoint) "__class__"=some (some (.builtin "object.__class__")))(x7_NoPoint:PySem.W.specialIn K (.builtin "object.__class__") "__get__"=some (some (.builtin "getset_descriptor.__get__")))(x8_NoPoint:PySem.W.takesIn K (.builtin "object.__class__")=some true)(x9_NoPoint:(PySem.W.clsIn K c_NoPoint).isSome=true)(x1_TooMany:PySem.W.excIn K c_TooMany bmVE "ValueError.__new__"=true)(x2_TooMany:PySem.W.findIn K (.ref c_TooMany) "__getattribute__"=some (some (.builtin "BaseException.__getattribute__")))(x3_TooMany:PySem.W.findIn K (.ref c_TooMany) "__getattr__"=some none)(x4_TooMany:PySem.W.mroIn K c_TooMany (.type "BaseException")=some true)(x5_TooMany:PySem.W.mroIn K c_TooMany (.type "object")=some true)(x6_TooMany:PySem.W.findIn K (.ref c_TooMany) "__class__"=some (some (.builtin "object.__class__")))(x7_TooMany:PySem.W.specialIn K (.builtin "object.__class__") "__get__"=some (some (.builtin "getset_descriptor.__get__")))(x8_TooMany:PySem.W.takesIn K (.builtin "object.__class__")=some true)(x9_TooMany:(PySem.W.clsIn K c_TooMany).isSome=true)(nd:PySem.W.nsIn K cStatics "sys.int_max_str_digits"=some none)(pg_Plan:PySem.W.plainGet K c_Plan Str.empty=true)(hd_Plan:PySem.W.hasDictIn K c_Plan=true)(po_Plan:PySem.W.plainOver K c_Plan=true)(sa_Plan:PySem.W.findIn K (.ref c_Plan) "__setattr__"=some (some (.builtin "object.__setattr__")))(mk_Plan:PySem.W.makesIn K c_Plan=true)(kc_Plan:PySem.W.keepIn K (.ref c_Plan)=true)(na_Plan_labels:PySem.W.findIn K (.ref c_Plan) "labels"=some none)(na_Plan_end_count:PySem.W.findIn K (.ref c_Plan) "end_count"=some none)(na_Plan_entries:PySem.W.findIn K (.ref c_Plan) "entries"=some none)(na_Plan_put_names:PySem.W.findIn K (.ref c_Plan) "put_names"=some none)(pg_Yard:PySem.W.plainGet K c_Yard Str.empty=true)(hd_Yard:PySem.W.hasDictIn K c_Yard=true)(po_Yard:PySem.W.plainOver K c_Yard=true)(sa_Yard:PySem.W.findIn K (.ref c_Yard) "__setattr__"=some (some (.builtin "object.__setattr__")))(mk_Yard:PySem.W.makesIn K c_Yard=true)(kc_Yard:PySem.W.keepIn K (.ref c_Yard)=true)(na_Yard_ground:PySem.W.findIn K (.ref c_Yard) "ground"=some none)(na_Yard_parts:PySem.W.findIn K (.ref c_Yard) "parts"=some none)(na_Yard_opened:PySem.W.findIn K (.ref c_Yard) "opened"=some none)(na_Yard_opened_plan:PySem.W.findIn K (.ref c_Yard) "opened_plan"=some none)(q1_r:PySem.W.exmOne K (.ref c_NoRow) (.ref c_OhmError)=some true)(qn_r:PySem.W.kitOne K (.type "NoneType") (.ref c_NoRow)=some false)(qa_r:PySem.W.kitAny K (.ref c_NoRow) [.ref c_NoName,.ref c_NoNumber,.ref c_NoSize]=some false)(qk_rm:PySem.W.kitOne K (.ref c_NoRow) (.ref c_NoName)=some false)(qk_ru:PySem.W.kitOne K (.ref c_NoRow) (.ref c_NoNumber)=some false)(qk_rz:PySem.W.kitOne K (.ref c_NoRow) (.ref c_NoSize)=some false)(q1_m:PySem.W.exmOne K (.ref c_NoName) (.ref c_OhmError)=some true)(qn_m:PySem.W.kitOne K (.type "NoneType") (.ref c_NoName)=some false)(qa_m:PySem.W.kitAny K (.ref c_NoName) [.ref c_NoRow,.ref c_NoNumber,.ref c_NoSize]=some false)(qk_mr:PySem.W.kitOne K (.ref c_NoName) (.ref c_NoRow)=some false)(qk_mu:PySem.W.kitOne K (.ref c_NoName) (.ref c_NoNumber)=some false)(qk_mz:PySem.W.kitOne K (.ref c_NoName) (.ref c_NoSize)=some false)(q1_u:PySem.W.exmOne K (.ref c_NoNumber) (.ref c_OhmError)=some true)(qn_u:PySem.W.kitOne K (.type "NoneType") (.ref c_NoNumber)=some false)(qa_u:PySem.W.kitAny K (.ref c_NoNumber) [.ref c_NoRow,.ref c_NoName,.ref c_NoSize]=some false)(qk_ur:PySem.W.kitOne K (.ref c_NoNumber) (.ref c_NoRow)=some false)(qk_um:PySem.W.kitOne K (.ref c_NoNumber) (.ref c_NoName)=some false)(qk_uz:PySem.W.kitOne K (.ref c_NoNumber) (.ref c_NoSize)=some false)(q1_z:PySem.W.exmOne K (.ref c_NoSize) (.ref c_OhmError)=some true)(qn_z:PySem.W.kitOne K (.type "NoneType") (.ref c_NoSize)=some false)(qa_z:PySem.W.kitAny K (.ref c_NoSize) [.ref c_NoRow,.ref c_NoName,.ref c_NoNumber]=some false)(qk_zr:PySem.W.kitOne K (.ref c_NoSize) (.ref c_NoRow)=some false)(qk_zm:PySem.W.kitOne K (.ref c_NoSize) (.ref c_NoName)=some false)(qk_zu:PySem.W.kitOne K (.ref c_NoSize) (.ref c_NoNumber)=some false)(z1:PySem.W.nsIn K mainGlobals "isinstance"=some none)(z2:PySem.W.nsIn K mainGlobals "int"=some none)(z3:PySem.W.nsIn K mainGlobals "bool"=some none)(z4:PySem.W.nsIn K mainGlobals "abs"=some none)(z5:PySem.W.nsIn K mainGlobals "len"=some none)(z6:PySem.W.nsIn K mainGlobals "range"=some none)(z7:PySem.W.nsIn K mainGlobals "str"=some none)(z8:PySem.W.nsIn K mainGlobals "tuple"=some none)(z9:PySem.W.nsIn K mainGlobals "list"=some none)(z10:PySem.W.nsIn K mainGlobals "all"=some none)(z11:PySem.W.nsIn K mainGlobals "set"=some none) :
  ∃fd:FuncData,(∀(s:Shared) (v:Value),BindsTo s fd ⟨[v],[]⟩ [("_law_script",v)])∧∀base:Heap,K.In base→base.Ns mainGlobals mg→FnOk l.prog w K mg base CX0 10 fa fd ["_law_script"] (spLaw K):=by
 have e:=hfa.symm.trans (PySem.W.mg_of X G a61)
 cases e
 have mc_OhmError:=PySem.W.mg_of X G y_OhmError
 have mc_NoRow:=PySem.W.mg_of X G y_NoRow
 have mc_NoName:=PySem.W.mg_of X G y_NoName
 have mc_NoNumber:=PySem.W.mg_of X G y_NoNumber
 have mc_NoSize:=PySem.W.mg_of X G y_NoSize
 have mc_NoPoint:=PySem.W.mg_of X G y_NoPoint
 have mc_TooMany:=PySem.W.mg_of X G y_TooMany
 have mc_Row:=PySem.W.mg_of X G y_Row
 have mc_Piece:=PySem.W.mg_of X G y_Piece
 have mc_Push:=PySem.W.mg_of X G y_Push
 have mc_Hold:=PySem.W.mg_of X G y_Hold
 have mc_Net:=PySem.W.mg_of X G y_Net
 have mc_Plan:=PySem.W.mg_of X G y_Plan
 have mc_Yard:=PySem.W.mg_of X G y_Yard
 have F1:=fund_mk (st:=sWhole) l1 c1 k1
 have m1:=PySem.W.mg_of X G a1
 have b1:=F1.binds (ps:=["thing"]) fun _ _ _ _ _ _ us hl=>match us,hl with | [_],_=>rfl
 have F2:=fund_mk (st:=sGc) l2 c2 k2
 have m2:=PySem.W.mg_of X G a2
 have b2:=F2.binds (ps:=["one","other"]) fun _ _ _ _ _ _ us hl=>match us,hl with | [_,_],_=>rfl
 have F3:=fund_mk (st:=sUnder) l3 c3 k3
 have m3:=PySem.W.mg_of X G a3
 have b3:=F3.binds (ps:=["one","other"]) fun _ _ _ _ _ _ us hl=>match us,hl with | [_,_],_=>rfl
 have F4:=fund_mk (st:=sFrac) l4 c4 k4
 have m4:=PySem.W.mg_of X G a4
 have b4:Binds K _ ["top","bottom"] []:=fun s us XX hl=>match us,hl with | [_,_],_=>PySem.W.binds_K (fd:=PySem.W.fnOf "fraction" "fraction" (defArgs sFrac) (defBody sFrac) (defScope sFrac) (.ref T4) kV4 dc4 pm4 an4 cd4 ct4) XX rfl lt4 rfl rfl rfl
 have bd4:Binds K _ ["top","bottom"] [.int 1 tk4]:=fun s us XX hl=>match us,(show us.length=1 by simp at hl;omega) with | [_],_=>PySem.W.binds_K (fd:=PySem.W.fnOf "fraction" "fraction" (defArgs sFrac) (defBody sFrac) (defScope sFrac) (.ref T4) kV4 dc4 pm4 an4 cd4 ct4) XX rfl lt4 rfl rfl rfl
 have F5:=fund_mk (st:=sShow) l5 c5 k5
 have m5:=PySem.W.mg_of X G a5
 have b5:=F5.binds (ps:=["one"]) fun _ _ _ _ _ _ us hl=>match us,hl with | [_],_=>rfl
 have F6:=fund_mk (st:=sNosign) l6 c6 k6
 have m6:=PySem.W.mg_of X G a6
 have b6:=F6.binds (ps:=["text"]) fun _ _ _ _ _ _ us hl=>match us,hl with | [_],_=>rfl
 have F7:=fund_mk (st:=sFigs) l7 c7 k7
 have m7:=PySem.W.mg_of X G a7
 have b7:=F7.binds (ps:=["text"]) fun _ _ _ _ _ _ us hl=>match us,hl with | [_],_=>rfl
 have F8:=fund_mk (st:=sRead) l8 c8 k8
 have m8:=PySem.W.mg_of X G a8
 have b8:=F8.binds (ps:=["text"]) fun _ _ _ _ _ _ us hl=>match us,hl with | [_],_=>rfl
 have F9:=fund_mk (st:=sIsF) l9 c9 k9
 have m9:=PySem.W.mg_of X G a9
 have b9:=F9.binds (ps:=["thing"]) fun _ _ _ _ _ _ us hl=>match us,hl with | [_],_=>rfl
 have F10:=fund_mk (st:=sRInit) l10 c10 k10
 have b10:=F10.binds (ps:=["self","start","goal","size"]) fun _ _ _ _ _ _ us hl=>match us,hl with | [_,_,_,_],_=>rfl
 have F11:=fund_mk (st:=sWord_pc) l11 c11 k11
 have b11:=F11.binds (ps:=["self"]) fun _ _ _ _ _ _ us hl=>match us,hl with | [_],_=>rfl
 have F12:=fund_mk (st:=sWord_pu) l12 c12 k12
 have b12:=F12.binds (ps:=["self"]) fun _ _ _ _ _ _ us hl=>match us,hl with | [_],_=>rfl
 have F13:=fund_mk (st:=sWord_ho) l13 c13 k13
 have b13:=F13.binds (ps:=["self"]) fun _ _ _ _ _ _ us hl=>match us,hl with | [_],_=>rfl
 have F14:=fund_mk (st:=sRTold) l14 c14 k14
 have b14:=F14.binds (ps:=["self"]) fun _ _ _ _ _ _ us hl=>match us,hl with | [_],_=>rfl
 have F15:=fund_mk (st:=sRowOf) l15 c15 k15
 have m15:=PySem.W.mg_of X G a15
 have b15:=F15.binds (ps:=["told"]) fun _ _ _ _ _ _ us hl=>match us,hl with | [_],_=>rfl
 have F16:=fund_mk (st:=sRAt) l16 c16 k16
 have b16:=F16.binds (ps:=["self","places"]) fun _ _ _ _ _ _ us hl=>match us,hl with | [_,_],_=>rfl
 have F17:=fund_mk (st:=sPS) l17 c17 k17
 have m17:=PySem.W.mg_of X G a17
 have b17:=F17.binds (ps:=["thing"]) fun _ _ _ _ _ _ us hl=>match us,hl with | [_],_=>rfl
 have F18:=fund_mk (st:=sNB) l18 c18 k18
 have m18:=PySem.W.mg_of X G a18
 have b18:=F18.binds (ps:=["thing","bound"]) fun _ _ _ _ _ _ us hl=>match us,hl with | [_,_],_=>rfl
 have F19:=fund_mk (st:=sRS) l19 c19 k19
 have m19:=PySem.W.mg_of X G a19
 have b19:=F19.binds (ps:=["word","size"]) fun _ _ _ _ _ _ us hl=>match us,hl with | [_,_],_=>rfl
 have F20:=fund_mk (st:=sRP) l20 c20 k20
 have m20:=PySem.W.mg_of X G a20
 have b20:=F20.binds (ps:=["some","many"]) fun _ _ _ _ _ _ us hl=>match us,hl with | [_,_],_=>rfl
 have F21:=fund_mk (st:=sNInit) l21 c21 k21
 have b21:=F21.binds (ps:=["self","many"]) fun _ _ _ _ _ _ us hl=>match us,hl with | [_,_],_=>rfl
 have F22:=fund_mk (st:=sAdd) l22 c22 k22
 have b22:=F22.binds (ps:=["self","row"]) fun _ _ _ _ _ _ us hl=>match us,hl with | [_,_],_=>rfl
 have F23:=fund_mk (st:=sMany) l23 c23 k23
 have b23:=F23.binds (ps:=["self"]) fun _ _ _ _ _ _ us hl=>match us,hl with | [_],_=>rfl
 have F24:=fund_mk (st:=sNTold) l24 c24 k24
 have b24:=F24.binds (ps:=["self"]) fun _ _ _ _ _ _ us hl=>match us,hl with | [_],_=>rfl
 have F25:=fund_mk (st:=sName) l25 c25 k25
 have m25:=PySem.W.mg_of X G a25
 have b25:=F25.binds (ps:=["thing"]) fun _ _ _ _ _ _ us hl=>match us,hl with | [_],_=>rfl
 have F26:=fund_mk (st:=sRNames) l26 c26 k26
 have m26:=PySem.W.mg_of X G a26
 have b26:=F26.binds (ps:=["words"]) fun _ _ _ _ _ _ us hl=>match us,hl with | [_],_=>rfl
 have F27:=fund_mk (st:=sWords) l27 c27 k27
 have m27:=PySem.W.mg_of X G a27
 have b27:=F27.binds (ps:=["row"]) fun _ _ _ _ _ _ us hl=>match us,hl with | [_],_=>rfl
 have F28:=fund_mk (st:=sForm) l28 c28 k28
 have m28:=PySem.W.mg_of X G a28
 have b28:=F28.binds (ps:=["word","count"]) fun _ _ _ _ _ _ us hl=>match us,hl with | [_,_],_=>rfl
 have F29:=fund_mk (st:=sRForm) l29 c29 k29
 have m29:=PySem.W.mg_of X G a29
 have b29:=F29.binds (ps:=["words"]) fun _ _ _ _ _ _ us hl=>match us,hl with | [_],_=>rfl
 have F30:=fund_mk (st:=sPInit) l30 c30 k30
 have b30:=F30.binds (ps:=["self","labels","end_count"]) fun _ _ _ _ _ _ us hl=>match us,hl with | [_,_,_],_=>rfl
 have F31:=fund_mk (st:=sPCopy) l31 c31 k31
 have b31:=F31.binds (ps:=["self"]) fun _ _ _ _ _ _ us hl=>match us,hl with | [_],_=>rfl
 have F32:=fund_mk (st:=sPlace) l32 c32 k32
 have b32:=F32.binds (ps:=["self","label"]) fun _ _ _ _ _ _ us hl=>match us,hl with | [_,_],_=>rfl
 have F33:=fund_mk (st:=sEnter) l33 c33 k33
 have b33:=F33.binds (ps:=["self","word","start","goal","size"]) fun _ _ _ _ _ _ us hl=>match us,hl with | [_,_,_,_,_],_=>rfl
 have F34:=fund_mk (st:=sPut) l34 c34 k34
 have b34:=F34.binds (ps:=["self","name","part","points"]) fun _ _ _ _ _ _ us hl=>match us,hl with | [_,_,_,_],_=>rfl
 have F35:=fund_mk (st:=sOver) l35 c35 k35
 have b35:=F35.binds (ps:=["self"]) fun _ _ _ _ _ _ us hl=>match us,hl with | [_],_=>rfl
 have F36:=fund_mk (st:=sPNet) l36 c36 k36
 have b36:=F36.binds (ps:=["self"]) fun _ _ _ _ _ _ us hl=>match us,hl with | [_],_=>rfl
 have F37:=fund_mk (st:=sROver) l37 c37 k37
 have m37:=PySem.W.mg_of X G a37
 have b37:=F37.binds (ps:=["plan"]) fun _ _ _ _ _ _ us hl=>match us,hl with | [_],_=>rfl
 have F38:=fund_mk (st:=sYInit) l38 c38 k38
 have b38:=F38.binds (ps:=["self"]) fun _ _ _ _ _ _ us hl=>match us,hl with | [_],_=>rfl
 have F39:=fund_mk (st:=sCoT) l39 c39 k39
 have b39:=F39.binds (ps:=["self"]) fun _ _ _ _ _ _ us hl=>match us,hl with | [_],_=>rfl
 have F40:=fund_mk (st:=sKeep) l40 c40 k40
 have b40:=F40.binds (ps:=["self","plan"]) fun _ _ _ _ _ _ us hl=>match us,hl with | [_,_],_=>rfl
 have F41:=fund_mk (st:=sBeg) l41 c41 k41
 have b41:=F41.binds (ps:=["self","name","ends"]) fun _ _ _ _ _ _ us hl=>match us,hl with | [_,_,_],_=>rfl
 have F42:=fund_mk (st:=sEnd) l42 c42 k42
 have b42:=F42.binds (ps:=["self"]) fun _ _ _ _ _ _ us hl=>match us,hl with | [_],_=>rfl
 have F43:=fund_mk (st:=sEPut) l43 c43 k43
 have b43:=F43.binds (ps:=["self","name","part_name","points"]) fun _ _ _ _ _ _ us hl=>match us,hl with | [_,_,_,_],_=>rfl
 have F44:=fund_mk (st:=sERow) l44 c44 k44
 have b44:=F44.binds (ps:=["self","words"]) fun _ _ _ _ _ _ us hl=>match us,hl with | [_,_],_=>rfl
 have F45:=fund_mk (st:=sTell) l45 c45 k45
 have b45:=F45.binds (ps:=["self","row"]) fun _ _ _ _ _ _ us hl=>match us,hl with | [_,_],_=>rfl
 have F46:=fund_mk (st:=sNames) l46 c46 k46
 have b46:=F46.binds (ps:=["self"]) fun _ _ _ _ _ _ us hl=>match us,hl with | [_],_=>rfl
 have F47:=fund_mk (st:=sYNet) l47 c47 k47
 have b47:=F47.binds (ps:=["self"]) fun _ _ _ _ _ _ us hl=>match us,hl with | [_],_=>rfl
 have F48:=fund_mk (st:=sPick) l48 c48 k48
 have m48:=PySem.W.mg_of X G a48
 have b48:=F48.binds (ps:=["_law_script","_law_k"]) fun _ _ _ _ _ _ us hl=>match us,hl with | [_,_],_=>rfl
 have F49:=fund_mk (st:=sMix) l49 c49 k49
 have m49:=PySem.W.mg_of X G a49
 have b49:=F49.binds (ps:=["_law_cell","_law_prime","_law_many"]) fun _ _ _ _ _ _ us hl=>match us,hl with | [_,_,_],_=>rfl
 have F50:=fund_mk (st:=sNameL) l50 c50 k50
 have m50:=PySem.W.mg_of X G a50
 have b50:=F50.binds (ps:=["_law_k","_law_cell"]) fun _ _ _ _ _ _ us hl=>match us,hl with | [_,_],_=>rfl
 have F51:=fund_mk (st:=sRowI) l51 c51 k51
 have m51:=PySem.W.mg_of X G a51
 have b51:=F51.binds (ps:=["_law_cell","_law_names"]) fun _ _ _ _ _ _ us hl=>match us,hl with | [_,_],_=>rfl
 have F52:=fund_mk (st:=sItems) l52 c52 k52
 have m52:=PySem.W.mg_of X G a52
 have b52:=F52.binds (ps:=["_law_script","_law_at","_law_book_here","_law_names","_law_cell"]) fun _ _ _ _ _ _ us hl=>match us,hl with | [_,_,_,_,_],_=>rfl
 have F53:=fund_mk (st:=sBook) l53 c53 k53
 have m53:=PySem.W.mg_of X G a53
 have b53:=F53.binds (ps:=["_law_script","_law_cell"]) fun _ _ _ _ _ _ us hl=>match us,hl with | [_,_],_=>rfl
 have F54:=fund_mk (st:=sWritten) l54 c54 k54
 have m54:=PySem.W.mg_of X G a54
 have b54:=F54.binds (ps:=["_law_items_here","_law_cell"]) fun _ _ _ _ _ _ us hl=>match us,hl with | [_,_],_=>rfl
 have F55:=fund_mk (st:=sOut) l55 c55 k55
 have m55:=PySem.W.mg_of X G a55
 have b55:=F55.binds (ps:=["_law_book_here","_law_items_here","_law_ahead","_law_places","_law_names","_law_flat"]) fun _ _ _ _ _ _ us hl=>match us,hl with | [_,_,_,_,_,_],_=>rfl
 have F56:=fund_mk (st:=sBadForm) l56 c56 k56
 have m56:=PySem.W.mg_of X G a56
 have b56:=F56.binds (ps:=["_law_cell","_law_opened"]) fun _ _ _ _ _ _ us hl=>match us,hl with | [_,_],_=>rfl
 have F57:=fund_mk (st:=sBadPut) l57 c57 k57
 have m57:=PySem.W.mg_of X G a57
 have b57:=F57.binds (ps:=["_law_cell","_law_known","_law_used","_law_opened"]) fun _ _ _ _ _ _ us hl=>match us,hl with | [_,_,_,_],_=>rfl
 have F58:=fund_mk (st:=sBad) l58 c58 k58
 have m58:=PySem.W.mg_of X G a58
 have b58:=F58.binds (ps:=["_law_cell","_law_known","_law_used","_law_opened"]) fun _ _ _ _ _ _ us hl=>match us,hl with | [_,_,_,_],_=>rfl
 have F59:=fund_mk (st:=sTold) l59 c59 k59
 have m59:=PySem.W.mg_of X G a59
 have b59:=F59.binds (ps:=["_law_yard","_law_row_here"]) fun _ _ _ _ _ _ us hl=>match us,hl with | [_,_],_=>rfl
 have F60:=fund_mk (st:=sWalked) l60 c60 k60
 have m60:=PySem.W.mg_of X G a60
 have b60:=F60.binds (ps:=["_law_yard","_law_script","_law_rows"]) fun _ _ _ _ _ _ us hl=>match us,hl with | [_,_,_],_=>rfl
 have F61:=fund_mk (st:=sLaw) l61 c61 k61
 have m61:=PySem.W.mg_of X G a61
 have b61:=F61.binds (ps:=["_law_script"]) fun _ _ _ _ _ _ us hl=>match us,hl with | [_],_=>rfl
 have mv_NOUGHT:=PySem.W.mg_of X G v_NOUGHT
 have mv_ROW_WORDS:=PySem.W.mg_of X G v_ROW_WORDS
 have mv_MOST_POINTS:=PySem.W.mg_of X G v_MOST_POINTS
 have mv_MOST_ROWS:=PySem.W.mg_of X G v_MOST_ROWS
 have mv_FIGURES:=PySem.W.mg_of X G v_FIGURES
 have mv_MOST_FIGURES:=PySem.W.mg_of X G v_MOST_FIGURES
 have mv_LETTERS:=PySem.W.mg_of X G v_LETTERS
 have mv_MOST_LETTERS:=PySem.W.mg_of X G v_MOST_LETTERS
 have mv_MOST_PARTS:=PySem.W.mg_of X G v_MOST_PARTS
 have n_isinstance:=PySem.W.mg_none_of X G z1
 have n_int:=PySem.W.mg_none_of X G z2
 have n_bool:=PySem.W.mg_none_of X G z3
 have n_abs:=PySem.W.mg_none_of X G z4
 have n_len:=PySem.W.mg_none_of X G z5
 have n_range:=PySem.W.mg_none_of X G z6
 have n_str:=PySem.W.mg_none_of X G z7
 have n_tuple:=PySem.W.mg_none_of X G z8
 have n_list:=PySem.W.mg_none_of X G z9
 have n_all:=PySem.W.mg_none_of X G z10
 have n_set:=PySem.W.mg_none_of X G z11
 refine⟨PySem.W.fnOf "law" "law" (defArgs sLaw) (defBody sLaw) (defScope sLaw) .none kV61 dc61 pm61 an61 cd61 ct61,fun s v=>.of_eq rfl,fun base _ _=>?_⟩
 have bl:Bl mg:=⟨n_isinstance,n_int,n_bool,n_abs⟩
 have T:RT K mg c_Row (kd3 c_Piece c_Push c_Hold):=⟨all3 ⟨pg_Piece,hd_Piece,po_Piece,sa_Piece⟩ ⟨pg_Push,hd_Push,po_Push,sa_Push⟩ ⟨pg_Hold,hd_Hold,po_Hold,sa_Hold⟩,all3 na_Piece_start na_Push_start na_Hold_start,all3 na_Piece_goal na_Push_goal na_Hold_goal,all3 na_Piece_size na_Push_size na_Hold_size,all3 t1_Piece t1_Push t1_Hold,tt2,tt3,all3 t4_Piece t4_Push t4_Hold,all3 isR_Piece isR_Push isR_Hold,all3 (all3 (kit_self _ _) isK_Piece_Push isK_Piece_Hold) (all3 isK_Push_Piece (kit_self _ _) isK_Push_Hold) (all3 isK_Hold_Piece isK_Hold_Push (kit_self _ _)),mc_Row,all3 mc_Piece mc_Push mc_Hold⟩
 have fN:∀H,Fq K H aN (0,1):=Fq.mod lN
 have hW:=mod3 lW
 have NTx:NT K mg c_Net:=⟨⟨pg_Net,hd_Net,po_Net,sa_Net⟩,na_Net_point_count,na_Net_kept,t1_Net,tt2,tt3,t4_Net,mc_Net⟩
 have PTx:PlT K mg c_Plan:=⟨⟨pg_Plan,hd_Plan,po_Plan,sa_Plan⟩,na_Plan_labels,na_Plan_end_count,na_Plan_entries,na_Plan_put_names,mc_Plan⟩
 have YTx:YaT K mg c_Yard:=⟨⟨pg_Yard,hd_Yard,po_Yard,sa_Yard⟩,na_Yard_ground,na_Yard_parts,na_Yard_opened,na_Yard_opened_plan,mc_Yard⟩
 have ec:ErrC K mg (ek4 c_NoRow c_NoName c_NoNumber c_NoSize):=⟨(fun e=>match e with | .r=>⟨x2_NoRow,x3_NoRow,x4_NoRow,x5_NoRow,x6_NoRow,x7_NoRow,x8_NoRow,x9_NoRow⟩ | .m=>⟨x2_NoName,x3_NoName,x4_NoName,x5_NoName,x6_NoName,x7_NoName,x8_NoName,x9_NoName⟩ | .u=>⟨x2_NoNumber,x3_NoNumber,x4_NoNumber,x5_NoNumber,x6_NoNumber,x7_NoNumber,x8_NoNumber,x9_NoNumber⟩ | .z=>⟨x2_NoSize,x3_NoSize,x4_NoSize,x5_NoSize,x6_NoSize,x7_NoSize,x8_NoSize,x9_NoSize⟩),mc_NoRow,mc_NoName,mc_NoNumber,mc_NoSize,⟨_,mc_OhmError,(fun e=>match e with | .r=>q1_r | .m=>q1_m | .u=>q1_u | .z=>q1_z)⟩,(fun e e' h=>match e,e',h with | .r,.r,h=>absurd rfl h | .r,.m,_=>qk_rm | .r,.u,_=>qk_ru | .r,.z,_=>qk_rz | .m,.r,_=>qk_mr | .m,.m,h=>absurd rfl h | .m,.u,_=>qk_mu | .m,.z,_=>qk_mz | .u,.r,_=>qk_ur | .u,.m,_=>qk_um | .u,.u,h=>absurd rfl h | .u,.z,_=>qk_uz | .z,.r,_=>qk_zr | .z,.m,_=>qk_zm | .z,.u,_=>qk_zu | .z,.z,h=>absurd rfl h),(fun e=>match e with | .r=>qa_r | .m=>qa_m | .u=>qa_u | .z=>qa_z),(fun e=>match e with | .r=>qn_r | .m=>qn_m | .u=>qn_u | .z=>qn_z)⟩
 have R1:=ok_whole (P:=l.prog) (w:=w) (K:=K) (mg:=mg) (base:=base) (CX:=CX0) F1 bl
 have R2:=ok_gc (P:=l.prog) (w:=w) (K:=K) (mg:=mg) (base:=base) (CX:=CX0) F2 bl
 have R3:=ok_under (P:=l.prog) (w:=w) (K:=K) (mg:=mg) (base:=base) (CX:=CX0) F3
 have R4:=ok_frac (P:=l.prog) (w:=w) (K:=K) (mg:=mg) (base:=base) F4  R1 b1 k1 m1 R2 b2 k2 m2 mc_NoNumber x1_NoNumber
 have R5:=ok_show (P:=l.prog) (w:=w) (K:=K) (mg:=mg) (base:=base) (CX:=CX0) F5 n_str nd
 have R6:=ok_nosign (P:=l.prog) (w:=w) (K:=K) (mg:=mg) (base:=base) (CX:=CX0) F6
 have R7:=ok_figs (P:=l.prog) (w:=w) (K:=K) (mg:=mg) (base:=base) (CX:=CX0) F7 n_len n_all mv_FIGURES mv_MOST_FIGURES
 have R8:=ok_read (P:=l.prog) (w:=w) (K:=K) (mg:=mg) (base:=base) F8 bl n_str R6 b6 k6 m6 R7 b7 k7 m7 R4 b4 k4 m4 R5 b5 k5 m5 mc_NoNumber x1_NoNumber
 have R9:=ok_isf (P:=l.prog) (w:=w) (K:=K) (mg:=mg) (base:=base) (CX:=CX0) F9 bl n_len n_tuple R1 b1 k1 m1 R2 b2 k2 m2
 have R10:=ok_rinit (P:=l.prog) (w:=w) (K:=K) (mg:=mg) (base:=base) (CX:=CX0) F10 T
 have R11:=ok_word_pc (P:=l.prog) (w:=w) (K:=K) (mg:=mg) (base:=base) (CX:=CX0) F11
 have R12:=ok_word_pu (P:=l.prog) (w:=w) (K:=K) (mg:=mg) (base:=base) (CX:=CX0) F12
 have R13:=ok_word_ho (P:=l.prog) (w:=w) (K:=K) (mg:=mg) (base:=base) (CX:=CX0) F13
 have GW:∀k,FnOk l.prog w K mg base CX0 1 (kd3 f11 f12 f13 k) (kd3 _ _ _ k) ["self"] (spWord k):=all3 (R11) (R12) (R13)
 have bW:∀k,Binds K (kd3 _ _ _ k) ["self"] []:=all3 (b11) (b12) (b13)
 have mW:∀k,Meth K (kd3 c_Piece c_Push c_Hold k) "word" (kd3 f11 f12 f13 k):=all3 (⟨a11_0,i11,k11⟩) (⟨a12_0,i12,k12⟩) (⟨a13_0,i13,k13⟩)
 have R14:=ok_rtold (P:=l.prog) (w:=w) (K:=K) (mg:=mg) (base:=base) (CX:=CX0) F14 T GW bW mW
 have mT:∀k,Meth K (kd3 c_Piece c_Push c_Hold k) "told" f14:=all3 (⟨a14_0,i14,k14⟩) (⟨a14_1,i14,k14⟩) (⟨a14_2,i14,k14⟩)
 have MK:∀k,Mk K (kd3 c_Piece c_Push c_Hold k) f10:=all3 (⟨mk_Piece,a10_0,i10,kc_Piece⟩) (⟨mk_Push,a10_1,i10,kc_Push⟩) (⟨mk_Hold,a10_2,i10,kc_Hold⟩)
 have R15:=ok_rowof (P:=l.prog) (w:=w) (K:=K) (mg:=mg) (base:=base) (CX:=CX0) F15 T bl n_str R10 b10 MK
 have R16:=ok_rat (P:=l.prog) (w:=w) (K:=K) (mg:=mg) (base:=base) (CX:=CX0) F16 T GW bW mW R15 b15 k15 m15
 have mA:∀k,Meth K (kd3 c_Piece c_Push c_Hold k) "at" f16:=all3 (⟨a16_0,i16,k16⟩) (⟨a16_1,i16,k16⟩) (⟨a16_2,i16,k16⟩)
 have R17:=ok_ps (P:=l.prog) (w:=w) (K:=K) (mg:=mg) (base:=base) (CX:=CX0) F17 fN mv_NOUGHT R9 b9 k9 m9 R3 b3 k3 m3
 have R18:=ok_nb (P:=l.prog) (w:=w) (K:=K) (mg:=mg) (base:=base) (CX:=CX0) F18  R1 b1 k1 m1
 have R19:=ok_rs (P:=l.prog) (w:=w) (K:=K) (mg:=mg) (base:=base) F19  R9 b9 k9 m9 R17 b17 k17 m17 mc_NoSize x1_NoSize
 have R20:=ok_rp (P:=l.prog) (w:=w) (K:=K) (mg:=mg) (base:=base) (CX:=CX0) F20 n_all R18 b18 k18 m18
 have R21:=ok_ninit (P:=l.prog) (w:=w) (K:=K) (mg:=mg) (base:=base) F21 NTx mc_NoPoint x1_NoPoint mv_MOST_POINTS R1 b1 k1 m1
 have R22:=ok_add (P:=l.prog) (w:=w) (K:=K) (mg:=mg) (base:=base) (CX:=CX0) F22 NTx mv_MOST_ROWS n_len T R14 b14 mT R20 b20 k20 m20 (rs_good R19) b19 k19 m19
 have R23:=ok_many (P:=l.prog) (w:=w) (K:=K) (mg:=mg) (base:=base) (CX:=CX0) F23 NTx
 have R24:=ok_ntold (P:=l.prog) (w:=w) (K:=K) (mg:=mg) (base:=base) (CX:=CX0) F24 NTx n_list
 have MN:Mk K c_Net f21:=⟨mk_Net,a21_0,i21,kc_Net⟩
 have R25:=ok_name (P:=l.prog) (w:=w) (K:=K) (mg:=mg) (base:=base) (CX:=CX0) F25 bl n_str n_len n_all mv_LETTERS mv_MOST_LETTERS
 have R26:=ok_rnames (P:=l.prog) (w:=w) (K:=K) (mg:=mg) (base:=base) F26 n_all R25 b25 k25 m25 mc_NoName x1_NoName
 have R27:=ok_words (P:=l.prog) (w:=w) (K:=K) (mg:=mg) (base:=base) F27 bl n_str mc_NoRow x1_NoRow
 have R28:=ok_form (P:=l.prog) (w:=w) (K:=K) (mg:=mg) (base:=base) (CX:=CX0) F28 hW mv_ROW_WORDS
 have R29:=ok_rform (P:=l.prog) (w:=w) (K:=K) (mg:=mg) (base:=base) F29 n_len R28 b28 k28 m28 mc_NoRow x1_NoRow
 have R30:=ok_pinit (P:=l.prog) (w:=w) (K:=K) (mg:=mg) (base:=base) (CX:=CX0) F30 PTx n_list
 have MP:Mk K c_Plan f30:=⟨mk_Plan,a30_0,i30,kc_Plan⟩
 have R31:=ok_pcopy (P:=l.prog) (w:=w) (K:=K) (mg:=mg) (base:=base) (CX:=CX0) F31 PTx n_list R30 b30 MP
 have R32:=ok_place (P:=l.prog) (w:=w) (K:=K) (mg:=mg) (base:=base) (CX:=CX0) F32 PTx
 have R33:=ok_enter (P:=l.prog) (w:=w) (K:=K) (mg:=mg) (base:=base) (CX:=CX0) F33 PTx R32 b32 ⟨a32_0,i32,k32⟩
 have R34:=ok_put (P:=l.prog) (w:=w) (K:=K) (mg:=mg) (base:=base) (CX:=CX0) F34 PTx R32 b32 ⟨a32_0,i32,k32⟩ T R14 b14 mT R16 b16 mA R15 b15 k15 m15
 have R35:=ok_over (P:=l.prog) (w:=w) (K:=K) (mg:=mg) (base:=base) (CX:=CX0) F35 PTx mv_MOST_POINTS mv_MOST_ROWS n_len
 have R36:=ok_pnet (P:=l.prog) (w:=w) (K:=K) (mg:=mg) (base:=base) F36 PTx NTx n_len R21 b21 MN R22 b22 ⟨a22_0,i22,k22⟩ R15 b15 k15 m15
 have R37:=ok_rover (P:=l.prog) (w:=w) (K:=K) (mg:=mg) (base:=base) F37 PTx R35 b35 ⟨a35_0,i35,k35⟩ mc_TooMany x1_TooMany
 have R38:=ok_yinit (P:=l.prog) (w:=w) (K:=K) (mg:=mg) (base:=base) (CX:=CX0) F38 YTx PTx R30 b30 MP
 have MY:Mk K c_Yard f38:=⟨mk_Yard,a38_0,i38,kc_Yard⟩
 have R39:=ok_cot (P:=l.prog) (w:=w) (K:=K) (mg:=mg) (base:=base) (CX:=CX0) F39 YTx PTx R31 b31 ⟨a31_0,i31,k31⟩
 have R40:=ok_keep (P:=l.prog) (w:=w) (K:=K) (mg:=mg) (base:=base) F40 YTx R37 b37 k37 m37
 have R41:=ok_beg (P:=l.prog) (w:=w) (K:=K) (mg:=mg) (base:=base) F41 YTx PTx n_len n_set mv_MOST_PARTS R26 b26 k26 m26 R37 b37 k37 m37 R30 b30 MP mc_NoRow x1_NoRow mc_NoName x1_NoName mc_TooMany x1_TooMany
 have R42:=ok_end (P:=l.prog) (w:=w) (K:=K) (mg:=mg) (base:=base) F42 YTx (CP:=c_Plan) mc_NoRow x1_NoRow
 have R43:=ok_eput (P:=l.prog) (w:=w) (K:=K) (mg:=mg) (base:=base) F43 YTx PTx n_len R26 b26 k26 m26 R39 b39 ⟨a39_0,i39,k39⟩ R34 b34 ⟨a34_0,i34,k34⟩ R40 b40 ⟨a40_0,i40,k40⟩ mc_NoName x1_NoName
 have R44:=ok_erow (P:=l.prog) (w:=w) (K:=K) (mg:=mg) (base:=base) F44 YTx PTx R26 b26 k26 m26 R8 b8 k8 m8 R19 b19 k19 m19 R39 b39 ⟨a39_0,i39,k39⟩ R33 b33 ⟨a33_0,i33,k33⟩ R40 b40 ⟨a40_0,i40,k40⟩
 have R45:=ok_tell (P:=l.prog) (w:=w) (K:=K) (mg:=mg) (base:=base) F45 YTx R27 b27 k27 m27 R29 b29 k29 m29 R41 b41 ⟨a41_0,i41,k41⟩ R42 b42 ⟨a42_0,i42,k42⟩ R43 b43 ⟨a43_0,i43,k43⟩ R44 b44 ⟨a44_0,i44,k44⟩
 have R46:=ok_names (P:=l.prog) (w:=w) (K:=K) (mg:=mg) (base:=base) (CX:=CX0) F46 YTx PTx n_list
 have R47:=ok_ynet (P:=l.prog) (w:=w) (K:=K) (mg:=mg) (base:=base) F47 YTx PTx R36 b36 ⟨a36_0,i36,k36⟩
 have R48:=ok_pick (P:=l.prog) (w:=w) (K:=K) (mg:=mg) (base:=base) (CX:=CX0) F48
 have R49:=ok_mixF (P:=l.prog) (w:=w) (K:=K) (mg:=mg) (base:=base) (CX:=CX0) F49
 have R50:=ok_namel (P:=l.prog) (w:=w) (K:=K) (mg:=mg) (base:=base) (CX:=CX0) F50  R49 b49 k49 m49
 have R51:=ok_rowi (P:=l.prog) (w:=w) (K:=K) (mg:=mg) (base:=base) (CX:=CX0) F51 n_len R49 b49 k49 m49
 have R52:=ok_items (P:=l.prog) (w:=w) (K:=K) (mg:=mg) (base:=base) (CX:=CX0) F52 n_len n_range R48 b48 k48 m48 R49 b49 k49 m49 R51 b51 k51 m51 R50 b50 k50 m50
 have R53:=ok_book (P:=l.prog) (w:=w) (K:=K) (mg:=mg) (base:=base) (CX:=CX0) F53 n_range R48 b48 k48 m48 R49 b49 k49 m49 R50 b50 k50 m50 R52 b52 k52 m52
 have R54:=ok_written (P:=l.prog) (w:=w) (K:=K) (mg:=mg) (base:=base) (CX:=CX0) F54 n_str nd R50 b50 k50 m50
 have R55:=ok_out (P:=l.prog) (w:=w) (K:=K) (mg:=mg) (base:=base) F55 n_len n_range b55 k55 m55 4
 have R56:=ok_badform (P:=l.prog) (w:=w) (K:=K) (mg:=mg) (base:=base) (CX:=CX0) F56  R49 b49 k49 m49
 have R57:=ok_badput (P:=l.prog) (w:=w) (K:=K) (mg:=mg) (base:=base) (CX:=CX0) F57 n_len R49 b49 k49 m49
 have R58:=ok_bad (P:=l.prog) (w:=w) (K:=K) (mg:=mg) (base:=base) (CX:=CX0) F58 n_len R49 b49 k49 m49 R56 b56 k56 m56 R57 b57 k57 m57
 have R59:=ok_told (P:=l.prog) (w:=w) (K:=K) (mg:=mg) (base:=base) (CX:=CX0) F59 (cl:=ek4 c_NoRow c_NoName c_NoNumber c_NoSize) YTx bl ec R45 b45 ⟨a45_0,i45,k45⟩
 have R60:=ok_walked (P:=l.prog) (w:=w) (K:=K) (mg:=mg) (base:=base) (CX:=CX0) F60 YTx bl n_len n_range R46 b46 ⟨a46_0,i46,k46⟩ R48 b48 k48 m48 R49 b49 k49 m49 R58 b58 k58 m58 R59 b59 k59 m59
 exact ok_law (P:=l.prog) (w:=w) (K:=K) (mg:=mg) (base:=base) (CX:=CX0) F61 YTx NTx bl n_len n_list n_range R38 b38 MY R47 b47 ⟨a47_0,i47,k47⟩ R24 b24 ⟨a24_0,i24,k24⟩ R23 b23 ⟨a23_0,i23,k23⟩ R46 b46 ⟨a46_0,i46,k46⟩ R48 b48 k48 m48 R50 b50 k50 m50 R53 b53 k53 m53 R52 b52 k52 m52 R55 b55 k55 m55 R54 b54 k54 m54 R60 b60 k60 m60
theorem walk {l:PySem.W.OpenLaw}{q:Program}{loose:List Str}{XP:(Str→Option Value)→Heap→Prop}{YP:World→Heap→Prop}{d:DefRec}{K:Params→PySem.W.Frag}(hn:l.most=some 63)(hdf:d.params.defaults=[])(hY:∀(w:World) (h:Heap),YP w h→(K w.params).In h)(F:∀(w:World) (mg:Str→Option Value) (fa:Addr) (h:Heap),(K w.params).In h→h.Ns mainGlobals mg→mg d.name=some (.ref fa)→
   ∃fd:FuncData,(∀(s:Shared) (u:Value),BindsTo s fd ⟨[u],[]⟩ [("_law_script",u)])∧∀base:Heap,(K w.params).In base→base.Ns mainGlobals mg→FnOk l.prog w (K w.params) mg base CX0 10 fa fd ["_law_script"] (spLaw (K w.params))) :
  PySem.W.WalkO q loose XP YP l.row.toRowW d [] (fun f vs=>PySem.call f vs):=
 L2.walk_of (n:=63) (k:=10) (x:="_law_script") (CX:=fun _=>CX0) (sp:=fun w=>spLaw (K w.params)) hn (by decide) hdf ⟨rfl,by decide,by decide⟩ hY F (fun _ _ a ns hl _ hS=>⟨a,ns,rfl,hS,hl,fun _=>rfl⟩) fun _ _ _ _ _ z=>z
end K84
namespace PySem.W.Fast
def tw15629952594400770751:=0
def tw1140345018134341385:=0
def tw3059524272074822182:=0
def tw13798831583818450610:=0
def tw6772160425405769107:=0
def tw4973747253798231784:=0
def tw817410850313144448:=0
def tw12783574852503077961:=0
def tw12042652020777135911:=0
def tw10233560032132988396:=0
def tw13054304745048784197:=0
def tw7118049424942789315:=0
def tw9201301093637651649:=0
def tw18176020227593514119:=0
def tw378168149309133292:=0
def tw17123884245494599813:=0
def tw14761311625934309407:=0
def tw11767137699976284902:=0
def tw1934892320632782678:=0
def tw8637103775319010498:=0
def tw7661296399788481233:=0
def tw4374227679028007775:=0
def tw8511762208111845771:=0
def tw3772328855991672228:=0
def tw16028865327168941811:=0
def tw4230630014874327972:=0
def tw12870681949800249416:=0
def tw15851190038484863674:=0
def tw17770707562365015510:=0
def tw1502501757190821148:=0
def tw3739355698239994467:=0
def tw11823863707338071468:=0
def tw2397931084378979494:=0
def tw11710129581850202270:=0
def tw2216097495758582626:=0
def tw16159722448254742952:=0
def tw6817503548287221300:=0
def tw14218959505954602479:=0
def tw7418416504522170753:=0
def tw7423330620961966587:=0
def tw2949535303035195727:=0
def tw11164191230732447150:=0
def tw12860158932844026030:=0
def tw4284682017064105096:=0
def tw12611276216262091935:=0
def tw16350905965245140375:=0
def tw14965151645309320901:=0
def tw13589753994337176108:=0
def tw7196382496020252096:=0
def tw13735858312015728350:=0
def tw5921836857137627504:=0
def tw13248922640977136676:=0
def tw5674923261327600081:=0
def tw7100394445245105542:=0
def tw13199285295247024159:=0
def tw6343607687263234631:=0
def tw520639878581438033:=0
def tw16085994877103225187:=0
def tw17999290577509759187:=0
def tw609322910370333252:=0
def tw2294324987712655784:=0
def tw9132991247512749713:=0
def tw10464341409046699166:=0
def tw7723896846090869060:=0
def tw12605674510838981240:=0
def tw11979022498959643149:=0
def tw16830344552698940752:=0
def tw5846802175572299606:=0
def tw2494784076039477879:=0
def tw1061446566678715518:=0
def tw13875348766928641604:=0
def tw15892142115133241966:=0
def tw11085623731593435314:=0
def tw13814498012427447671:=0
def tw2937701840931445593:=0
def tw1730494291518370070:=0
def tw6570492027055288236:=0
def tw6127997168409936997:=0
def tw977155185794263048:=0
def tw2606453088562321916:=0
def tw1006072642587360008:=0
def tw17794020510371045704:=0
def tw10462228733255933844:=0
def tw11268102374892522144:=0
def tw2507948701616547237:=0
def tw2361354725223820992:=0
def tw4558029761878770111:=0
def tw8126910960931608926:=0
def tw16598707406324418261:=0
def tw2000299887499669934:=0
def tw14268446856034110021:=0
def tw10032138276676851591:=0
def tw16332316017150703811:=0
def tw4054151103731694152:=0
def tw14283969438727484116:=0
def tw693116959492543810:=0
def tw17005054351480713218:=0
def tw3616171160645462869:=0
def tw12002561076742130543:=0
def tw4498592066878967507:=0
def tw5323392551345634622:=0
def tw1563658126072480282:=0
def tw3043968543341193075:=0
def tw15831915116562834649:=0
def tw18178089783001956113:=0
def tw12772804309609746734:=0
def tw8574082642228870928:=0
def tw1938271320797763877:=0
def tw1576954202987957362:=0
def tw15813559225742969713:=0
def tw2487136448951134040:=0
def tw16131279971960855379:=0
def tw8404702919289531771:=0
def tw10567325841781829973:=0
def tw18363852425809981057:=0
def tw3688740164044631861:=0
def tw6703090815314248125:=0
def tw9085318096738063399:=0
def tw3908434687817498935:=0
def tw17216959760538579523:=0
def tw1293463246630236179:=0
def tw4502579493696310185:=0
def tw8493357788746422292:=0
def tw14833706218771061312:=0
def tw7330784779238230337:=0
def tw2551329775008183106:=0
def tw16353624054515233625:=0
def tw3020532143942620139:=0
def tw6491417181793367364:=0
def tw18211002643537465601:=0
def tw17461447079454988740:=0
def tw12784642003548160100:=0
def tw11005946647353190492:=0
def tw14275183649895772175:=0
def tw17677000722451689578:=0
def tw16973061041072616555:=0
def tw4695605353766217827:=0
def tw14365816146152265030:=0
def tw1622793545826781170:=0
def tw14043437118131454571:=0
def tw7769574282265617247:=0
def tw9135133168137653703:=0
def tw9287492435661018771:=0
def tw357372641731179545:=0
def tw4645403381197730599:=0
def tw12877872532817401660:=0
def tw8848152676972155100:=0
def tw7212751415522883318:=0
def tw5470269490950671921:=0
def tw13797340291609388415:=0
def tw2178630629147518846:=0
def tw10758340779792740026:=0
def tw5444672471559312643:=0
def tw12719360463279177851:=0
def tw15980492506321049023:=0
def tw8880145668047319757:=0
def tw12416169824594975202:=0
def tw17684449959870551617:=0
def tw12529031311892238747:=0
def tw10173318715156316322:=0
def tw2248048361026355832:=0
def tw14301779150809713121:=0
def tw5030033581563451127:=0
def tw5238644136326609060:=0
def tw210356715730162475:=0
def tw3798362017161119500:=0
def tw10099803251404941043:=0
def tw5357083320755318404:=0
def tw7476069598631112618:=0
def tw1838724124682461432:=0
def tw14874543637501622212:=0
def tw4549580867246554189:=0
def tw10268211387986992161:=0
def tw10333754075706395427:=0
def tw6354487629239688538:=0
def tw14037620991600288916:=0
def tw49136224633562428:=0
def tw12258157240147909572:=0
def tw12062381310262761926:=0
def tw13838821386948166535:=0
def tw16668721711398366894:=0
def tw9001734623948713525:=0
def tw1754941531302630606:=0
def tw2494278693699956229:=0
def tw12395265438490525356:=0
def tw7214036836431643228:=0
def tw2024460500462889759:=0
def tw17452639094011788823:=0
def tw10116157216012047439:=0
def tw13734142309389967083:=0
def tw13370619574045286439:=0
def tw12987649024353883743:=0
def tw8302604396879560318:=0
def tw4825176907804453707:=0
def tw9688291795003110768:=0
def tw14440260445153022614:=0
def tw9710880271334054558:=0
def tw708576524355310047:=0
def tw15070062015425541672:=0
def tw9829245345791206620:=0
def tw15563137620734767622:=0
def tw10689785834659469506:=0
def tw17182252987789814270:=0
def tw5968561068831429028:=0
def tw10086456989870240988:=0
def tw3329850649277157679:=0
def tw932526754859462980:=0
def tw6085583093718819152:=0
def tw17373802746589012293:=0
def tw3291010828902625113:=0
def tw6098134045805257645:=0
def tw7731424867656540760:=0
def tw14931949706344177650:=0
def tw1640911355791814033:=0
end PySem.W.Fast
open PySem PySem.W PyProof.Rows
set_option maxRecDepth 100000 in
set_option maxHeartbeats 0 in
theorem PySem.Challenge.cw_ohmyard_k84_parts_refused_holds : PySem.Challenge.rw_ohmyard_k84_parts_refused.Holds := by
  w_on; o_law; z_head; (case hw => w_witness2)
  k_fill
  refine L2.walkX_of (fun _ => by kernel_rfl) (K84.walk (l := PySem.Challenge.rw_ohmyard_k84_parts_refused) rfl rfl (fun w h Y => Y) ?F)
  case F =>
    intro w mg fa h KX G hmg
    refine' K84.all_mk KX G hmg ?y_OhmError ?y_NoRow ?y_NoName ?y_NoNumber ?y_NoSize ?y_NoPoint ?y_TooMany ?y_Row ?y_Piece ?y_Push ?y_Hold ?y_Net ?y_Plan ?y_Yard ?a1 ?l1 ?c1 ?k1 ?a2 ?l2 ?c2 ?k2 ?a3 ?l3 ?c3 ?k3 ?a4 ?l4 ?c4 ?k4 ?lt4 ?a5 ?l5 ?c5 ?k5 ?a6 ?l6 ?c6 ?k6 ?a7 ?l7 ?c7 ?k7 ?a8 ?l8 ?c8 ?k8 ?a9 ?l9 ?c9 ?k9 ?a10_0 ?a10_1 ?a10_2 ?i10 ?l10 ?c10 ?k10 ?a11_0 ?i11 ?l11 ?c11 ?k11 ?a12_0 ?i12 ?l12 ?c12 ?k12 ?a13_0 ?i13 ?l13 ?c13 ?k13 ?a14_0 ?a14_1 ?a14_2 ?i14 ?l14 ?c14 ?k14 ?a15 ?l15 ?c15 ?k15 ?a16_0 ?a16_1 ?a16_2 ?i16 ?l16 ?c16 ?k16 ?a17 ?l17 ?c17 ?k17 ?a18 ?l18 ?c18 ?k18 ?a19 ?l19 ?c19 ?k19 ?a20 ?l20 ?c20 ?k20 ?a21_0 ?i21 ?l21 ?c21 ?k21 ?a22_0 ?i22 ?l22 ?c22 ?k22 ?a23_0 ?i23 ?l23 ?c23 ?k23 ?a24_0 ?i24 ?l24 ?c24 ?k24 ?a25 ?l25 ?c25 ?k25 ?a26 ?l26 ?c26 ?k26 ?a27 ?l27 ?c27 ?k27 ?a28 ?l28 ?c28 ?k28 ?a29 ?l29 ?c29 ?k29 ?a30_0 ?i30 ?l30 ?c30 ?k30 ?a31_0 ?i31 ?l31 ?c31 ?k31 ?a32_0 ?i32 ?l32 ?c32 ?k32 ?a33_0 ?i33 ?l33 ?c33 ?k33 ?a34_0 ?i34 ?l34 ?c34 ?k34 ?a35_0 ?i35 ?l35 ?c35 ?k35 ?a36_0 ?i36 ?l36 ?c36 ?k36 ?a37 ?l37 ?c37 ?k37 ?a38_0 ?i38 ?l38 ?c38 ?k38 ?a39_0 ?i39 ?l39 ?c39 ?k39 ?a40_0 ?i40 ?l40 ?c40 ?k40 ?a41_0 ?i41 ?l41 ?c41 ?k41 ?a42_0 ?i42 ?l42 ?c42 ?k42 ?a43_0 ?i43 ?l43 ?c43 ?k43 ?a44_0 ?i44 ?l44 ?c44 ?k44 ?a45_0 ?i45 ?l45 ?c45 ?k45 ?a46_0 ?i46 ?l46 ?c46 ?k46 ?a47_0 ?i47 ?l47 ?c47 ?k47 ?a48 ?l48 ?c48 ?k48 ?a49 ?l49 ?c49 ?k49 ?a50 ?l50 ?c50 ?k50 ?a51 ?l51 ?c51 ?k51 ?a52 ?l52 ?c52 ?k52 ?a53 ?l53 ?c53 ?k53 ?a54 ?l54 ?c54 ?k54 ?a55 ?l55 ?c55 ?k55 ?a56 ?l56 ?c56 ?k56 ?a57 ?l57 ?c57 ?k57 ?a58 ?l58 ?c58 ?k58 ?a59 ?l59 ?c59 ?k59 ?a60 ?l60 ?c60 ?k60 ?a61 ?l61 ?c61 ?k61 ?v_NOUGHT ?v_ROW_WORDS ?v_MOST_POINTS ?v_MOST_ROWS ?v_FIGURES ?v_MOST_FIGURES ?v_LETTERS ?v_MOST_LETTERS ?v_MOST_PARTS ?lN ?lW ?pg_Piece ?hd_Piece ?po_Piece ?sa_Piece ?mk_Piece ?kc_Piece ?t1_Piece ?t4_Piece ?na_Piece_start ?na_Piece_goal ?na_Piece_size ?pg_Push ?hd_Push ?po_Push ?sa_Push ?mk_Push ?kc_Push ?t1_Push ?t4_Push ?na_Push_start ?na_Push_goal ?na_Push_size ?pg_Hold ?hd_Hold ?po_Hold ?sa_Hold ?mk_Hold ?kc_Hold ?t1_Hold ?t4_Hold ?na_Hold_start ?na_Hold_goal ?na_Hold_size ?tt2 ?tt3 ?isR_Piece ?isR_Push ?isR_Hold ?isK_Piece_Push ?isK_Piece_Hold ?isK_Push_Piece ?isK_Push_Hold ?isK_Hold_Piece ?isK_Hold_Push ?pg_Net ?hd_Net ?po_Net ?sa_Net ?mk_Net ?kc_Net ?t1_Net ?t4_Net ?na_Net_point_count ?na_Net_kept ?x1_NoRow ?x2_NoRow ?x3_NoRow ?x4_NoRow ?x5_NoRow ?x6_NoRow ?x7_NoRow ?x8_NoRow ?x9_NoRow ?x1_NoName ?x2_NoName ?x3_NoName ?x4_NoName ?x5_NoName ?x6_NoName ?x7_NoName ?x8_NoName ?x9_NoName ?x1_NoNumber ?x2_NoNumber ?x3_NoNumber ?x4_NoNumber ?x5_NoNumber ?x6_NoNumber ?x7_NoNumber ?x8_NoNumber ?x9_NoNumber ?x1_NoSize ?x2_NoSize ?x3_NoSize ?x4_NoSize ?x5_NoSize ?x6_NoSize ?x7_NoSize ?x8_NoSize ?x9_NoSize ?x1_NoPoint ?x2_NoPoint ?x3_NoPoint ?x4_NoPoint ?x5_NoPoint ?x6_NoPoint ?x7_NoPoint ?x8_NoPoint ?x9_NoPoint ?x1_TooMany ?x2_TooMany ?x3_TooMany ?x4_TooMany ?x5_TooMany ?x6_TooMany ?x7_TooMany ?x8_TooMany ?x9_TooMany ?nd ?pg_Plan ?hd_Plan ?po_Plan ?sa_Plan ?mk_Plan ?kc_Plan ?na_Plan_labels ?na_Plan_end_count ?na_Plan_entries ?na_Plan_put_names ?pg_Yard ?hd_Yard ?po_Yard ?sa_Yard ?mk_Yard ?kc_Yard ?na_Yard_ground ?na_Yard_parts ?na_Yard_opened ?na_Yard_opened_plan ?q1_r ?qn_r ?qa_r ?qk_rm ?qk_ru ?qk_rz ?q1_m ?qn_m ?qa_m ?qk_mr ?qk_mu ?qk_mz ?q1_u ?qn_u ?qa_u ?qk_ur ?qk_um ?qk_uz ?q1_z ?qn_z ?qa_z ?qk_zr ?qk_zm ?qk_zu ?z1 ?z2 ?z3 ?z4 ?z5 ?z6 ?z7 ?z8 ?z9 ?z10 ?z11
    (case y_OhmError=>k_is)
    (case y_NoRow=>k_is)
    (case y_NoName=>k_is)
    (case y_NoNumber=>k_is)
    (case y_NoSize=>k_is)
    (case y_NoPoint=>k_is)
    (case y_TooMany=>k_is)
    (case y_Row=>k_is)
    (case y_Piece=>k_is)
    (case y_Push=>k_is)
    (case y_Hold=>k_is)
    (case y_Net=>k_is)
    (case y_Plan=>k_is)
    (case y_Yard=>k_is)
    (case a1=>k_is);(case l1=>k_is);(case c1=>k_is);(case k1=>k_is)
    (case a2=>k_is);(case l2=>k_is);(case c2=>k_is);(case k2=>k_is)
    (case a3=>k_is);(case l3=>k_is);(case c3=>k_is);(case k3=>k_is)
    (case a4=>k_is);(case l4=>k_is);(case c4=>k_is);(case k4=>k_is);(case lt4=>k_is)
    (case a5=>k_is);(case l5=>k_is);(case c5=>k_is);(case k5=>k_is)
    (case a6=>k_is);(case l6=>k_is);(case c6=>k_is);(case k6=>k_is)
    (case a7=>k_is);(case l7=>k_is);(case c7=>k_is);(case k7=>k_is)
    (case a8=>k_is);(case l8=>k_is);(case c8=>k_is);(case k8=>k_is)
    (case a9=>k_is);(case l9=>k_is);(case c9=>k_is);(case k9=>k_is)
    (case a10_0=>k_is);(case a10_1=>k_is);(case a10_2=>k_is);(case i10=>k_is);(case l10=>k_is);(case c10=>k_is);(case k10=>k_is)
    (case a11_0=>k_is);(case i11=>k_is);(case l11=>k_is);(case c11=>k_is);(case k11=>k_is)
    (case a12_0=>k_is);(case i12=>k_is);(case l12=>k_is);(case c12=>k_is);(case k12=>k_is)
    (case a13_0=>k_is);(case i13=>k_is);(case l13=>k_is);(case c13=>k_is);(case k13=>k_is)
    (case a14_0=>k_is);(case a14_1=>k_is);(case a14_2=>k_is);(case i14=>k_is);(case l14=>k_is);(case c14=>k_is);(case k14=>k_is)
    (case a15=>k_is);(case l15=>k_is);(case c15=>k_is);(case k15=>k_is)
    (case a16_0=>k_is);(case a16_1=>k_is);(case a16_2=>k_is);(case i16=>k_is);(case l16=>k_is);(case c16=>k_is);(case k16=>k_is)
    (case a17=>k_is);(case l17=>k_is);(case c17=>k_is);(case k17=>k_is)
    (case a18=>k_is);(case l18=>k_is);(case c18=>k_is);(case k18=>k_is)
    (case a19=>k_is);(case l19=>k_is);(case c19=>k_is);(case k19=>k_is)
    (case a20=>k_is);(case l20=>k_is);(case c20=>k_is);(case k20=>k_is)
    (case a21_0=>k_is);(case i21=>k_is);(case l21=>k_is);(case c21=>k_is);(case k21=>k_is)
    (case a22_0=>k_is);(case i22=>k_is);(case l22=>k_is);(case c22=>k_is);(case k22=>k_is)
    (case a23_0=>k_is);(case i23=>k_is);(case l23=>k_is);(case c23=>k_is);(case k23=>k_is)
    (case a24_0=>k_is);(case i24=>k_is);(case l24=>k_is);(case c24=>k_is);(case k24=>k_is)
    (case a25=>k_is);(case l25=>k_is);(case c25=>k_is);(case k25=>k_is)
    (case a26=>k_is);(case l26=>k_is);(case c26=>k_is);(case k26=>k_is)
    (case a27=>k_is);(case l27=>k_is);(case c27=>k_is);(case k27=>k_is)
    (case a28=>k_is);(case l28=>k_is);(case c28=>k_is);(case k28=>k_is)
    (case a29=>k_is);(case l29=>k_is);(case c29=>k_is);(case k29=>k_is)
    (case a30_0=>k_is);(case i30=>k_is);(case l30=>k_is);(case c30=>k_is);(case k30=>k_is)
    (case a31_0=>k_is);(case i31=>k_is);(case l31=>k_is);(case c31=>k_is);(case k31=>k_is)
    (case a32_0=>k_is);(case i32=>k_is);(case l32=>k_is);(case c32=>k_is);(case k32=>k_is)
    (case a33_0=>k_is);(case i33=>k_is);(case l33=>k_is);(case c33=>k_is);(case k33=>k_is)
    (case a34_0=>k_is);(case i34=>k_is);(case l34=>k_is);(case c34=>k_is);(case k34=>k_is)
    (case a35_0=>k_is);(case i35=>k_is);(case l35=>k_is);(case c35=>k_is);(case k35=>k_is)
    (case a36_0=>k_is);(case i36=>k_is);(case l36=>k_is);(case c36=>k_is);(case k36=>k_is)
    (case a37=>k_is);(case l37=>k_is);(case c37=>k_is);(case k37=>k_is)
    (case a38_0=>k_is);(case i38=>k_is);(case l38=>k_is);(case c38=>k_is);(case k38=>k_is)
    (case a39_0=>k_is);(case i39=>k_is);(case l39=>k_is);(case c39=>k_is);(case k39=>k_is)
    (case a40_0=>k_is);(case i40=>k_is);(case l40=>k_is);(case c40=>k_is);(case k40=>k_is)
    (case a41_0=>k_is);(case i41=>k_is);(case l41=>k_is);(case c41=>k_is);(case k41=>k_is)
    (case a42_0=>k_is);(case i42=>k_is);(case l42=>k_is);(case c42=>k_is);(case k42=>k_is)
    (case a43_0=>k_is);(case i43=>k_is);(case l43=>k_is);(case c43=>k_is);(case k43=>k_is)
    (case a44_0=>k_is);(case i44=>k_is);(case l44=>k_is);(case c44=>k_is);(case k44=>k_is)
    (case a45_0=>k_is);(case i45=>k_is);(case l45=>k_is);(case c45=>k_is);(case k45=>k_is)
    (case a46_0=>k_is);(case i46=>k_is);(case l46=>k_is);(case c46=>k_is);(case k46=>k_is)
    (case a47_0=>k_is);(case i47=>k_is);(case l47=>k_is);(case c47=>k_is);(case k47=>k_is)
    (case a48=>k_is);(case l48=>k_is);(case c48=>k_is);(case k48=>k_is)
    (case a49=>k_is);(case l49=>k_is);(case c49=>k_is);(case k49=>k_is)
    (case a50=>k_is);(case l50=>k_is);(case c50=>k_is);(case k50=>k_is)
    (case a51=>k_is);(case l51=>k_is);(case c51=>k_is);(case k51=>k_is)
    (case a52=>k_is);(case l52=>k_is);(case c52=>k_is);(case k52=>k_is)
    (case a53=>k_is);(case l53=>k_is);(case c53=>k_is);(case k53=>k_is)
    (case a54=>k_is);(case l54=>k_is);(case c54=>k_is);(case k54=>k_is)
    (case a55=>k_is);(case l55=>k_is);(case c55=>k_is);(case k55=>k_is)
    (case a56=>k_is);(case l56=>k_is);(case c56=>k_is);(case k56=>k_is)
    (case a57=>k_is);(case l57=>k_is);(case c57=>k_is);(case k57=>k_is)
    (case a58=>k_is);(case l58=>k_is);(case c58=>k_is);(case k58=>k_is)
    (case a59=>k_is);(case l59=>k_is);(case c59=>k_is);(case k59=>k_is)
    (case a60=>k_is);(case l60=>k_is);(case c60=>k_is);(case k60=>k_is)
    (case a61=>k_is);(case l61=>k_is);(case c61=>k_is);(case k61=>k_is)
    (case v_NOUGHT=>k_is)
    (case v_ROW_WORDS=>k_is)
    (case v_MOST_POINTS=>k_is)
    (case v_MOST_ROWS=>k_is)
    (case v_FIGURES=>k_is)
    (case v_MOST_FIGURES=>k_is)
    (case v_LETTERS=>k_is)
    (case v_MOST_LETTERS=>k_is)
    (case v_MOST_PARTS=>k_is)
    (case lN=>k_is)
    (case lW=>k_is)
    (case pg_Piece=>k_is)
    (case hd_Piece=>k_is)
    (case po_Piece=>k_is)
    (case sa_Piece=>k_is)
    (case mk_Piece=>k_is)
    (case kc_Piece=>k_is)
    (case t1_Piece=>k_is)
    (case t4_Piece=>k_is)
    (case na_Piece_start=>k_is)
    (case na_Piece_goal=>k_is)
    (case na_Piece_size=>k_is)
    (case pg_Push=>k_is)
    (case hd_Push=>k_is)
    (case po_Push=>k_is)
    (case sa_Push=>k_is)
    (case mk_Push=>k_is)
    (case kc_Push=>k_is)
    (case t1_Push=>k_is)
    (case t4_Push=>k_is)
    (case na_Push_start=>k_is)
    (case na_Push_goal=>k_is)
    (case na_Push_size=>k_is)
    (case pg_Hold=>k_is)
    (case hd_Hold=>k_is)
    (case po_Hold=>k_is)
    (case sa_Hold=>k_is)
    (case mk_Hold=>k_is)
    (case kc_Hold=>k_is)
    (case t1_Hold=>k_is)
    (case t4_Hold=>k_is)
    (case na_Hold_start=>k_is)
    (case na_Hold_goal=>k_is)
    (case na_Hold_size=>k_is)
    (case tt2=>k_is)
    (case tt3=>k_is)
    (case isR_Piece=>kit_is)
    (case isR_Push=>kit_is)
    (case isR_Hold=>kit_is)
    (case isK_Piece_Push=>kit_is)
    (case isK_Piece_Hold=>kit_is)
    (case isK_Push_Piece=>kit_is)
    (case isK_Push_Hold=>kit_is)
    (case isK_Hold_Piece=>kit_is)
    (case isK_Hold_Push=>kit_is)
    (case pg_Net=>k_is)
    (case hd_Net=>k_is)
    (case po_Net=>k_is)
    (case sa_Net=>k_is)
    (case mk_Net=>k_is)
    (case kc_Net=>k_is)
    (case t1_Net=>k_is)
    (case t4_Net=>k_is)
    (case na_Net_point_count=>k_is)
    (case na_Net_kept=>k_is)
    (case x1_NoRow=>k_exc)
    (case x2_NoRow=>k_is)
    (case x3_NoRow=>k_is)
    (case x4_NoRow=>k_is)
    (case x5_NoRow=>k_is)
    (case x6_NoRow=>k_is)
    (case x7_NoRow=>k_is)
    (case x8_NoRow=>k_is)
    (case x9_NoRow=>first | k_is | rfl | decide)
    (case x1_NoName=>k_exc)
    (case x2_NoName=>k_is)
    (case x3_NoName=>k_is)
    (case x4_NoName=>k_is)
    (case x5_NoName=>k_is)
    (case x6_NoName=>k_is)
    (case x7_NoName=>k_is)
    (case x8_NoName=>k_is)
    (case x9_NoName=>first | k_is | rfl | decide)
    (case x1_NoNumber=>k_exc)
    (case x2_NoNumber=>k_is)
    (case x3_NoNumber=>k_is)
    (case x4_NoNumber=>k_is)
    (case x5_NoNumber=>k_is)
    (case x6_NoNumber=>k_is)
    (case x7_NoNumber=>k_is)
    (case x8_NoNumber=>k_is)
    (case x9_NoNumber=>first | k_is | rfl | decide)
    (case x1_NoSize=>k_exc)
    (case x2_NoSize=>k_is)
    (case x3_NoSize=>k_is)
    (case x4_NoSize=>k_is)
    (case x5_NoSize=>k_is)
    (case x6_NoSize=>k_is)
    (case x7_NoSize=>k_is)
    (case x8_NoSize=>k_is)
    (case x9_NoSize=>first | k_is | rfl | decide)
    (case x1_NoPoint=>k_exc)
    (case x2_NoPoint=>k_is)
    (case x3_NoPoint=>k_is)
    (case x4_NoPoint=>k_is)
    (case x5_NoPoint=>k_is)
    (case x6_NoPoint=>k_is)
    (case x7_NoPoint=>k_is)
    (case x8_NoPoint=>k_is)
    (case x9_NoPoint=>first | k_is | rfl | decide)
    (case x1_TooMany=>k_exc)
    (case x2_TooMany=>k_is)
    (case x3_TooMany=>k_is)
    (case x4_TooMany=>k_is)
    (case x5_TooMany=>k_is)
    (case x6_TooMany=>k_is)
    (case x7_TooMany=>k_is)
    (case x8_TooMany=>k_is)
    (case x9_TooMany=>first | k_is | rfl | decide)
    (case nd=>k_is)
    (case pg_Plan=>k_is)
    (case hd_Plan=>k_is)
    (case po_Plan=>k_is)
    (case sa_Plan=>k_is)
    (case mk_Plan=>k_is)
    (case kc_Plan=>k_is)
    (case na_Plan_labels=>k_is)
    (case na_Plan_end_count=>k_is)
    (case na_Plan_entries=>k_is)
    (case na_Plan_put_names=>k_is)
    (case pg_Yard=>k_is)
    (case hd_Yard=>k_is)
    (case po_Yard=>k_is)
    (case sa_Yard=>k_is)
    (case mk_Yard=>k_is)
    (case kc_Yard=>k_is)
    (case na_Yard_ground=>k_is)
    (case na_Yard_parts=>k_is)
    (case na_Yard_opened=>k_is)
    (case na_Yard_opened_plan=>k_is)
    (case q1_r=>kts_exm)
    (case qn_r=>kit_is)
    (case qa_r=>kit_is)
    (case qk_rm=>kit_is)
    (case qk_ru=>kit_is)
    (case qk_rz=>kit_is)
    (case q1_m=>kts_exm)
    (case qn_m=>kit_is)
    (case qa_m=>kit_is)
    (case qk_mr=>kit_is)
    (case qk_mu=>kit_is)
    (case qk_mz=>kit_is)
    (case q1_u=>kts_exm)
    (case qn_u=>kit_is)
    (case qa_u=>kit_is)
    (case qk_ur=>kit_is)
    (case qk_um=>kit_is)
    (case qk_uz=>kit_is)
    (case q1_z=>kts_exm)
    (case qn_z=>kit_is)
    (case qa_z=>kit_is)
    (case qk_zr=>kit_is)
    (case qk_zm=>kit_is)
    (case qk_zu=>kit_is)
    (case z1=>k_is)
    (case z2=>k_is)
    (case z3=>k_is)
    (case z4=>k_is)
    (case z5=>k_is)
    (case z6=>k_is)
    (case z7=>k_is)
    (case z8=>k_is)
    (case z9=>k_is)
    (case z10=>k_is)
    (case z11=>k_is)
