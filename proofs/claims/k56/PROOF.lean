import PyProof.Rows.All
import Wide.All
import OpenK.AllK
import Wide.FinOn
import Lean
import PyProof.EqAt
import PyProof.EqKinds
import PyProof.TupleCall
import PyProof.Cells
import PyProof.SumWalkG
import PyProof.EnumStmt
import PyProof.EnumMake
import PyProof.InstStoreFacts
import PyProof.Rows.SeqMore2
import KE.KDictList
import PyProof.Rows.SortWalk
import PySem.Challenge.RW_ohmyard_k56_tables_as_nets
set_option Elab.async false
set_option linter.all false
set_option maxRecDepth 100000
namespace L2
open PySem PySem.Spec PyProof.Rows
abbrev Key:=Sum Int Str
def keyIs:Key→Value→Bool
 | .inl k,v=>Value.isInt k v
 | .inr x,v=>Value.isStrOf x v
def keyH (w:World):Key→Int
 | .inl k=>hashInt k
 | .inr x=>hashStr w x
theorem keyIs_shape:∀{k:Key} {v:Value},keyIs k v=true→(∃i t,k=Sum.inl i∧v=Value.int i t)∨(∃x t,k=Sum.inr x∧v=Value.str x t)
 | .inl i,v,h=>by
  obtain⟨t,e⟩:=Value.isInt_shape (k:=i) (v:=v) h
  exact .inl ⟨i,t,rfl,e⟩
 | .inr x,v,h=>by
  obtain⟨t,e⟩:=Value.isStrOf_shape (x:=x) (v:=v) h
  exact .inr ⟨x,t,rfl,e⟩
theorem keyIs_int (i:Int)(t:Tok):keyIs (.inl i) (.int i t)=true:=by simp[keyIs,Value.isInt]
theorem keyIs_str (x:Str)(t:Tok):keyIs (.inr x) (.str x t)=true:=by simp[keyIs,Value.isStrOf]
theorem key_ll (a b:Int):decide ((Sum.inl a:Key)=Sum.inl b)=(a == b):=by
 by_cases e:a=b
 ·subst e;simp
 ·have h:¬(Sum.inl a:Key)=Sum.inl b:=fun q=>e (Sum.inl.inj q)
  rw[decide_eq_false h]
  exact(beq_eq_false_iff_ne.mpr e).symm
theorem key_rr (a b:Str):decide ((Sum.inr a:Key)=Sum.inr b)=decide (a=b):=by
 by_cases e:a=b
 ·subst e;simp
 ·have h:¬(Sum.inr a:Key)=Sum.inr b:=fun q=>e (Sum.inr.inj q)
  rw[decide_eq_false h,decide_eq_false e]
theorem key_lr (a:Int)(b:Str):decide ((Sum.inl a:Key)=Sum.inr b)=false:=decide_eq_false (fun q=>nomatch q)
theorem key_rl (a:Str)(b:Int):decide ((Sum.inr a:Key)=Sum.inl b)=false:=decide_eq_false (fun q=>nomatch q)
def mixKind (prog:Program)(w:World):PySem.KeyKind prog w Key where
 is:=keyIs
 hash:=keyH w
 inj:=fun v a b ha hb=>by
  rcases keyIs_shape ha with ⟨i,t,rfl,rfl⟩ | ⟨x,t,rfl,rfl⟩
  ·rcases keyIs_shape hb with ⟨j,u,rfl,e⟩ | ⟨y,u,rfl,e⟩
   ·injection e with e1 _;rw[e1]
   ·exact nomatch e
  ·rcases keyIs_shape hb with ⟨j,u,rfl,e⟩ | ⟨y,u,rfl,e⟩
   ·exact nomatch e
   ·injection e with e1 _;rw[e1]
 byValue:=fun k v h=>by
  rcases keyIs_shape h with ⟨i,t,rfl,rfl⟩ | ⟨x,t,rfl,rfl⟩<;>rfl
 pyHash:=fun hv h=>by
  rcases keyIs_shape hv with ⟨i,t,rfl,rfl⟩ | ⟨x,t,rfl,rfl⟩
  ·exact wpAny_pyHash_int h
  ·exact wpAny_pyHash_str h
 eqBool:=fun hu hv h=>by
  rcases keyIs_shape hu with ⟨i,t,rfl,rfl⟩ | ⟨x,t,rfl,rfl⟩
  ·rcases keyIs_shape hv with ⟨j,u,rfl,rfl⟩ | ⟨y,u,rfl,rfl⟩
   ·rw[key_ll] at h;exact wpAny_eqBool_int h
   ·rw[key_lr] at h;exact SeqAt.EqAt.int_str i t y u _ _ _ _ h
  ·rcases keyIs_shape hv with ⟨j,u,rfl,rfl⟩ | ⟨y,u,rfl,rfl⟩
   ·rw[key_rl] at h;exact SeqAt.EqAt.str_int x t j u _ _ _ _ h
   ·rw[key_rr] at h;exact wpAny_eqBool_str h
 «strs»:=fun k x t v h=>by
  rcases keyIs_shape h with ⟨i,u,rfl,e⟩ | ⟨y,u,rfl,e⟩
  ·exact nomatch e
  ·injection e with e1 _
   subst e1
   cases v<;>rfl
theorem mixKind_int (prog:Program)(w:World)(i:Int)(t:Tok):(mixKind prog w).is (.inl i) (.int i t)=true:=keyIs_int i t
theorem mixKind_str (prog:Program)(w:World)(x:Str)(t:Tok):(mixKind prog w).is (.inr x) (.str x t)=true:=keyIs_str x t
inductive V where
 |non | bl (b:Bool) | int (i:Int) | str (x:Str) | byt (b:Array UInt8) | flt (b:UInt64) | ref (a:Addr) | ty (n:String)
 deriving DecidableEq
def RelV:V→Value→Prop
 | .non,u=>u=Value.none
 | .bl b,u=>u=Value.bool b
 | .int i,u=>∃t,u=Value.int i t
 | .str x,u=>∃t,u=Value.str x t
 | .byt b,u=>∃t,u=Value.bytes b t
 | .flt b,u=>∃t,u=Value.float b t
 | .ref a,u=>u=Value.ref a
 | .ty n,u=>u=Value.type n
abbrev Vals:List V→List Value→Prop:=Paired RelV
theorem Vals.length {xs:List V}{us:List Value}(r:Vals xs us):xs.length=us.length:=Paired.length r
theorem Vals.get:∀{xs:List V} {us:List Value} {i:Nat} {x:V},Vals xs us→xs[i]?=some x→∃u,us[i]?=some u∧RelV x u
 |_,_,_,_,.nil,e=>by simp at e
 |_,_,0,_,.cons r _,e=>by simp at e;subst e;exact⟨_,rfl,r⟩
 |_,_,i+1,x,.cons _ t,e=>by
  obtain⟨u,h1,h2⟩:=Vals.get (i:=i) (x:=x) t (by simpa using e)
  exact⟨u,by simpa using h1,h2⟩
theorem Vals.set {x:V}{u:Value}(r:RelV x u):∀{xs:List V} {us:List Value} (i:Nat),Vals xs us→Vals (xs.set i x) (us.set i u)
 |_,_,_,.nil=>.nil
 |_,_,0,.cons _ t=>.cons r t
 |_,_,i+1,.cons q t=>.cons q (Vals.set r i t)
theorem Vals.append:∀{xs ys:List V} {us ws:List Value},Vals xs us→Vals ys ws→Vals (xs++ys) (us++ws)
 |_,_,_,_,.nil,s=>s
 |_,_,_,_,.cons r t,s=>.cons r (Vals.append t s)
theorem Vals.take:∀{xs:List V} {us:List Value} (n:Nat),Vals xs us→Vals (xs.take n) (us.take n)
 |_,_,0,_=>.nil
 |_,_,_+1,.nil=>.nil
 |_,_,n+1,.cons r t=>.cons r (Vals.take n t)
theorem Vals.drop:∀{xs:List V} {us:List Value} (n:Nat),Vals xs us→Vals (xs.drop n) (us.drop n)
 |_,_,0,r=>r
 |_,_,_+1,.nil=>.nil
 |_,_,n+1,.cons _ t=>Vals.drop n t
def RelO:Option V→Option Value→Prop
 |some v,some u=>RelV v u
 |none,none=>True
 |_,_=>False
def KV {κ:Type}:List (κ × V)→List (κ × Value)→Prop:=Paired fun (p:κ × V) (q:κ × Value)=>p.1=q.1∧RelV p.2 q.2
def kV:Key→V
 | .inl i=>.int i
 | .inr x=>.str x
inductive HO where
 |lst (xs:List V)
 |tup (xs:List V)
 |dK (kvs:List (Key × V)) | dT (kvs:List (List Key × V))
 |set (S:Int→Bool) (n:Nat)
 |ins (C dx:Addr) (fs:List (Str × V))
 |own (x:Addr)
 |xd (fs:List (Str × V))
 |met (f x:Addr)
 |rng (lo hi:Int)
 |frz (o:Obj) (u:HO)
 |tbl (ps:Array Value)
 |ext (φ:Heap→Prop)
abbrev Hp:=Addr→Option HO
def upd (H:Hp)(a:Addr)(o:HO):Hp:=fun b=>if b=a then some o else H b
theorem upd_same {H:Hp}{a:Addr}{o:HO}:upd H a o a=some o:=by unfold upd;rw[if_pos rfl]
theorem upd_ne {H:Hp}{a b:Addr}{o:HO}(h:b≠a):upd H a o b=H b:=by unfold upd;rw[if_neg h]
theorem upd_upd {H:Hp}{a:Addr}{o u:HO}:upd (upd H a o) a u=upd H a u:=by
 funext b;unfold upd;split<;>rfl
theorem ne_of {H:Hp}{a b:Addr}{o u:HO}(h:H a=some o)(h':H b=some u)(d:o≠u):a≠b:=by
 intro e;subst e;rw[h] at h';exact d (Option.some.inj h')
theorem ne_of_none {H:Hp}{a b:Addr}{o:HO}(h:H a=some o)(h':H b=none):a≠b:=by
 intro e;subst e;rw[h] at h';cases h'
section
variable (P:Program) (w:World)
def ObjOk (H:Hp)(h:Heap)(a:Addr):HO→Prop
 | .lst xs=>xs.length≤sizeLine∧∃(its:List Value) (n:Nat),Vals xs its∧h.get? a=some { cls:=.type "list",data:=.seq its.toArray n }
 | .tup xs=>xs.length≤sizeLine∧∃its:List Value,Vals xs its∧IsTup h a its.toArray
 | .dK kvs=>kvs.length≤sizeLine∧(a == sysModules)=false∧∃vs,KV kvs vs∧h.DictOf (mixKind P w) a vs
 | .dT kvs=>kvs.length≤sizeLine∧(a == sysModules)=false∧∃xs:List (List Key × Addr × Value),
   Paired (fun (p:List Key × V) (q:List Key × Addr × Value)=>p.1=q.1∧H q.2.1=some (.tup (p.1.map kV))∧RelV p.2 q.2.2) kvs xs∧
   ∃o es ep,h.get? a=some o∧o.ExactDict∧o.data=.dict es ep∧es.toList=xs.map (entryOfKey (tupleKind (mixKind P w)))∧(xs.map (·.1)).Nodup
 | .set S n=>h.SetOf (intKind P w) a S n
 | .ins C dx fs=>H dx=some (.own a)∧fs.length≤1000∧dx≠a∧h.get? a=some (PySem.W.instObj C dx)∧
   ∃mA,h.Ns1 dx mA∧(∀f,RelO (fs.lookup f) (mA f))∧PySem.Within mA (fs.map (·.1))
 | .own _=>∃o,h.get? a=some o
 | .xd fs=>∃mA,h.Ns1 a mA∧∀f,RelO (fs.lookup f) (mA f)
 | .rng lo hi=>∃t u v,h.get? a=some { cls:=.type "range",data:=.fields #[.int lo t,.int hi u,.int 1 v] }
 | .frz o u=>h.get? a=some o∧ObjOk H h a u
 | .tbl ps=>h.get? a=some { cls:=.none,data:=.fields ps }
 | .met f x=>h.get? a=some (PySem.W.methodObj (.ref f) (.ref x))
 | .ext φ=>φ h∧(∃o,h.get? a=some o)∧∀h1 h2:Heap,φ h1→(∀o,h1.get? a=some o→h2.get? a=some o)→φ h2
def HOk (H:Hp)(h:Heap):Prop:=∀a o,H a=some o→ObjOk P w H h a o
end
section
variable {P:Program} {w:World} {H H':Hp} {h h':Heap} {a:Addr} {o:HO}
theorem ObjOk.lt (x:ObjOk P w H h a o):a < h.objs.size:=by
 cases o with
 |lst xs=>obtain⟨_,_,_,_,e⟩:=x;exact Heap.lt_size e
 |tup xs=>obtain⟨_,_,_,p⟩:=x;exact p.lt
 |dK kvs=>obtain⟨_,_,_,_,o,_,_,e,_⟩:=x;exact Heap.lt_size e
 |dT kvs=>obtain⟨_,_,_,_,o,_,_,e,_⟩:=x;exact Heap.lt_size e
 |set S n=>obtain⟨o,_,_,_,e,_⟩:=x;exact Heap.lt_size e
 |ins C dx fs=>obtain⟨_,_,_,e,_⟩:=x;exact Heap.lt_size e
 |own y=>obtain⟨_,e⟩:=x;exact Heap.lt_size e
 |xd fs=>obtain⟨_,⟨_,_,_,e,_⟩,_⟩:=x;exact Heap.lt_size e
 |rng lo hi=>obtain⟨_,_,_,e⟩:=x;exact Heap.lt_size e
 |frz ob u=>obtain⟨e,_⟩:=x;exact Heap.lt_size e
 |tbl ps=>exact Heap.lt_size (show h.get? a=some _ from x)
 |met f y=>exact Heap.lt_size (show h.get? a=some _ from x)
 |ext φ=>obtain⟨_,⟨_,e⟩,_⟩:=x;exact Heap.lt_size e
theorem Paired.mapP {α β:Type}{F G:α→β→Prop}:∀{l₁:List α} {l₂:List β},Paired F l₁ l₂→(∀a b,F a b→G a b)→Paired G l₁ l₂
 |_,_,.nil,_=>.nil
 |_,_,.cons r t,f=>.cons (f _ _ r) (Paired.mapP t f)
theorem ObjOk.stay (x:ObjOk P w H h a o)(k:∀b u,(b=a∨H b=some (.own a))→h.get? b=some u→h'.get? b=some u)(ho:∀b,H b=some (.own a)→H' b=some (.own a))(ht:∀b xs,H b=some (.tup xs)→H' b=some (.tup xs)):ObjOk P w H' h' a o:=by
 induction o with
 |lst xs=>obtain⟨z,its,n,r,e⟩:=x;exact⟨z,its,n,r,k _ _ (.inl rfl) e⟩
 |tup xs=>obtain⟨z,its,r,ob,e,c⟩:=x;exact⟨z,its,r,ob,k _ _ (.inl rfl) e,c⟩
 |dK kvs=>obtain⟨z,y,vs,r,ob,es,ep,e,c⟩:=x;exact⟨z,y,vs,r,ob,es,ep,k _ _ (.inl rfl) e,c⟩
 |dT kvs=>
  obtain⟨z,y,xs,r,ob,es,ep,e,c⟩:=x
  exact⟨z,y,xs,Paired.mapP r fun p q z=>⟨z.1,ht _ _ z.2.1,z.2.2⟩,ob,es,ep,k _ _ (.inl rfl) e,c⟩
 |set S n=>obtain⟨ob,es,ep,t,e,c⟩:=x;exact⟨ob,es,ep,t,k _ _ (.inl rfl) e,c⟩
 |ins C dx fs=>
  obtain⟨d,z,ne,e,mA,⟨od,es,ep,e2,c⟩,r⟩:=x
  exact⟨ho _ d,z,ne,k _ _ (.inl rfl) e,mA,⟨od,es,ep,k _ _ (.inr d) e2,c⟩,r⟩
 |own y=>obtain⟨ob,e⟩:=x;exact⟨ob,k _ _ (.inl rfl) e⟩
 |xd fs=>obtain⟨mA,⟨od,es,ep,e,c⟩,r⟩:=x;exact⟨mA,⟨od,es,ep,k _ _ (.inl rfl) e,c⟩,r⟩
 |rng lo hi=>obtain⟨t,u,v,e⟩:=x;exact⟨t,u,v,k _ _ (.inl rfl) e⟩
 |frz ob u ih=>obtain⟨e,q⟩:=x;exact⟨k _ _ (.inl rfl) e,ih q⟩
 |tbl ps=>
  have e:h.get? a=some { cls:=.none,data:=.fields ps }:=x
  show h'.get? a=some { cls:=.none,data:=.fields ps }
  exact k a _ (.inl rfl) e
 |met f y=>
  have e:h.get? a=some (PySem.W.methodObj (.ref f) (.ref y)):=x
  show h'.get? a=some (PySem.W.methodObj (.ref f) (.ref y))
  exact k a _ (.inl rfl) e
 |ext φ=>obtain⟨p,⟨o,e⟩,st⟩:=x;exact⟨st _ _ p fun o q=>k _ _ (.inl rfl) q,⟨o,k _ _ (.inl rfl) e⟩,st⟩
theorem HOk.lt (x:HOk P w H h)(e:H a=some o):a < h.objs.size:=(x a o e).lt
theorem HOk.fresh (x:HOk P w H h)(e:h.objs.size≤a):H a=none:=by
 cases q:H a with
 |none=>rfl
 |some u=>exact absurd (Nat.lt_of_lt_of_le (x.lt q) e) (Nat.lt_irrefl _)
theorem HOk.kept (x:HOk P w H h)(k:∀b u,h.get? b=some u→h'.get? b=some u):HOk P w H h':=fun a o e=>
 (x a o e).stay (fun b u _ q=>k b u q) (fun _ q=>q) fun _ _ q=>q
theorem HOk.laid (x:HOk P w H h)(k:∀b u,h.get? b=some u→h'.get? b=some u)(hp:h.objs.size≤a)(new:ObjOk P w (upd H a o) h' a o):HOk P w (upd H a o) h':=fun b u e=>by
 have hn:=x.fresh hp
 by_cases hb:b=a
 ·subst hb;rw[upd_same] at e;cases e;exact new
 ·rw[upd_ne hb] at e
  exact(x b u e).stay (fun c v _ q=>k c v q) (fun c q=>by rw[upd_ne (ne_of_none q hn)];exact q) fun c xs q=>by rw[upd_ne (ne_of_none q hn)];exact q
end
def Rd (H:Hp)(a:Addr)(u:HO):Prop:=H a=some u∨∃o,H a=some (.frz o u)
theorem Rd.ok {P:Program}{w:World}{H:Hp}{h:Heap}{a:Addr}{u:HO}(r:Rd H a u)(x:HOk P w H h):ObjOk P w H h a u:=by
 rcases r with r | ⟨o,r⟩
 ·exact x a u r
 ·obtain⟨_,q⟩:=x a _ r
  exact q
def Mut:Option HO→Prop
 |some (.lst _)=>True
 |some (.dK _)=>True
 |some (.dT _)=>True
 |some (.set _ _)=>True
 |some (.ins _ _ _)=>True
 |some (.ext _)=>True
 |_=>False
section
variable {P:Program} {w:World} {H:Hp} {h h':Heap} {x e:Addr} {o':HO}
theorem HOk.write (ok:HOk P w H h)(mu:Mut (H x))(he:e=x∨H e=some (.own x))(k:∀b u,b≠e→h.get? b=some u→h'.get? b=some u)(heo:∃u,h'.get? e=some u)(new:ObjOk P w (upd H x o') h' x o'):HOk P w (upd H x o') h':=fun b u q=>by
 have nown:∀c y,H c=some (.own y)→c≠x:=fun c y r z=>by subst z;rw[r] at mu;exact mu
 have ntup:∀c xs,H c=some (.tup xs)→c≠x:=fun c xs r z=>by subst z;rw[r] at mu;exact mu
 by_cases hb:b=x
 ·subst hb;rw[upd_same] at q;cases q;exact new
 ·rw[upd_ne hb] at q
  by_cases hbe:b=e
  ·have q':H b=some (.own x):=by
    rcases he with z | z
    ·exact absurd (hbe.trans z) hb
    ·rw[hbe];exact z
   rw[q] at q';cases q'
   obtain⟨v,hv⟩:=heo
   exact⟨v,by rw[hbe];exact hv⟩
  ·refine(ok b u q).stay (fun c v hc r=>k c v ?_ r) (fun c r=>by rw[upd_ne (nown c b r)];exact r) fun c xs r=>by rw[upd_ne (ntup c xs r)];exact r
   rcases hc with rfl | hc
   ·exact hbe
   ·rintro rfl
    rcases he with z | z
    ·exact nown c b hc z
    ·rw[hc] at z;cases z;exact hb rfl
end
structure Un (fs ex:List Addr) (H H':Hp) (h h':Heap):Prop where
 keep:∀b o,h.get? b=some o→H b=none→b∉fs→b∉ex→h'.get? b=some o
 slot:∀b o,h.get? b=some o→H b=none→b∈fs→b∉ex→∃sl,h'.get? b=some { o with slots:=sl }
 free:∀b o,h.get? b=some o→H b=none→b∉ex→H' b=none
 there:∀b o,h.get? b=some o→b∉ex→∃o',h'.get? b=some o'
 tups:∀b xs,H b=some (.tup xs)→H' b=some (.tup xs)
 frzs:∀b o u,H b=some (.frz o u)→H' b=some (.frz o u)
 tbls:∀b ps,H b=some (.tbl ps)→∃more,H' b=some (.tbl (ps++more))
section
variable {fs fs' ex ex':List Addr} {H H1 H2:Hp} {h h1 h2 h':Heap} {a x e:Addr} {o:HO}
theorem Un.any (u:Un fs ex H H1 h h1){b:Addr}{ob:Obj}(q:h.get? b=some ob)(n:H b=none)(hx:b∉ex):∃sl,h1.get? b=some { ob with slots:=sl }:=by
 by_cases hb:b∈fs
 ·exact u.slot b ob q n hb hx
 ·exact⟨ob.slots,u.keep b ob q n hb hx⟩
theorem Un.kept (k:∀b u,h.get? b=some u→h'.get? b=some u):Un fs ex H H h h':=
 ⟨fun b ob q _ _ _=>k b ob q,fun b ob q _ _ _=>⟨ob.slots,k b ob q⟩,fun _ _ _ n _=>n,fun b ob q _=>⟨ob,k b ob q⟩,fun _ _ q=>q,fun _ _ _ q=>q,fun _ ps q=>⟨#[],by rw[q];simp⟩⟩
theorem Un.refl:Un fs ex H H h h:=Un.kept fun _ _ q=>q
theorem Un.laid (k:∀b u,h.get? b=some u→h'.get? b=some u)(hp:h.objs.size≤a)(hn:H a=none):Un fs ex H (upd H a o) h h' where
 keep:=fun b u q _ _ _=>k b u q
 slot:=fun b u q _ _ _=>⟨u.slots,k b u q⟩
 free:=fun b u q n _=>by rw[upd_ne (Nat.ne_of_lt (Nat.lt_of_lt_of_le (Heap.lt_size q) hp))];exact n
 there:=fun b u q _=>⟨u,k b u q⟩
 tups:=fun b xs q=>by rw[upd_ne (ne_of_none q hn)];exact q
 frzs:=fun b u xs q=>by rw[upd_ne (ne_of_none q hn)];exact q
 tbls:=fun b ps q=>⟨#[],by rw[upd_ne (ne_of_none q hn),q];simp⟩
theorem Un.write (mu:Mut (H x))(he:e=x∨H e=some (.own x))(k:∀b u,b≠e→h.get? b=some u→h'.get? b=some u)(heo:∃u,h'.get? e=some u):Un fs ex H (upd H x o) h h':=by
 have hx:∀b,H b=none→b≠x:=fun b n z=>by subst z;rw[n] at mu;exact mu
 have hb:∀b,H b=none→b≠e:=fun b n z=>by
  subst z
  rcases he with r | r
  ·exact hx b n r
  ·rw[n] at r;cases r
 have hm:∀b u,H b=some u→¬Mut (some u)→b≠x:=fun b u q nm z=>by subst z;rw[q] at mu;exact nm mu
 refine⟨fun b u q n _ _=>k b u (hb b n) q,fun b u q n _ _=>⟨u.slots,k b u (hb b n) q⟩,fun b u q n _=>by rw[upd_ne (hx b n)];exact n,fun b u q _=>?_,
  fun b xs q=>by rw[upd_ne (hm b _ q fun z=>z)];exact q,fun b u xs q=>by rw[upd_ne (hm b _ q fun z=>z)];exact q,fun b ps q=>⟨#[],by rw[upd_ne (hm b _ q fun z=>z),q];simp⟩⟩
 by_cases hbe:b=e
 ·subst hbe;exact heo
 ·exact⟨u,k b u hbe q⟩
end
def trk (h:Heap)(H:Hp):List Addr:=(List.range h.objs.size).filter fun a=>(H a).isSome
def hidT (h:Heap)(H:Hp):Heap:=PySem.W.hideAll h (trk h H)
theorem hidT_size (h:Heap)(H:Hp):(hidT h H).objs.size=h.objs.size:=PySem.W.hideAll_size _ _
theorem hidT_get {h:Heap}{H:Hp}{b:Addr}{o:Obj}(e:h.get? b=some o)(n:H b=none):(hidT h H).get? b=some o:=
 PySem.W.hideAll_get _ e fun hm=>by
  have q:(H b).isSome=true:=(List.mem_filter.mp hm).2
  rw[n] at q;simp at q
theorem of_hidT {h:Heap}{H:Hp}{b:Addr}{o:Obj}(e:(hidT h H).get? b=some o):h.get? b=some o∧H b=none:=by
 have e':h.get? b=some o:=PySem.W.of_hideAll (trk h H) e
 refine⟨e',?_⟩
 cases q:H b with
 |none=>rfl
 |some x=>
  have hm:b∈trk h H:=List.mem_filter.mpr ⟨List.mem_range.mpr (Heap.lt_size e'),by simp[q]⟩
  have z:(hidT h H).get? b=none:=PySem.W.hideAll_none (trk h H) hm
  rw[z] at e;cases e
structure Mod (K:PySem.W.Frag) (mg:Str→Option Value) (base:Heap):Prop where
 kin:K.In base
 glob:base.Ns mainGlobals mg
 blt:∃mb,base.Ns builtinsNs mb∧∀x:Str,x≠"__name__"→mb x=bootBuiltins x
 nolimit:base.NoLimit
structure Cx where
 prog:Program
 w:World
 K:PySem.W.Frag
 mg:Str→Option Value
 base:Heap
 A:Around
 N:List Str
 s₀:Shared
 H₀:Hp
 env:Env
 outer:List Env
 stack:List Env
 ex:List Addr
 fn:Str→Bool
 calm:Bool
 pn:List (Addr × Obj)
 xe:Value→Shared→Prop
def frs (l:List Env):List Addr:=l.filterMap (·.frame)
abbrev Cx.fs (X:Cx):List Addr:=frs X.outer
def Vis (sc:Scope)(x:Str):Prop:=sc.names.lookup x=some .local∨sc.names.lookup x=some .cell∨sc.names.lookup x=some .free
def Loc (sc:Scope)(x:Str):Prop:=sc.names.lookup x=some .local∨sc.names.lookup x=some .cell
def Look (env:Env)(h:Heap)(m:Str→Option Value)(x:Str)(u:Value):Prop:=
 (env.kindOf x=some .local∧m x=some u)∨((env.kindOf x=some .cell∨env.kindOf x=some .free)∧∃c,env.cells.lookup x=some c∧h.IsCell c (some u))
structure Cx.Ok (X:Cx):Prop where
 mod:Mod X.K X.mg X.base
 kind:X.env.scope.kind=.function
 glob:X.env.globals=mainGlobals
 blt:X.env.builtins=builtinsNs
 above:X.s₀.heap.objs.size≤X.env.locals
 inj:∀x y c,X.env.cells.lookup x=some c→X.env.cells.lookup y=some c→x=y
 has:∀x,(X.env.kindOf x=some .cell∨X.env.kindOf x=some .free)→∃c,X.env.cells.lookup x=some c
 cab:∀x c,X.fn x=true→X.env.cells.lookup x=some c→X.s₀.heap.objs.size≤c
 hd:X.calm=true→X.A.handled=none
 frames:X.A.frames=some X.stack
 stk:X.stack=X.outer∨(X.stack=X.env :: X.outer∧X.env.frame=some X.env.locals)
 exf:∀b∈X.ex,b≠X.env.locals∧∀x c,X.env.cells.lookup x=some c→c≠b
 bs:∀b o,X.base.get? b=some o→X.s₀.heap.get? b=some o∧X.H₀ b=none
 bsz:X.base.objs.size≤X.s₀.heap.objs.size
 noex:∀b o,X.base.get? b=some o→b∉X.ex
 exfs:∀b∈X.ex,b∉X.fs
 funs:X.s₀.heap.FunFrames X.base X.outer
 frf:∀b∈X.fs,X.H₀ b=none
structure Inv (X:Cx) (pins:List (Addr × Obj)) (σ:List (Option V)) (H:Hp) (s:Shared):Prop where
 ok:X.Ok
 os:s.os=X.s₀.os
 bare:AllBare s.gens
 base:Un X.fs X.ex X.H₀ H X.s₀.heap s.heap
 loc:∃m,s.heap.Ns X.env.locals m∧∀(i:Nat) (x:Str) (v:V),X.N[i]?=some x→σ[i]?=some (some v)→Vis X.env.scope x→∃u,RelV v u∧Look X.env s.heap m x u
 cell:∀x c,X.env.cells.lookup x=some c→∃v,s.heap.IsCell c v
 free:H X.env.locals=none
 freeC:∀x c,X.env.cells.lookup x=some c→H c=none
 pin:∀p∈X.pn++pins,s.heap.get? p.1=some p.2∧H p.1=none∧p.1≠X.env.locals∧p.1∉X.fs∧∀v,p.2.data≠.cell v
 hok:HOk X.prog X.w H s.heap
 len:σ.length=X.N.length
section
variable {X:Cx} {pins:List (Addr × Obj)} {σ:List (Option V)} {H H':Hp} {s:Shared} {h':Heap}
theorem Cx.Ok.nofr (ok:X.Ok){b:Addr}{o:Obj}(e:X.base.get? b=some o):b∉X.fs:=fun hb=>by
 have:=(ok.funs.mem hb).1
 rw[e] at this;cases this
theorem Inv.bs (I:Inv X pins σ H s):∀b o,X.base.get? b=some o→s.heap.get? b=some o∧H b=none:=fun b o e=>
 ⟨I.base.keep b o (I.ok.bs b o e).1 (I.ok.bs b o e).2 (I.ok.nofr e) (I.ok.noex b o e),I.base.free b o (I.ok.bs b o e).1 (I.ok.bs b o e).2 (I.ok.noex b o e)⟩
theorem Inv.bk (I:Inv X pins σ H s):∀b o,X.base.get? b=some o→s.heap.get? b=some o:=fun b o e=>(I.bs b o e).1
theorem Inv.mod (I:Inv X pins σ H s):Mod X.K X.mg X.base:=I.ok.mod
theorem Inv.kIn (I:Inv X pins σ H s):X.K.In s.heap:=I.ok.mod.kin.keeps I.bk
theorem Inv.lt (I:Inv X pins σ H s):X.env.locals < s.heap.objs.size:=let ⟨_,hn,_⟩:=I.loc;hn.lt
theorem Inv.sz (I:Inv X pins σ H s):X.s₀.heap.objs.size≤s.heap.objs.size:=Nat.le_trans I.ok.above (Nat.le_of_lt I.lt)
theorem Inv.nofs (I:Inv X pins σ H s){a:Addr}(h:s.heap.objs.size≤a):a∉X.fs:=fun hb=>by
 obtain⟨_,o,ho,_⟩:=I.ok.funs.mem hb
 exact absurd (Nat.lt_of_lt_of_le (Heap.lt_size ho) (Nat.le_trans I.sz h)) (Nat.lt_irrefl _)
theorem Inv.cne (I:Inv X pins σ H s):∀x c,X.env.cells.lookup x=some c→c≠X.env.locals:=fun x c e z=>by
 obtain⟨v,o,ho,hd⟩:=I.cell x c e
 obtain⟨m,⟨o',es,ep,ho',hd',_⟩,_⟩:=I.loc
 rw[z,ho'] at ho;cases ho;rw[hd'] at hd;cases hd
theorem Inv.funs (I:Inv X pins σ H s):s.heap.FunFrames X.base X.outer:=by
 have all:∀(l:List Env),(∀b∈frs l,b∈X.fs)→X.s₀.heap.FunFrames X.base l→s.heap.FunFrames X.base l:=by
  intro l
  induction l with
  |nil=>intro _ _;trivial
  |cons env r ih=>
   intro hs hl
   obtain⟨hk,⟨L,o,hf,hn,ho,hd⟩,hr⟩:=hl
   have hL:L∈X.fs:=hs L (by unfold frs;rw[List.filterMap_cons,hf];exact List.mem_cons_self)
   obtain⟨sl,e⟩:=I.base.slot L o ho (I.ok.frf L hL) hL fun z=>I.ok.exfs L z hL
   exact⟨hk,⟨L,_,hf,hn,e,hd⟩,ih (fun b hb=>hs b (by unfold frs;rw[List.filterMap_cons,hf];exact List.mem_cons_of_mem _ hb)) hr⟩
 exact all X.outer (fun _ hb=>hb) I.ok.funs
theorem Inv.stack (I:Inv X pins σ H s):s.heap.FunFrames X.base X.stack:=by
 rcases I.ok.stk with e | ⟨e,hf⟩
 ·rw[e];exact I.funs
 ·rw[e]
  obtain⟨m,hn,_⟩:=I.loc
  refine .cons (by rw[I.ok.kind];decide) hf hn ?_ I.funs
  exact Heap.get?_none_of_le (Nat.le_trans I.ok.bsz I.ok.above)
theorem Inv.stkSub (I:Inv X pins σ H s):∀b∈frs X.stack,b∈X.env.locals :: X.fs:=fun b hb=>by
 rcases I.ok.stk with e | ⟨e,hf⟩
 ·rw[e] at hb;exact List.mem_cons_of_mem _ hb
 ·rw[e] at hb
  unfold frs at hb
  rw[List.filterMap_cons,hf] at hb
  exact hb
theorem Inv.stkFree (I:Inv X pins σ H s):∀b∈frs X.stack,H b=none:=fun b hb=>by
 rcases List.mem_cons.mp (I.stkSub b hb) with e | hb
 ·rw[e];exact I.free
 ·obtain⟨_,o,ho,_⟩:=I.ok.funs.mem hb
  exact I.base.free b o ho (I.ok.frf b hb) fun z=>I.ok.exfs b z hb
theorem Inv.step {g':Array GenState}{t':Nat}{d':Drawn}{ch:List Addr}(I:Inv X pins σ H s)(hch:∀b∈ch,(b∈X.ex∨X.s₀.heap.objs.size≤b)∧b≠X.env.locals∧(∀x c,X.env.cells.lookup x=some c→c≠b)∧∀p∈X.pn++pins,p.1≠b)(keep:∀b o,b≠X.env.locals→b∉X.fs→b∉ch→s.heap.get? b=some o→H b=none→h'.get? b=some o)(slot:∀b o,b≠X.env.locals→b∈X.fs→b∉ch→s.heap.get? b=some o→H b=none→∃sl,h'.get? b=some { o with slots:=sl })(free:∀b o,b∉ch→s.heap.get? b=some o→H b=none→H' b=none)(there:∀b o,b∉ch→s.heap.get? b=some o→∃o',h'.get? b=some o')(tups:∀b xs,H b=some (.tup xs)→H' b=some (.tup xs))(frzs:∀b o u,H b=some (.frz o u)→H' b=some (.frz o u))(tbls:∀b ps,H b=some (.tbl ps)→∃more,H' b=some (.tbl (ps++more)))(ns:∀m,s.heap.Ns X.env.locals m→h'.Ns X.env.locals m)(hok:HOk X.prog X.w H' h')(hg:AllBare g') :
  Inv X pins σ H' { s with heap:=h',gens:=g',drawn:=d',toks:=t' }:=by
 have neL:∀b o,X.s₀.heap.get? b=some o→b≠X.env.locals:=fun b o e=>Nat.ne_of_lt (Nat.lt_of_lt_of_le (Heap.lt_size e) I.ok.above)
 have neC:∀b o,X.s₀.heap.get? b=some o→b∉X.ex→b∉ch:=fun b o e hx hb=>by
  rcases (hch b hb).1 with z | z
  ·exact hx z
  ·exact absurd (Nat.lt_of_lt_of_le (Heap.lt_size e) z) (Nat.lt_irrefl _)
 have cellK:∀x c,X.env.cells.lookup x=some c→∀v,s.heap.IsCell c v→h'.IsCell c v:=fun x c e v ⟨o,ho,hd⟩=>by
  have nch:c∉ch:=fun z=>(hch c z).2.2.1 x c e rfl
  by_cases hc:c∈X.fs
  ·obtain⟨sl,q⟩:=slot c o (I.cne x c e) hc nch ho (I.freeC x c e)
   exact⟨_,q,hd⟩
  ·exact⟨o,keep c o (I.cne x c e) hc nch ho (I.freeC x c e),hd⟩
 refine⟨I.ok,I.os,hg,⟨fun b o e n hb hx=>?_,fun b o e n hb hx=>?_,fun b o e n hx=>?_,fun b o e hx=>?_,fun b xs e=>tups b xs (I.base.tups b xs e),fun b o xs e=>frzs b o xs (I.base.frzs b o xs e),fun b ps e=>?_⟩,?_,fun x c e=>?_,?_,fun x c e=>?_,fun p hp=>?_,hok,I.len⟩
 ·exact keep b o (neL b o e) hb (neC b o e hx) (I.base.keep b o e n hb hx) (I.base.free b o e n hx)
 ·obtain⟨sl,e1⟩:=I.base.slot b o e n hb hx
  obtain⟨sl',e2⟩:=slot b _ (neL b o e) hb (neC b o e hx) e1 (I.base.free b o e n hx)
  exact⟨sl',e2⟩
 ·obtain⟨o',e1⟩:=I.base.there b o e hx
  exact free b o' (neC b o e hx) e1 (I.base.free b o e n hx)
 ·obtain⟨o',e1⟩:=I.base.there b o e hx
  exact there b o' (neC b o e hx) e1
 ·obtain⟨m1,e1⟩:=I.base.tbls b ps e
  obtain⟨m2,e2⟩:=tbls b _ e1
  exact⟨m1++m2,by rw[e2,Array.append_assoc]⟩
 ·obtain⟨m,hn,hl⟩:=I.loc
  refine⟨m,ns m hn,fun i x v e1 e2 e3=>?_⟩
  obtain⟨u,r,l⟩:=hl i x v e1 e2 e3
  refine⟨u,r,?_⟩
  rcases l with l | ⟨k,c,e,z⟩
  ·exact .inl l
  ·exact .inr ⟨k,c,e,cellK x c e _ z⟩
 ·obtain⟨v,z⟩:=I.cell x c e
  exact⟨v,cellK x c e v z⟩
 ·obtain⟨m,⟨o,_,_,ho,_⟩,_⟩:=I.loc
  exact free _ o (fun z=>(hch _ z).2.1 rfl) ho I.free
 ·obtain⟨v,o,ho,hd⟩:=I.cell x c e
  exact free c o (fun z=>(hch c z).2.2.1 x c e rfl) ho (I.freeC x c e)
 ·obtain⟨e,n,ne,nf,d⟩:=I.pin p hp
  have nch:p.1∉ch:=fun z=>(hch p.1 z).2.2.2 p hp rfl
  exact⟨keep p.1 p.2 ne nf nch e n,free p.1 p.2 nch e n,ne,nf,d⟩
theorem Inv.un {t':Nat}(I:Inv X pins σ H s)(u:Un X.fs [] H H' s.heap h')(hok:HOk X.prog X.w H' h'):Inv X pins σ H' { s with heap:=h',toks:=t' }:=by
 obtain⟨m,⟨o,es,ep,ho,r⟩,_⟩:=id I.loc
 obtain⟨sl,hL⟩:=u.any ho I.free (by simp)
 exact I.step (g':=s.gens) (d':=s.drawn) (ch:=[]) (fun _ z=>nomatch z) (fun b o _ hb _ e n=>u.keep b o e n hb (by simp)) (fun b o _ hb _ e n=>u.slot b o e n hb (by simp)) (fun b o _ e n=>u.free b o e n (by simp)) (fun b o _ e=>u.there b o e (by simp)) u.tups u.frzs u.tbls (fun m' hm=>by
  obtain⟨o',es',ep',ho',r'⟩:=hm
  rw[ho] at ho';cases ho'
  exact⟨_,es',ep',hL,r'⟩) hok I.bare
theorem Inv.call {g':Array GenState}{t':Nat}{d':Drawn}{ch:List Addr}(I:Inv X pins σ H s)(u:Un (frs X.stack) ch H H' s.heap h')(hok:HOk X.prog X.w H' h')(hg:AllBare g')(hch:∀b∈ch,(b∈X.ex∨X.s₀.heap.objs.size≤b)∧b≠X.env.locals∧(∀x c,X.env.cells.lookup x=some c→c≠b)∧∀p∈X.pn++pins,p.1≠b) :
  Inv X pins σ H' { s with heap:=h',gens:=g',drawn:=d',toks:=t' }:=by
 obtain⟨m,⟨o,es,ep,ho,r⟩,_⟩:=id I.loc
 obtain⟨sl,hL⟩:=u.any ho I.free fun z=>(hch _ z).2.1 rfl
 exact I.step (ch:=ch) hch (fun b o hL hb hc e n=>u.keep b o e n (fun z=>(List.mem_cons.mp (I.stkSub b z)).elim hL hb) hc) (fun b o _ _ hc e n=>u.any e n hc) (fun b o hc e n=>u.free b o e n hc) (fun b o hc e=>u.there b o e hc) u.tups u.frzs u.tbls (fun m' hm=>by
  obtain⟨o',es',ep',ho',r'⟩:=hm
  rw[ho] at ho';cases ho'
  exact⟨_,es',ep',hL,r'⟩) hok hg
theorem Inv.turned {t':Nat}{it:Addr}(I:Inv X pins σ H s)(k:∀b o,b≠it→s.heap.get? b=some o→h'.get? b=some o)(hn:H it=none)(hL:it≠X.env.locals)(h1:it∈X.ex∨X.s₀.heap.objs.size≤it)(h2:∀x c,X.env.cells.lookup x=some c→c≠it)(h3:∀p∈X.pn++pins,p.1≠it):Inv X pins σ H { s with heap:=h',toks:=t' }:=by
 have nit:∀b u,H b=some u→b≠it:=fun b u e z=>by rw[z,hn] at e;cases e
 refine I.step (g':=s.gens) (d':=s.drawn) (ch:=[it]) (fun b hb=>?_) (fun b o _ _ hc e _=>k b o (fun z=>hc (by simp[z])) e) (fun b o _ _ hc e _=>⟨o.slots,k b o (fun z=>hc (by simp[z])) e⟩) (fun _ _ _ _ n=>n)
  (fun b o hc e=>⟨o,k b o (fun z=>hc (by simp[z])) e⟩) (fun _ _ e=>e) (fun _ _ _ e=>e) (fun b ps e=>⟨#[],by rw[e];simp⟩) (fun m hm=>?_) (fun b u e=>?_) I.bare
 ·have e:b=it:=by simpa using hb
  subst e
  exact⟨h1,hL,h2,h3⟩
 ·obtain⟨o,es,ep,ho,r⟩:=hm
  exact⟨o,es,ep,k _ o (Ne.symm hL) ho,r⟩
 ·refine(I.hok b u e).stay (fun c v hc q=>k c v ?_ q) (fun _ q=>q) fun _ _ q=>q
  rcases hc with z | z
  ·rw[z];exact nit b u e
  ·exact nit c _ z
theorem Inv.tok (I:Inv X pins σ H s)(t:Nat):Inv X pins σ H { s with toks:=t }:=I.un (h':=s.heap) (t':=t) Un.refl I.hok
theorem Inv.kept {t':Nat}(I:Inv X pins σ H s)(k:∀b u,s.heap.get? b=some u→h'.get? b=some u):Inv X pins σ H { s with heap:=h',toks:=t' }:=I.un (Un.kept k) (I.hok.kept k)
theorem Inv.laid {a:Addr}{o:HO}{t':Nat}(I:Inv X pins σ H s)(k:∀b u,s.heap.get? b=some u→h'.get? b=some u)(hp:s.heap.objs.size≤a)(new:ObjOk X.prog X.w (upd H a o) h' a o) :
  Inv X pins σ (upd H a o) { s with heap:=h',toks:=t' }:=I.un (Un.laid k hp (I.hok.fresh hp)) (I.hok.laid k hp new)
theorem Inv.write {x e:Addr}{o:HO}{t':Nat}(I:Inv X pins σ H s)(mu:Mut (H x))(he:e=x∨H e=some (.own x))(k:∀b u,b≠e→s.heap.get? b=some u→h'.get? b=some u)(heo:∃u,h'.get? e=some u)(new:ObjOk X.prog X.w (upd H x o) h' x o):Inv X pins σ (upd H x o) { s with heap:=h',toks:=t' }:=I.un (Un.write mu he k heo) (I.hok.write mu he k heo new)
theorem Inv.weak {σ':List (Option V)}(I:Inv X pins σ H s)(hl:σ'.length=σ.length)(w:∀(i:Nat) v,σ'[i]?=some (some v)→σ[i]?=some (some v)):Inv X pins σ' H s:=
 ⟨I.ok,I.os,I.bare,I.base,let ⟨m,hn,hl'⟩:=I.loc;⟨m,hn,fun i x v e1 e2 e3=>hl' i x v e1 (w i v e2) e3⟩,I.cell,I.free,I.freeC,I.pin,I.hok,hl.trans I.len⟩
theorem Inv.pins_of {pins':List (Addr × Obj)}(I:Inv X pins σ H s)(h:∀p∈pins',s.heap.get? p.1=some p.2∧H p.1=none∧p.1≠X.env.locals∧p.1∉X.fs∧∀v,p.2.data≠.cell v):Inv X pins' σ H s:=
 ⟨I.ok,I.os,I.bare,I.base,I.loc,I.cell,I.free,I.freeC,fun p hp=>(List.mem_append.mp hp).elim (fun z=>I.pin p (List.mem_append_left _ z)) (h p),I.hok,I.len⟩
theorem nodup_ix {N:List Str}(hN:N.Nodup){i j:Nat}{x:Str}(a:N[i]?=some x)(b:N[j]?=some x):i=j:=by
 obtain⟨h1,e1⟩:=List.getElem?_eq_some_iff.mp a
 obtain⟨h2,e2⟩:=List.getElem?_eq_some_iff.mp b
 exact(List.getElem_inj hN).mp (e1.trans e2.symm)
theorem store_ok2 {M:Model}{A:Around}{E:Value→Shared→Prop}{i:Nat}{x:Str}{v:V}{u:Value}{Q:Unit→Shared→Prop}(I:Inv X pins σ H s)(hN:X.N.Nodup)(hi:X.N[i]?=some x)(hx:Loc X.env.scope x)(r:RelV v u)(h:∀s',Inv X pins (σ.set i (some v)) H s'→(∃a,Heap.SameBut a s.heap s'.heap∧(a=X.env.locals∨X.env.cells.lookup x=some a))→Q () s')(hf:X.fn x=true∨X.env.scope.names.lookup x=some .local:=by first | exact .inl rfl | exact .inr rfl | assumption):wpAny M A (storeName X.env x u) Q E s:=by
 obtain⟨m,hn,hl⟩:=id I.loc
 have hcls:(X.env.scope.kind == .class || (X.env.scope.kind == .module && X.env.locals != X.env.globals))=false:=by rw[I.ok.kind];rfl
 have hiσ:i < σ.length:=by rw[I.len];exact(List.getElem?_eq_some_iff.mp hi).1
 have cne:=I.cne
 have tracked:∀{a:Addr} {h':Heap},(∃o,s.heap.get? a=some o∧H a=none)→Heap.SameBut a s.heap h'→HOk X.prog X.w H h':=fun {a h'} ha hs b ob e=>by
  obtain⟨_,_,hfree⟩:=ha
  refine(I.hok b ob e).stay (fun c w' hc q=>(hs.2 c ?_).trans q) (fun _ q=>q) fun _ _ q=>q
  rintro rfl
  rcases hc with rfl | hc
  ·rw[hfree] at e;cases e
  ·rw[hfree] at hc;cases hc
 rcases hx with hk | hk
 ·refine wpAny_storeName_local hk hn (fun h' hn' hs=>?_) hcls
  obtain⟨oL,_,_,hoL,_⟩:=id hn
  refine h _ ⟨I.ok,I.os,I.bare,⟨fun b o e n hb hx=>?_,fun b o e n hb hx=>?_,I.base.free,fun b o e hx=>?_,I.base.tups,I.base.frzs,I.base.tbls⟩,⟨_,hn',fun j y v' e1 e2 e3=>?_⟩,fun y c e=>?_,I.free,I.freeC,fun p hp=>?_,tracked ⟨oL,hoL,I.free⟩ hs,by simpa using I.len⟩ ⟨_,hs,.inl rfl⟩
  ·exact(hs.2 b (Nat.ne_of_lt (Nat.lt_of_lt_of_le (Heap.lt_size e) I.ok.above))).trans (I.base.keep b o e n hb hx)
  ·obtain⟨sl,e1⟩:=I.base.slot b o e n hb hx
   exact⟨sl,(hs.2 b (Nat.ne_of_lt (Nat.lt_of_lt_of_le (Heap.lt_size e) I.ok.above))).trans e1⟩
  ·obtain⟨o',e1⟩:=I.base.there b o e hx
   exact⟨o',(hs.2 b (Nat.ne_of_lt (Nat.lt_of_lt_of_le (Heap.lt_size e) I.ok.above))).trans e1⟩
  ·by_cases hj:j=i
   ·subst hj
    rw[hi] at e1;cases e1
    rw[List.getElem?_set_self hiσ] at e2
    cases e2
    exact⟨u,r,.inl ⟨hk,by simp⟩⟩
   ·rw[List.getElem?_set_ne (Ne.symm hj)] at e2
    obtain⟨u',r',q⟩:=hl j y v' e1 e2 e3
    refine⟨u',r',?_⟩
    rcases q with ⟨k,e⟩ | ⟨k,c,e,z⟩
    ·refine .inl ⟨k,?_⟩
     have:y≠x:=fun e=>hj (nodup_ix hN e1 (e ▸ hi))
     simp[this,e]
    ·exact .inr ⟨k,c,e,z.sameBut hs (cne y c e)⟩
  ·obtain⟨w',z⟩:=I.cell y c e
   exact⟨w',z.sameBut hs (cne y c e)⟩
  ·obtain⟨e,n,ne,nf,d⟩:=I.pin p hp
   exact⟨(hs.2 p.1 ne).trans e,n,ne,nf,d⟩
 ·have hfn:X.fn x=true:=by
   rcases hf with z | z
   ·exact z
   ·rw[z] at hk;cases hk
  obtain⟨c,hc⟩:=I.ok.has x (.inl hk)
  obtain⟨w',z⟩:=I.cell x c hc
  refine wpAny_storeName_cell I.ok.kind hk hc z (fun h' hc' hs=>?_)
  obtain⟨oc,hoc,hocd⟩:=id z
  refine h { s with heap:=h' } ⟨I.ok,I.os,I.bare,⟨fun b o e n hb hx=>?_,fun b o e n hb hx=>?_,I.base.free,fun b o e hx=>?_,I.base.tups,I.base.frzs,I.base.tbls⟩,⟨m,hn.sameBut hs (Ne.symm (cne x c hc)),fun j y v' e1 e2 e3=>?_⟩,fun y c' e=>?_,I.free,I.freeC,fun p hp=>?_,tracked ⟨oc,hoc,I.freeC x c hc⟩ hs,by simpa using I.len⟩ ⟨c,hs,.inr hc⟩
  ·exact(hs.2 b (Nat.ne_of_lt (Nat.lt_of_lt_of_le (Heap.lt_size e) (I.ok.cab x c hfn hc)))).trans (I.base.keep b o e n hb hx)
  ·obtain⟨sl,e1⟩:=I.base.slot b o e n hb hx
   exact⟨sl,(hs.2 b (Nat.ne_of_lt (Nat.lt_of_lt_of_le (Heap.lt_size e) (I.ok.cab x c hfn hc)))).trans e1⟩
  ·obtain⟨o',e1⟩:=I.base.there b o e hx
   exact⟨o',(hs.2 b (Nat.ne_of_lt (Nat.lt_of_lt_of_le (Heap.lt_size e) (I.ok.cab x c hfn hc)))).trans e1⟩
  ·by_cases hj:j=i
   ·subst hj
    rw[hi] at e1;cases e1
    rw[List.getElem?_set_self hiσ] at e2
    cases e2
    exact⟨u,r,.inr ⟨.inl hk,c,hc,hc'⟩⟩
   ·rw[List.getElem?_set_ne (Ne.symm hj)] at e2
    obtain⟨u',r',q⟩:=hl j y v' e1 e2 e3
    refine⟨u',r',?_⟩
    rcases q with q | ⟨k,c',e,z'⟩
    ·exact .inl q
    ·refine .inr ⟨k,c',e,z'.sameBut hs ?_⟩
     rintro rfl
     exact hj (nodup_ix hN e1 (I.ok.inj _ _ _ e hc ▸ hi))
  ·by_cases hcc:c'=c
   ·subst hcc;exact⟨_,hc'⟩
   ·obtain⟨w2,z2⟩:=I.cell y c' e
    exact⟨w2,z2.sameBut hs hcc⟩
  ·obtain⟨e,n,ne,nf,d⟩:=I.pin p hp
   refine⟨(hs.2 p.1 ?_).trans e,n,ne,nf,d⟩
   intro q
   rw[q,hoc] at e
   have q':oc=p.2:=Option.some.inj e
   exact d w' (by rw[← q'];exact hocd)
theorem store_ok {M:Model}{A:Around}{E:Value→Shared→Prop}{i:Nat}{x:Str}{v:V}{u:Value}{Q:Unit→Shared→Prop}(I:Inv X pins σ H s)(hN:X.N.Nodup)(hi:X.N[i]?=some x)(hx:Loc X.env.scope x)(r:RelV v u)(h:∀s',Inv X pins (σ.set i (some v)) H s'→Q () s')(hf:X.fn x=true∨X.env.scope.names.lookup x=some .local:=by first | exact .inl rfl | exact .inr rfl | assumption):wpAny M A (storeName X.env x u) Q E s:=
 store_ok2 I hN hi hx r (fun s' I' _=>h s' I') hf
theorem Inv.call' {s':Shared}{ch:List Addr}(I:Inv X pins σ H s)(ho:s'.os=s.os)(u:Un (frs X.stack) ch H H' s.heap s'.heap)(hok:HOk X.prog X.w H' s'.heap)(hg:AllBare s'.gens)(hch:∀b∈ch,(b∈X.ex∨X.s₀.heap.objs.size≤b)∧b≠X.env.locals∧(∀x c,X.env.cells.lookup x=some c→c≠b)∧∀p∈X.pn++pins,p.1≠b):Inv X pins σ H' s':=by
 obtain⟨h',g',d',t',o'⟩:=s'
 have e:o'=s.os:=ho
 subst e
 exact I.call (g':=g') (t':=t') (d':=d') u hok hg hch
end
abbrev XK:=Value→Option Addr→Hp→Prop
abbrev St:=List (Option V)
abbrev VK:=V→Hp→Prop
abbrev TE:=St→Hp→VK→Prop
abbrev TT:=St→Hp→(Bool→Hp→Prop)→Prop
abbrev TA:=St→Hp→(List V→Hp→Prop)→Prop
structure Ends where
 nx:St→Hp→Prop
 rt:VK
 bk:St→Hp→Prop:=fun _ _=>False
 ct:St→Hp→Prop:=fun _ _=>False
abbrev TS:=Ends→St→Hp→Prop
def EP (X:Cx)(pins:List (Addr × Obj))(σ:St)(Q:VK)(u:Value)(s':Shared):Prop:=∃v H',Inv X pins σ H' s'∧RelV v u∧Q v H'
def TP (X:Cx)(pins:List (Addr × Obj))(σ:St)(Q:Bool→Hp→Prop)(b:Bool)(s':Shared):Prop:=∃H',Inv X pins σ H' s'∧Q b H'
def AP (X:Cx)(pins:List (Addr × Obj))(σ:St)(Q:List V→Hp→Prop)(us:List Value)(s':Shared):Prop:=∃vs H',Inv X pins σ H' s'∧Vals vs us∧Q vs H'
def SP (X:Cx)(pins:List (Addr × Obj))(D:Ends)(f:Flow)(s':Shared):Prop:=
 match f with
 | .next=>∃σ' H',Inv X pins σ' H' s'∧D.nx σ' H'
 | .brk=>∃σ' H',Inv X pins σ' H' s'∧D.bk σ' H'
 | .cont=>∃σ' H',Inv X pins σ' H' s'∧D.ct σ' H'
 | .ret u=>∃v σ' H',Inv X pins σ' H' s'∧RelV v u∧D.rt v H'
def PE (X:Cx)(e:Expr)(t:TE):Prop:=
 ∀(pins:List (Addr × Obj)) (s:Shared) (σ:St) (H:Hp) (Q:VK),Inv X pins σ H s→t σ H Q→wpAny (model X.prog X.w) X.A (eval e X.env) (EP X pins σ Q) X.xe s
def PT (X:Cx)(e:Expr)(t:TT):Prop:=
 ∀(pins:List (Addr × Obj)) (s:Shared) (σ:St) (H:Hp) (Q:Bool→Hp→Prop),Inv X pins σ H s→t σ H Q→wpAny (model X.prog X.w) X.A (isTrue e X.env (eval e X.env)) (TP X pins σ Q) X.xe s
def PW (X:Cx)(e:Expr)(t:TT):Prop:=
 ∀(whole:Sem Value) (pins:List (Addr × Obj)) (s:Shared) (σ:St) (H:Hp) (Q:Bool→Hp→Prop),Inv X pins σ H s→t σ H Q→wpAny (model X.prog X.w) X.A (isTrue e X.env whole) (TP X pins σ Q) X.xe s
theorem PW.pt {X:Cx}{e:Expr}{t:TT}(h:PW X e t):PT X e t:=h _
def PA (X:Cx)(es:List Expr)(t:TA):Prop:=
 ∀(pos:Pos) (pins:List (Addr × Obj)) (s:Shared) (σ:St) (H:Hp) (Q:List V→Hp→Prop),Inv X pins σ H s→t σ H Q→wpAny (model X.prog X.w) X.A (spliced (backTo pos (starEach es X.env))) (AP X pins σ Q) X.xe s
def PS (X:Cx)(st:Stmt)(t:TS):Prop:=
 ∀(pins:List (Addr × Obj)) (s:Shared) (σ:St) (H:Hp) (D:Ends),Inv X pins σ H s→t D σ H→wpAny (model X.prog X.w) X.A (exec st X.env) (SP X pins D) X.xe s
def PSs (X:Cx)(st:List Stmt)(t:TS):Prop:=
 ∀(pins:List (Addr × Obj)) (s:Shared) (σ:St) (H:Hp) (D:Ends),Inv X pins σ H s→t D σ H→wpAny (model X.prog X.w) X.A (execs st X.env) (SP X pins D) X.xe s
theorem thn {α:Type}{t:Sem α}{Q Q':α→Shared→Prop}{M:Model}{A:Around}{E:Value→Shared→Prop}{s:Shared}(h:wpAny M A t Q E s)(hQ:∀a s,Q a s→Q' a s):wpAny M A t Q' E s:=wpAny_mono h hQ fun _ _ x=>x
section
variable {X:Cx}
def tVar (i:Nat):TE:=fun σ H Q=>∃v,σ[i]?=some (some v)∧Q v H
def tC (v:V):TE:=fun _ H Q=>Q v H
theorem pe_var {i:Nat}{x:Str}{pos:Pos}(hN:X.N[i]?=some x)(hv:Vis X.env.scope x)(hd:(x == ("__debug__":Str))=false:=by decide)(hcd:(x == ("__classdict__":Str))=false:=by decide):PE X (.Name x pos) (tVar i):=by
 intro pins s σ H Q I h
 obtain⟨v,e,h⟩:=h
 obtain⟨m,hn,hl⟩:=I.loc
 obtain⟨u,r,l⟩:=hl i x v hN e hv
 have fin:EP X pins σ Q u s:=⟨v,H,I,r,h⟩
 rcases l with ⟨hk,hm⟩ | ⟨hk,c,hc,hcell⟩
 ·exact wpAny_Name (wpAny_loadName_local I.ok.kind hk hn hm fin) hd
 ·rcases hk with hk | hk
  ·exact wpAny_Name (wpAny_loadName_cell I.ok.kind hk hc hcell fin) hd
  ·exact wpAny_Name (wpAny_loadName_free I.ok.kind hk hc hcell fin hcd) hd
theorem pe_int {i j pos}:PE X (.Constant (.int i) j pos) (tC (.int i)):=fun _ _ _ H _ I h=>wpAny_Constant_int ⟨.int i,H,I.tok _,⟨_,rfl⟩,h⟩
theorem pe_bl {b j pos}:PE X (.Constant (.bool b) j pos) (tC (.bl b)):=fun _ _ _ H _ I h=>Constant_bool ⟨.bl b,H,I,rfl,h⟩
theorem pe_str {x j pos}:PE X (.Constant (.str x) j pos) (tC (.str x)):=fun _ _ _ H _ I h=>Calls.Constant_str ⟨.str x,H,I.tok _,⟨_,rfl⟩,h⟩
def Gl (X:Cx)(x:Str):Prop:=X.env.kindOf x=some .globalImplicit
theorem ld_glob {E:Value→Shared→Prop}{pins:List (Addr × Obj)}{s:Shared}{σ:St}{H:Hp}{x:Str}{u:Value}{pos:Pos}{Q:Value→Shared→Prop}(I:Inv X pins σ H s)(hg:Gl X x)(hm:X.mg x=some u)(h:Q u s)(hd:(x == ("__debug__":Str))=false:=by decide):wpAny (model X.prog X.w) X.A (eval (.Name x pos) X.env) Q E s:=
 Calls.Name_function_global I.ok.kind hg (Calls.loadGlobal_global (by rw[I.ok.glob];exact I.mod.glob.keeps I.bk) hm h) hd
theorem ld_blt {E:Value→Shared→Prop}{pins:List (Addr × Obj)}{s:Shared}{σ:St}{H:Hp}{x:Str}{u:Value}{pos:Pos}{Q:Value→Shared→Prop}(I:Inv X pins σ H s)(hg:Gl X x)(hm:X.mg x=none)(hv:bootBuiltins x=some u)(h:Q u s)(hn:x≠"__name__":=by decide)(hd:(x == ("__debug__":Str))=false:=by decide):wpAny (model X.prog X.w) X.A (eval (.Name x pos) X.env) Q E s:=by
 obtain⟨mb,h1,h2⟩:=I.mod.blt
 exact Calls.Name_function_global I.ok.kind hg (Calls.loadGlobal_builtin (by rw[I.ok.glob];exact I.mod.glob.keeps I.bk) hm (by rw[I.ok.blt];exact h1.keeps I.bk) ((h2 x hn).trans hv) h) hd
theorem pe_glob {x:Str}{v:V}{u:Value}{pos:Pos}(hg:Gl X x)(hm:X.mg x=some u)(r:RelV v u)(hd:(x == ("__debug__":Str))=false:=by decide):PE X (.Name x pos) (tC v):=
 fun _ _ _ H _ I h=>ld_glob I hg hm ⟨v,H,I,r,h⟩ hd
theorem pe_bltn {x:Str}{v:V}{u:Value}{pos:Pos}(hg:Gl X x)(hm:X.mg x=none)(hv:bootBuiltins x=some u)(r:RelV v u)(hn:x≠"__name__":=by decide)(hd:(x == ("__debug__":Str))=false:=by decide):PE X (.Name x pos) (tC v):=
 fun _ _ _ H _ I h=>ld_blt I hg hm hv ⟨v,H,I,r,h⟩ hn hd
variable {a b:Expr} {ta tb:TE} {pos:Pos}
def PC (X:Cx)(op:CmpOp)(a b:Expr)(t:TE):Prop:=
 ∀(pins:List (Addr × Obj)) (s:Shared) (σ:St) (H:Hp) (Q:VK),Inv X pins σ H s→t σ H Q→
  wpAny (model X.prog X.w) X.A (eval a X.env) (fun v s₁=>wpAny (model X.prog X.w) X.A (eval b X.env) (fun u s₂=>wpAny (model X.prog X.w) X.A (compareOp op v u) (EP X pins σ Q) X.xe s₂) X.xe s₁) X.xe s
theorem nobehind (b:Expr){op:CmpOp}(h:op≠.In)(h2:op≠.NotIn):behindInMarks op b=false:=by
 have e1:(op == CmpOp.In)=false:=by cases op<;>first | rfl | exact absurd rfl h
 have e2:(op == CmpOp.NotIn)=false:=by cases op<;>first | rfl | exact absurd rfl h2
 cases b<;>simp[behindInMarks,e1,e2]
def tIsN (ta:TE):TE:=fun σ H Q=>ta σ H fun x H1=>Q (.bl (decide (x=.non))) H1
theorem RelV.none_iff {x:V}{v:Value}(r:RelV x v):(v == Value.none)=decide (x=.non):=by
 cases x with
 |non=>cases r;rfl
 |bl _=>cases r;rfl
 |int _=>obtain⟨t,rfl⟩:=r;rfl
 |str _=>obtain⟨t,rfl⟩:=r;rfl
 |byt _=>obtain⟨t,rfl⟩:=r;rfl
 |flt _=>obtain⟨t,rfl⟩:=r;rfl
 |ref _=>cases r;rfl
 |ty _=>cases r;rfl
theorem pc_isN {j pos'}(ha:PE X a ta):PC X .Is a (.Constant .none j pos') (tIsN ta):=by
 intro pins s σ H Q I h
 refine thn (ha pins s σ H _ I h) fun v s1 ⟨x,H1,I1,r1,q1⟩=>?_
 exact Constant_none (is_none_gen ⟨.bl _,H1,I1,by rw[r1.none_iff];rfl,q1⟩)
def tB (t:TE):TT:=fun σ H Q=>t σ H fun x H1=>∃c,x=.bl c∧Q c H1
theorem pt_cmp {op:CmpOp}{t:TE}(h:PC X op a b t)(h1:behindInMarks op b=false:=by first | exact nobehind _ (by decide) (by decide) | rfl):PT X (.Compare a [op] [b] pos) (tB t):=by
 intro pins s σ H Q I hw
 refine wpAny_isTrue_Compare1 (thn (h pins s σ H _ I hw) fun v s1 h1=>thn h1 fun u s2 h2=>thn h2 fun c s3 ⟨x,H1,I1,r1,q1⟩=>?_) h1
 obtain⟨d,rfl,q⟩:=q1
 cases r1
 exact wpAny_truthy_bool ⟨H1,I1,q⟩
theorem pt_val {e:Expr}{t:TE}(h:PE X e t)(he:∀whole,isTrue e X.env whole=(do let v ← whole;standAt e.pos;holding [v] (truthy v)):=by intro _;rfl):PT X e (tB t):=by
 intro pins s σ H Q I hw
 refine isTrue_plain (thn (h pins s σ H _ I hw) fun v s1 ⟨x,H1,I1,r1,q1⟩=>?_) (he _)
 obtain⟨d,rfl,q⟩:=q1
 cases r1
 exact wpAny_truthy_bool ⟨H1,I1,q⟩
variable {tA tB':TT} {rest:List Expr}
def tAnd (t u:TT):TT:=fun σ H Q=>t σ H fun c H1=>if c=true then u σ H1 Q else Q false H1
def tOr (t u:TT):TT:=fun σ H Q=>t σ H fun c H1=>if c=true then Q true H1 else u σ H1 Q
def tNot (t:TT):TT:=fun σ H Q=>t σ H fun c H1=>Q (!c) H1
theorem pw_and1 (ha:PT X a tA):PW X (.BoolOp .And [a] pos) tA:=by
 intro wh pins s σ H Q I h
 refine isTrue_and (thn (ha pins s σ H Q I h) fun c s1 e=>?_)
 cases c with
 |true=>exact isTrue_and_nil e
 |false=>exact e
theorem pw_or1 (ha:PT X a tA):PW X (.BoolOp .Or [a] pos) tA:=by
 intro wh pins s σ H Q I h
 refine isTrue_or (thn (ha pins s σ H Q I h) fun c s1 e=>?_)
 cases c with
 |false=>exact isTrue_or_nil e
 |true=>exact e
theorem pw_and (ha:PT X a tA)(hb:PW X (.BoolOp .And (b :: rest) pos) tB'):PW X (.BoolOp .And (a :: b :: rest) pos) (tAnd tA tB'):=by
 intro wh pins s σ H Q I h
 refine isTrue_and (thn (ha pins s σ H _ I h) fun c s1 ⟨H1,I1,q1⟩=>?_)
 cases c with
 |true=>exact hb wh pins s1 σ H1 Q I1 q1
 |false=>exact⟨H1,I1,q1⟩
theorem pw_or (ha:PT X a tA)(hb:PW X (.BoolOp .Or (b :: rest) pos) tB'):PW X (.BoolOp .Or (a :: b :: rest) pos) (tOr tA tB'):=by
 intro wh pins s σ H Q I h
 refine isTrue_or (thn (ha pins s σ H _ I h) fun c s1 ⟨H1,I1,q1⟩=>?_)
 cases c with
 |true=>exact⟨H1,I1,q1⟩
 |false=>exact hb wh pins s1 σ H1 Q I1 q1
theorem pt_not (ha:PT X a tA):PT X (.UnaryOp .Not a pos) (tNot tA):=by
 intro pins s σ H Q I h
 exact isTrue_not (ha pins s σ H (fun c H1=>Q (!c) H1) I h)
def tAndV (ta tb:TE):TE:=fun σ H Q=>ta σ H fun x H1=>∃c,x=.bl c∧if c=true then tb σ H1 Q else Q (.bl false) H1
def tNotV (ta:TE):TE:=fun σ H Q=>ta σ H fun x H1=>∃c,x=.bl c∧Q (.bl (!c)) H1
theorem pe_one {op}{t:TE}(h:PE X a t):PE X (.BoolOp op [a] pos) t:=fun pins s σ H Q I hw=>BoolOp_one (h pins s σ H Q I hw)
theorem pe_and (ha:PE X a ta)(hb:PE X (.BoolOp .And (b :: rest) pos) tb):PE X (.BoolOp .And (a :: b :: rest) pos) (tAndV ta tb):=by
 intro pins s σ H Q I h
 refine BoolOp_and (thn (ha pins s σ H _ I h) fun v s1 ⟨x,H1,I1,r1,q1⟩=>?_)
 obtain⟨c,rfl,q1⟩:=q1
 cases r1
 refine wpAny_truthy_bool ?_
 cases c with
 |true=>exact hb pins s1 σ H1 Q I1 q1
 |false=>exact⟨.bl false,H1,I1,rfl,q1⟩
theorem pe_not (ha:PE X a ta):PE X (.UnaryOp .Not a pos) (tNotV ta):=by
 intro pins s σ H Q I h
 refine UnaryOp_ (thn (ha pins s σ H _ I h) fun v s1 ⟨x,H1,I1,r1,q1⟩=>?_)
 obtain⟨c,rfl,q1⟩:=q1
 cases r1
 exact not_of (wpAny_truthy_bool ⟨.bl (!c),H1,I1,rfl,q1⟩)
def tIf (t:TT)(ta tb:TE):TE:=fun σ H Q=>t σ H fun c H1=>if c=true then ta σ H1 Q else tb σ H1 Q
theorem pe_ifExp {c:Expr}(hc:PT X c tA)(ha:PE X a ta)(hb:PE X b tb):PE X (.IfExp c a b pos) (tIf tA ta tb):=by
 intro pins s σ H Q I h
 refine wpAny_IfExp (thn (hc pins s σ H _ I h) fun d s1 ⟨H1,I1,q1⟩=>?_)
 cases d with
 |true=>exact ha pins s1 σ H1 Q I1 q1
 |false=>exact hb pins s1 σ H1 Q I1 q1
end
def SqL (K:PySem.W.Frag)(H:Hp)(a:Addr)(xs:List V):Prop:=
 Rd H a (.lst xs)∨
  ∃(o:Obj) (its:Array Value) (n:Nat),K.lookup a=some o∧o.cls=.type "list"∧o.dict=none∧o.data=.seq its n∧its.size≤sizeLine∧Vals xs its.toList
def SqT (K:PySem.W.Frag)(H:Hp)(a:Addr)(xs:List V):Prop:=
 Rd H a (.tup xs)∨
  ∃(o:Obj) (its:Array Value) (n:Nat),K.lookup a=some o∧o.cls=.type "tuple"∧o.data=.seq its n∧its.size≤sizeLine∧Vals xs its.toList
def absV:Value→Option V
 | .none=>some .non
 | .bool b=>some (.bl b)
 | .int i _=>some (.int i)
 | .str x _=>some (.str x)
 | .bytes b _=>some (.byt b)
 | .float b _=>some (.flt b)
 | .ref a=>some (.ref a)
 | .type n=>some (.ty n)
 |_=>none
theorem RelV.abs {x:V}{u:Value}(r:RelV x u):absV u=some x:=by
 cases x with
 |non=>cases r;rfl
 |bl _=>cases r;rfl
 |int _=>obtain⟨t,rfl⟩:=r;rfl
 |str _=>obtain⟨t,rfl⟩:=r;rfl
 |byt _=>obtain⟨t,rfl⟩:=r;rfl
 |flt _=>obtain⟨t,rfl⟩:=r;rfl
 |ref _=>cases r;rfl
 |ty _=>cases r;rfl
theorem RelV.inj {x y:V}{u:Value}(r:RelV x u)(q:RelV y u):x=y:=Option.some.inj (r.abs.symm.trans q.abs)
theorem Vals.inj:∀{xs ys:List V} {us:List Value},Vals xs us→Vals ys us→xs=ys
 |_,_,_,.nil,.nil=>rfl
 |_,_,_,.cons r t,.cons r' t'=>by rw[r.inj r',Vals.inj t t']
section
variable {X:Cx} {pins:List (Addr × Obj)} {σ:St} {H:Hp} {s:Shared} {a:Addr} {xs ys:List V}
theorem SqL.of {K:PySem.W.Frag}(h:H a=some (.lst xs)):SqL K H a xs:=.inl (.inl h)
theorem SqT.of {K:PySem.W.Frag}(h:H a=some (.tup xs)):SqT K H a xs:=.inl (.inl h)
theorem Inv.list (I:Inv X pins σ H s)(h:SqL X.K H a xs):∃its:List Value,Vals xs its∧PlainL s.heap a its.toArray∧xs.length≤sizeLine:=by
 rcases h with h | ⟨o,its,n,hk,hc,hd,hs,hz,r⟩
 ·obtain⟨z,its,n,r,e⟩:=h.ok I.hok
  exact⟨its,r,⟨_,n,e,rfl,rfl,rfl⟩,z⟩
 ·refine⟨its.toList,r,⟨o,n,I.kIn a o hk,hc,hd,by simpa using hs⟩,?_⟩
  have e:=r.length
  simp only[Array.length_toList] at e
  omega
theorem Inv.tuple (I:Inv X pins σ H s)(h:SqT X.K H a xs):∃its:List Value,Vals xs its∧IsTup s.heap a its.toArray∧xs.length≤sizeLine:=by
 rcases h with h | ⟨o,its,n,hk,hc,hs,hz,r⟩
 ·obtain⟨z,its,r,p⟩:=h.ok I.hok
  exact⟨its,r,p,z⟩
 ·refine⟨its.toList,r,⟨o,I.kIn a o hk,hc,n,by simpa using hs⟩,?_⟩
  have e:=r.length
  simp only[Array.length_toList] at e
  omega
theorem Inv.list_inj (I:Inv X pins σ H s)(h:SqL X.K H a xs)(h':SqL X.K H a ys):xs=ys:=by
 obtain⟨its,r,⟨o,n,e,_,_,d⟩,_⟩:=I.list h
 obtain⟨its',r',⟨o',n',e',_,_,d'⟩,_⟩:=I.list h'
 rw[e] at e';cases e'
 rw[d] at d'
 injection d' with d1 _
 have:its=its':=by simpa using congrArg Array.toList d1
 subst this
 exact r.inj r'
theorem Inv.tuple_inj (I:Inv X pins σ H s)(h:SqT X.K H a xs)(h':SqT X.K H a ys):xs=ys:=by
 obtain⟨its,r,⟨o,e,_,n,d⟩,_⟩:=I.tuple h
 obtain⟨its',r',⟨o',e',_,n',d'⟩,_⟩:=I.tuple h'
 rw[e] at e';cases e'
 rw[d] at d'
 injection d' with d1 _
 have:its=its':=by simpa using congrArg Array.toList d1
 subst this
 exact r.inj r'
end
abbrev Cx.wish (X:Cx)(E:Value→Shared→Prop):Cx:={ X with xe:=E }
abbrev Cx.nox (X:Cx):Cx:=X.wish fun _ _=>False
theorem Cx.Ok.wish {X:Cx}(ok:X.Ok)(E:Value→Shared→Prop):(X.wish E).Ok:=
 ⟨ok.mod,ok.kind,ok.glob,ok.blt,ok.above,ok.inj,ok.has,ok.cab,ok.hd,ok.frames,ok.stk,ok.exf,ok.bs,ok.bsz,ok.noex,ok.exfs,ok.funs,ok.frf⟩
theorem Cx.Ok.unwish {X:Cx}{E:Value→Shared→Prop}(ok:(X.wish E).Ok):X.Ok:=
 ⟨ok.mod,ok.kind,ok.glob,ok.blt,ok.above,ok.inj,ok.has,ok.cab,ok.hd,ok.frames,ok.stk,ok.exf,ok.bs,ok.bsz,ok.noex,ok.exfs,ok.funs,ok.frf⟩
section
variable {X:Cx} {pins:List (Addr × Obj)} {σ:St} {H:Hp} {s:Shared} {E:Value→Shared→Prop}
theorem Inv.wish (I:Inv X pins σ H s)(E:Value→Shared→Prop):Inv (X.wish E) pins σ H s:=⟨I.ok.wish E,I.os,I.bare,I.base,I.loc,I.cell,I.free,I.freeC,I.pin,I.hok,I.len⟩
theorem Inv.unwish (I:Inv (X.wish E) pins σ H s):Inv X pins σ H s:=⟨I.ok.unwish,I.os,I.bare,I.base,I.loc,I.cell,I.free,I.freeC,I.pin,I.hok,I.len⟩
theorem SP.unwish {D:Ends}{f:Flow}{s':Shared}(h:SP (X.wish E) pins D f s'):SP X pins D f s':=by
 cases f with
 |next=>obtain⟨σ',H',I,q⟩:=h;exact⟨σ',H',I.unwish,q⟩
 |brk=>obtain⟨σ',H',I,q⟩:=h;exact⟨σ',H',I.unwish,q⟩
 |cont=>obtain⟨σ',H',I,q⟩:=h;exact⟨σ',H',I.unwish,q⟩
 |ret u=>obtain⟨v,σ',H',I,r,q⟩:=h;exact⟨v,σ',H',I.unwish,r,q⟩
theorem PSs.nox {st:List Stmt}{t:TS}(h:PSs X.nox st t):PSs X st t:=fun pins s σ H D I hw=>
 wpAny_mono (h pins s σ H D (I.wish _) hw) (fun _ _ q=>q.unwish) fun _ _ z=>False.elim z
end
section
variable {X:Cx} {st:Stmt} {rest:List Stmt} {t u:TS} {e:Expr} {te:TE} {pos:Pos}
def tNext:TS:=fun D σ H=>D.nx σ H
def tSeq (t u:TS):TS:=fun D σ H=>t { D with nx:=u D } σ H
theorem pss_nil:PSs X [] tNext:=fun _ _ σ H _ I h=>wpAny_execs_nil ⟨σ,H,I,h⟩
theorem pss_cons (h1:PS X st t)(h2:PSs X rest u):PSs X (st :: rest) (tSeq t u):=by
 intro pins s σ H D I h
 refine wpAny_execs_cons (thn (h1 pins s σ H { D with nx:=u D } I h) fun f s1 q=>?_)
 cases f with
 |next=>
  obtain⟨σ',H',I',q⟩:=q
  exact h2 pins s1 σ' H' D I' q
 |ret v=>exact q
 |brk=>exact q
 |cont=>exact q
theorem pss_one (h1:PS X st t):PSs X [st] t:=by
 intro pins s σ H D I h
 refine wpAny_execs_cons (thn (h1 pins s σ H D I h) fun f s1 q=>?_)
 cases f with
 |next=>exact wpAny_execs_nil q
 |ret v=>exact q
 |brk=>exact q
 |cont=>exact q
def tCont:TS:=fun D σ H=>D.ct σ H
theorem ps_continue:PS X (.Continue pos) tCont:=fun _ _ σ H _ I h=>wpAny_Continue ⟨σ,H,I,h⟩
theorem Inv.quiet {pins:List (Addr × Obj)}{σ:St}{H:Hp}{s:Shared}(I:Inv X pins σ H s):interactive X.env=false:=by simp[interactive,I.ok.kind]
def tDrop (te:TE):TS:=fun D σ H=>te σ H fun _ H1=>D.nx σ H1
theorem ps_expr (he:PE X e te)(hs:swapsWith e none pos.line X.env=pure false:=by rfl):PS X (.Expr e pos) (tDrop te):=by
 intro pins s σ H D I h
 exact wpAny_Expr_any (thn (he pins s σ H _ I h) fun v s1 ⟨x,H1,I1,r1,q1⟩=>⟨σ,H1,I1,q1⟩) I.quiet hs
def tRet (te:TE):TS:=fun D σ H=>te σ H D.rt
theorem ps_ret (he:PE X e te):PS X (.Return (some e) pos) (tRet te):=by
 intro pins s σ H D I h
 exact wpAny_Return_some (thn (he pins s σ H _ I h) fun v s1 ⟨x,H1,I1,r1,q1⟩=>⟨x,σ,H1,I1,r1,q1⟩)
def tIfS (c:TT)(t u:TS):TS:=fun D σ H=>c σ H fun b H1=>if b=true then t D σ H1 else u D σ H1
theorem ps_if {c:Expr}{a b:List Stmt}{tc:TT}(hc:PT X c tc)(ha:PSs X a t)(hb:PSs X b u):PS X (.If c a b pos) (tIfS tc t u):=by
 intro pins s σ H D I h
 refine wpAny_If (thn (hc pins s σ H _ I h) fun d s1 ⟨H1,I1,q1⟩=>?_)
 cases d with
 |true=>exact ha pins s1 σ H1 D I1 q1
 |false=>exact hb pins s1 σ H1 D I1 q1
def tNever:TS:=fun _ _ _=>False
theorem ps_never:PS X st tNever:=fun _ _ _ _ _ _ h=>h.elim
theorem pss_never {sts:List Stmt}:PSs X sts tNever:=fun _ _ _ _ _ _ h=>h.elim
end
abbrev TG:=V→St→Hp→(St→Hp→Prop)→Prop
abbrev TGs:=List V→St→Hp→(St→Hp→Prop)→Prop
def PG (X:Cx)(target:Expr)(t:TG):Prop:=
 ∀(pins:List (Addr × Obj)) (s:Shared) (σ:St) (H:Hp) (v:V) (u:Value) (Q:St→Hp→Prop),Inv X pins σ H s→RelV v u→t v σ H Q→
  wpAny (model X.prog X.w) X.A (assign target X.env u) (fun _ s'=>∃σ' H',Inv X pins σ' H' s'∧Q σ' H') X.xe s
def PGs (X:Cx)(ts:List Expr)(t:TGs):Prop:=
 ∀(pins:List (Addr × Obj)) (s:Shared) (σ:St) (H:Hp) (vs:List V) (us:List Value) (Q:St→Hp→Prop),Inv X pins σ H s→Vals vs us→t vs σ H Q→
  wpAny (model X.prog X.w) X.A (assignInOrder ((assignEach ts X.env).map (·.2)) us) (fun _ s'=>∃σ' H',Inv X pins σ' H' s'∧Q σ' H') X.xe s
abbrev TSet:=V→V→V→Hp→(Hp→Prop)→Prop
def PSet (X:Cx)(t:TSet):Prop:=
 ∀(pins:List (Addr × Obj)) (s:Shared) (σ:St) (H:Hp) (o i v:V) (ov iv u:Value) (Q:Hp→Prop),Inv X pins σ H s→RelV o ov→RelV i iv→RelV v u→t o i v H Q→
  wpAny (model X.prog X.w) X.A (setItem ov iv u) (fun _ s'=>∃H',Inv X pins σ H' s'∧Q H') X.xe s
abbrev TIp:=V→V→Hp→VK→Prop
def PIp (X:Cx)(op:Operator)(t:TIp):Prop:=
 ∀(pins:List (Addr × Obj)) (s:Shared) (σ:St) (H:Hp) (x y:V) (v u:Value) (Q:VK),Inv X pins σ H s→RelV x v→RelV y u→t x y H Q→
  wpAny (model X.prog X.w) X.A (inplaceOp op v u) (EP X pins σ Q) X.xe s
section
variable {X:Cx} {pos:Pos}
def gName (i:Nat):TG:=fun v σ H Q=>Q (σ.set i (some v)) H
theorem pg_name {i:Nat}{x:Str}(hN:X.N.Nodup)(hi:X.N[i]?=some x)(hx:Loc X.env.scope x)(hf:X.fn x=true∨X.env.scope.names.lookup x=some .local:=by first | exact .inl rfl | exact .inr rfl | assumption):PG X (.Name x pos) (gName i):=by
 intro pins s σ H v u Q I r h
 exact wpAny_assign_Name (store_ok I hN hi hx r (fun s' I'=>⟨_,H,I',h⟩) hf)
def gNil:TGs:=fun vs σ H Q=>vs=[]∧Q σ H
def gCons (t:TG)(u:TGs):TGs:=fun vs σ H Q=>∃v r,vs=v :: r∧t v σ H fun σ' H'=>u r σ' H' Q
theorem pgs_nil:PGs X [] gNil:=by
 intro pins s σ H vs us Q I r h
 obtain⟨e,h⟩:=h
 subst e
 cases r
 exact assignInOrder_nil ⟨σ,H,I,h⟩
theorem pgs_cons {e:Expr}{es:List Expr}{t:TG}{u:TGs}(h1:PG X e t)(h2:PGs X es u)(hs:(assignEach (e :: es) X.env).map (·.2)=assign e X.env :: (assignEach es X.env).map (·.2):=by rfl):PGs X (e :: es) (gCons t u):=by
 intro pins s σ H vs us Q I r h
 obtain⟨v,vr,e1,h⟩:=h
 subst e1
 cases r with
 |cons r rr=>
  rw[hs]
  refine assignInOrder_cons (thn (h1 pins s σ H _ _ _ I r h) fun _ s1 ⟨σ1,H1,I1,q1⟩=>?_)
  exact h2 pins s1 σ1 H1 _ _ Q I1 rr q1
def gTup (K:PySem.W.Frag)(n:Nat)(t:TGs):TG:=fun v σ H Q=>∃a xs,v=.ref a∧SqT K H a xs∧xs.length=n∧t xs σ H Q
theorem pg_tup {es:List Expr}{k:Nat}{t:TGs}{n:Nat}(hc:X.calm=true)(h:PGs X es t)(hn:(assignEach es X.env).length=n:=by rfl)(hst:(assignEach es X.env).findIdx? (·.1)=none:=by rfl):PG X (.Tuple es k pos) (gTup X.K n t):=by
 intro pins s σ H v u Q I r hw
 obtain⟨a,xs,e1,hq,hl,hw⟩:=hw
 subst e1
 cases r
 obtain⟨its,rv,ht,hz⟩:=I.tuple hq
 refine assign_Tuple_tuple (I.ok.hd hc) ht (by simp[hn,← hl,rv.length]) hst fun h' hx=>?_
 have I1:Inv X pins σ H { s with heap:=h' }:=I.kept (t':=s.toks) fun b o e=>hx b o (Nat.ne_of_lt (Heap.lt_size e)) e
 exact h pins _ σ H xs _ Q I1 (by simpa using rv) hw
def gSub (to ti:TE)(t:TSet):TG:=fun v σ H Q=>to σ H fun o H1=>ti σ H1 fun i H2=>t o i v H2 fun H3=>Q σ H3
theorem pg_sub {o i:Expr}{to ti:TE}{t:TSet}(ho:PE X o to)(hi:PE X i ti)(hs:PSet X t)(ha:∀v,assign (.Subscript o i pos) X.env v=(do
   let ov ← holding [v] (eval o X.env)
   let iv ← holding [v,ov] (eval i X.env)
   standAt pos
   holding [v,ov,iv] (setItem ov iv v)
   release [v,ov,iv] []):=by intro _;rfl):PG X (.Subscript o i pos) (gSub to ti t):=by
 intro pins s σ H v u Q I r h
 rw[ha]
 refine wpAny_bind (wpAny_holding (thn (ho pins s σ H _ I h) fun ov s1 ⟨x,H1,I1,r1,q1⟩=>?_))
 refine wpAny_bind (wpAny_holding (thn (hi pins s1 σ H1 _ I1 q1) fun iv s2 ⟨y,H2,I2,r2,q2⟩=>?_))
 refine wpAny_bind (wpAny_standAt (wpAny_bind (wpAny_holding (thn (hs pins s2 σ H2 x y v ov iv u _ I2 r1 r2 r q2) fun _ s3 ⟨H3,I3,q3⟩=>?_))))
 exact wpAny_release ⟨σ,H3,I3,q3⟩
def tAsg (te:TE)(g:TG):TS:=fun D σ H=>te σ H fun x H1=>g x σ H1 D.nx
theorem ps_asg {tg e:Expr}{te:TE}{g:TG}(he:PE X e te)(hg:PG X tg g)(hs:swapsWithSole [tg] e pos.line X.env=pure false:=by rfl)(hw:swappedStores [tg] e X.env=pure none:=by rfl)(h1:(assignEach [tg] X.env).map (·.2)=[assign tg X.env]:=by rfl):PS X (.Assign [tg] e pos) (tAsg te g):=by
 intro pins s σ H D I h
 refine wpAny_Assign_stores (thn (he pins s σ H _ I h) fun v s1 ⟨x,H1,I1,r1,q1⟩=>?_) hs hw
 rw[h1]
 exact thn (hg pins s1 σ H1 x v _ I1 r1 q1) fun _ s2 q=>q
theorem ps_set {i:Nat}{x:Str}{e:Expr}{te:TE}{pos':Pos}(hN:X.N.Nodup)(hi:X.N[i]?=some x)(hx:Loc X.env.scope x)(he:PE X e te)(hs:swapsWith e (some (.Name x pos')) pos.line X.env=pure false:=by rfl)(hf:X.fn x=true∨X.env.scope.names.lookup x=some .local:=by first | exact .inl rfl | exact .inr rfl | assumption) :
  PS X (.Assign [.Name x pos'] e pos) (tAsg te (gName i)):=by
 intro pins s σ H D I h
 refine wpAny_Assign_Name (thn (he pins s σ H _ I h) fun v s1 ⟨y,H1,I1,r1,q1⟩=>?_) hs
 exact store_ok I1 hN hi hx r1 (fun s2 I2=>⟨_,H1,I2,q1⟩) hf
def tPar (i j:Nat)(ta:TA):TS:=fun D σ H=>ta σ H fun vs H1=>∃v w,vs=[v,w]∧D.nx ((σ.set i (some v)).set j (some w)) H1
theorem ps_par {i j:Nat}{x y:Str}{a b:Expr}{ta:TA}{px py pt:Pos}{kt k2 pt2}(hc:X.calm=true)(hN:X.N.Nodup)(hi:X.N[i]?=some x)(hj:X.N[j]?=some y)(hij:i≠j)(hx:X.env.scope.names.lookup x=some .local)(hy:X.env.scope.names.lookup y=some .local)(ha:PA X [a,b] ta)(hw:swappedStores [.Tuple [.Name x px,.Name y py] kt pt] (.Tuple [a,b] k2 pt2) X.env=pure (some [x,y]))(hs:swapsWithSole [.Tuple [.Name x px,.Name y py] kt pt] (.Tuple [a,b] k2 pt2) pos.line X.env=pure false:=by rfl) :
  PS X (.Assign [.Tuple [.Name x px,.Name y py] kt pt] (.Tuple [a,b] k2 pt2) pos) (tPar i j ta):=by
 intro pins s σ H D I h
 rw[exec_Assign_arm]
 refine wpAny_bind (wpAny_standAt ?_)
 rw[hs]
 refine wpAny_bind (wpAny_pure ?_)
 rw[if_neg (by decide)]
 refine wpAny_bind (Tuple_ (thn (ha _ pins s σ H _ I h) fun us s1 ⟨vs,H1,I1,r1,q1⟩=>?_))
 obtain⟨v,w,e1,q1⟩:=q1
 subst e1
 obtain⟨u1,u2,rfl,rv,rw'⟩:∃u1 u2,us=[u1,u2]∧RelV v u1∧RelV w u2:=by
  cases r1 with
  |cons p q=>
   cases q with
   |cons p' q'=>
    cases q'
    exact⟨_,_,rfl,p,p'⟩
 refine wpAny_newObj_type ?_ (by show 2≤sizeLine;decide)
 have I2:Inv X pins σ H1 { s1 with heap:=s1.heap.push { cls:=.type "tuple",data:=.seq [u1,u2].toArray } }:=I1.kept (t':=s1.toks) fun b o e=>Heap.get?_push_of_some _ e
 rw[hw]
 refine wpAny_bind (wpAny_pure ?_)
 show wpAny (model X.prog X.w) X.A (do rule "assign.swapped-stores";let items ← unpackItems (.ref s1.heap.objs.size) 2 none;assignInOrder [fun v=>bindName X.env y v,fun v=>bindName X.env x v] items.reverse;pure Flow.next) _ _ _
 refine wpAny_bind (wpAny_rule (wpAny_bind (unpackItems_tuple (items:=#[u1,u2]) (I.ok.hd hc) (IsTup.new s1.heap _) fun h' hx'=>?_)))
 have I3:=I2.kept (h':=h') (t':=s1.toks) fun b o e=>hx' b o (Nat.ne_of_lt (Heap.lt_size e)) e
 show wpAny _ _ (assignInOrder [fun v=>bindName X.env y v,fun v=>bindName X.env x v] [u2,u1] >>= fun _=>pure Flow.next) _ _ _
 refine wpAny_bind (assignInOrder_cons (wpAny_bindName (store_ok I3 hN hj (.inl hy) rw' (fun s2 I4=>?_) (.inr hy))))
 refine assignInOrder_cons (wpAny_bindName (store_ok I4 hN hi (.inl hx) rv (fun s3 I5=>assignInOrder_nil (wpAny_pure ?_)) (.inr hx)))
 rw[List.set_comm _ _ (Ne.symm hij)] at I5
 exact⟨_,H1,I5,q1⟩
def tAug (i:Nat)(te:TE)(ti:TIp):TS:=fun D σ H=>∃x,σ[i]?=some (some x)∧te σ H fun y H1=>ti x y H1 fun z H2=>D.nx (σ.set i (some z)) H2
theorem ps_aug {i:Nat}{x:Str}{e:Expr}{te:TE}{op:Operator}{ti:TIp}{pos':Pos}(hN:X.N.Nodup)(hi:X.N[i]?=some x)(hx:Loc X.env.scope x)(he:PE X e te)(ho:PIp X op ti)(hf:X.fn x=true∨X.env.scope.names.lookup x=some .local:=by first | exact .inl rfl | exact .inr rfl | assumption) :
  PS X (.AugAssign (.Name x pos') op e pos) (tAug i te ti):=by
 intro pins s σ H D I h
 obtain⟨v,e1,h⟩:=h
 obtain⟨m,hn,hl⟩:=I.loc
 have vis:Vis X.env.scope x:=by rcases hx with k | k;exact .inl k;exact .inr (.inl k)
 obtain⟨u,r,l⟩:=hl i x v hi e1 vis
 refine wpAny_AugAssign_Name ?_
 have go:wpAny (model X.prog X.w) X.A (eval e X.env) (fun w s₂=>wpAny (model X.prog X.w) X.A (inplaceOp op u w) (fun r s₃=>wpAny (model X.prog X.w) X.A (storeName X.env x r) (fun _=>SP X pins D .next) X.xe s₃) X.xe s₂) X.xe s:=by
  refine thn (he pins s σ H _ I h) fun w s1 ⟨y,H1,I1,r1,q1⟩=>?_
  refine thn (ho pins s1 σ H1 v y u w _ I1 r r1 q1) fun z s2 ⟨zv,H2,I2,r2,q2⟩=>?_
  exact store_ok I2 hN hi hx r2 (fun s3 I3=>⟨_,H2,I3,q2⟩) hf
 rcases l with ⟨hk,hm⟩ | ⟨hk,c,hc,hcell⟩
 ·exact wpAny_loadName_local I.ok.kind hk hn hm go
 ·rcases hk with hk | hk
  ·exact wpAny_loadName_cell I.ok.kind hk hc hcell go
  ·rcases hx with k | k
   ·have:X.env.scope.names.lookup x=some .free:=hk
    rw[k] at this;cases this
   ·have:X.env.scope.names.lookup x=some .free:=hk
    rw[k] at this;cases this
def ipI (f:Int→Int→Int):TIp:=fun x y H Q=>∃i j,x=.int i∧y=.int j∧Q (.int (f i j)) H
theorem ip_add:PIp X .Add (ipI fun i j=>i+j):=by
 intro pins s σ H x y v u Q I r1 r2 h
 obtain⟨i,j,e1,e2,q⟩:=h
 subst e1;subst e2
 obtain⟨t,rfl⟩:=r1
 obtain⟨t',rfl⟩:=r2
 exact iadd_int ⟨.int _,H,I.tok _,⟨_,rfl⟩,q⟩
def tWhile (c:TT)(tb:TS):TS:=fun D σ H=>∃W:Nat→St→Hp→Prop,(∃m,W m σ H)∧∀m σ H,W m σ H→
 c σ H fun b H1=>if b=true then ∃N:St→Hp→Prop,(∀σ' H',N σ' H'→∃m',m' < m∧W m' σ' H')∧tb { D with nx:=N,ct:=N,bk:=D.nx } σ H1 else D.nx σ H1
theorem ps_while {c:Expr}{body:List Stmt}{tc:TT}{tb:TS}(hp:PassesOwn (model X.prog X.w) X.A X.env X.xe)(hc:PT X c tc)(hb:PSs X body tb):PS X (.While c body [] pos) (tWhile tc tb):=by
 intro pins s σ H D I h
 obtain⟨W,⟨m0,w0⟩,turn⟩:=h
 refine wpAny_While (codeAny_whileLoop (fun n s'=>∃σ' H',Inv X pins σ' H' s'∧W n σ' H') ?_ m0 ⟨σ,H,I,w0⟩)
 rintro n s1 ⟨σ1,H1,I1,w1⟩
 refine wpAny_passesOwn hp (thn (hc pins s1 σ1 H1 _ I1 (turn n σ1 H1 w1)) fun b s2 ⟨H2,I2,q2⟩=>?_)
 cases b with
 |true=>
  obtain⟨N,hN,q2⟩:=q2
  rw[if_pos rfl]
  refine wpAny_passesOwn hp (thn (hb pins s2 σ1 H2 _ I2 q2) fun f s3 q3=>?_)
  cases f with
  |next=>
   obtain⟨σ3,H3,I3,n3⟩:=q3
   obtain⟨m',hm,w3⟩:=hN σ3 H3 n3
   exact⟨m',hm,σ3,H3,I3,w3⟩
  |cont=>
   obtain⟨σ3,H3,I3,n3⟩:=q3
   obtain⟨m',hm,w3⟩:=hN σ3 H3 n3
   exact⟨m',hm,σ3,H3,I3,w3⟩
  |brk=>exact q3
  |ret v=>exact q3
 |false=>
  rw[if_neg Bool.false_ne_true]
  exact wpAny_execs_nil ⟨σ1,H2,I2,q2⟩
end
structure It where
 go:Nat→Hp→Prop
 yld:Nat→Hp→V→Hp→Prop
 stop:Nat→Hp→Prop
def FpOk (X:Cx)(pins:List (Addr × Obj))(H:Hp)(b:Addr):Prop:=
 H b=none∧b≠X.env.locals∧b∉X.fs∧(b∈X.ex∨X.s₀.heap.objs.size≤b)∧(∀x c,X.env.cells.lookup x=some c→c≠b)∧∀p∈X.pn++pins,p.1≠b
theorem Inv.fpOk {X:Cx}{pins:List (Addr × Obj)}{σ:St}{H H':Hp}{s:Shared}{b:Addr}(I:Inv X pins σ H s)(hb:s.heap.objs.size≤b)(hn:H' b=none):FpOk X pins H' b:=by
 refine⟨hn,Nat.ne_of_gt (Nat.lt_of_lt_of_le I.lt hb),I.nofs hb,.inr (Nat.le_trans I.sz hb),fun x c e z=>?_,fun p hp z=>?_⟩
 ·obtain⟨v,q⟩:=I.cell x c e
  exact absurd (Nat.lt_of_lt_of_le q.lt (by rw[z];exact hb)) (Nat.lt_irrefl _)
 ·exact absurd (Nat.lt_of_lt_of_le (Heap.lt_size (I.pin p hp).1) (by rw[z];exact hb)) (Nat.lt_irrefl _)
structure Turn (P:Program) (w:World) (K:PySem.W.Frag) (tg:Expr) (J:It) (fp:List Addr) (it:Addr) (tn:Nat→Heap→Prop):Prop where
 mem:it∈fp
 obj:∀i h,tn i h→∀b∈fp,∃o,h.get? b=some o∧∀v,o.data≠.cell v
 keep:∀i h h',tn i h→(∀b∈fp,∀o,h.get? b=some o→h'.get? b=some o)→tn i h'
 item:∀(X:Cx),X.prog=P→X.w=w→X.K=K→X.calm=true→∀(i:Nat) (pins:List (Addr × Obj)) (s:Shared) (σ:St) (H:Hp) (E:Value→Shared→Prop),Inv X pins σ H s→(∀b∈fp,FpOk X pins H b)→tn i s.heap→J.go i H→
  wpAny (model P w) X.A (pyNext (.ref it)) (fun r s1=>∃u,r=some u∧
   wpAny (model P w) X.A (letOwnedTupleGo tg (.ref it) u) (fun _ s2=>∃x H',Inv X pins σ H' s2∧RelV x u∧J.yld i H x H'∧tn (i+1) s2.heap∧∀b∈fp,H' b=none) E s1) E s
 done:∀(X:Cx),X.prog=P→X.w=w→X.K=K→X.calm=true→∀(i:Nat) (pins:List (Addr × Obj)) (s:Shared) (σ:St) (H:Hp) (E:Value→Shared→Prop),Inv X pins σ H s→(∀b∈fp,FpOk X pins H b)→tn i s.heap→J.stop i H→
  wpAny (model P w) X.A (pyNext (.ref it)) (fun r s1=>r=none∧Inv X pins σ H s1) E s
 self:∀(A:Around) (i:Nat) (s:Shared) (Q:Value→Shared→Prop) (E:Value→Shared→Prop),tn i s.heap→Q (.ref it) s→wpAny (model P w) A (pyIter (.ref it)) Q E s
abbrev TI:=St→Hp→(It→Hp→Prop)→Prop
def PIE (X:Cx)(pins:List (Addr × Obj))(σ:St)(tg:Expr)(R:It→Hp→Prop)(itv:Value)(s2:Shared):Prop:=
 ∃(it:Addr) (fp:List Addr) (tn:Nat→Heap→Prop) (J:It) (H':Hp),itv=.ref it∧Inv X pins σ H' s2∧Turn X.prog X.w X.K tg J fp it tn∧tn 0 s2.heap∧(∀b∈fp,FpOk X pins H' b)∧R J H'
def PI (X:Cx)(tg iter:Expr)(wi:TI):Prop:=
 ∀(pins:List (Addr × Obj)) (s:Shared) (σ:St) (H:Hp) (R:It→Hp→Prop),Inv X pins σ H s→wi σ H R→
  wpAny (model X.prog X.w) X.A (eval iter X.env) (fun v s1=>wpAny (model X.prog X.w) X.A (pyIter v) (PIE X pins σ tg R) X.xe s1) X.xe s
theorem go_of {M : Model}{A : Around}{E : Value → Shared → Prop}{s : Shared}{tg : Expr}{it : Addr}{u : Value}{o : Obj}{n : String}{vs : Array Value}{Q : Unit → Shared → Prop}(ho : s.heap.get? it = some o)(hc : o.cls = .type n)(hd : o.data = .fields vs)(hn : ["enumerate", "zip", "dict_itemiterator", "dict_reverseitemiterator", "odict_iterator", "itertools.zip_longest", "itertools.pairwise"].contains n = false)(hQ : Q () s) : wpAny M A (letOwnedTupleGo tg (.ref it) u) Q E s := by
  unfold letOwnedTupleGo
  cases tg <;> first
    | exact wpAny_pure hQ
    | (cases u <;> first
        | exact wpAny_pure hQ
        | (refine wpAny_bind (wpAny_load ho ?_)
           rw [hc, hd]
           show wpAny M A (if (["enumerate", "zip", "dict_itemiterator", "dict_reverseitemiterator", "odict_iterator", "itertools.zip_longest", "itertools.pairwise"].contains n && vs[0]? == some (rawInt _)) = true then _ else _) Q E s
           rw [if_neg (by intro h; rw [hn, Bool.false_and] at h; cases h)]
           exact wpAny_pure hQ))
def Itl (K:PySem.W.Frag)(a:Addr):It:=
 ⟨fun i H=>∃xs x,SqL K H a xs∧xs[i]?=some x,fun i H x H'=>H'=H∧∀xs,SqL K H a xs→xs[i]?=some x,fun i H=>∃xs,SqL K H a xs∧xs.length≤i⟩
def Itt (K:PySem.W.Frag)(a:Addr):It:=
 ⟨fun i H=>∃xs x,SqT K H a xs∧xs[i]?=some x,fun i H x H'=>H'=H∧∀xs,SqT K H a xs→xs[i]?=some x,fun i H=>∃xs,SqT K H a xs∧xs.length≤i⟩
def Itr (lo:Int)(n:Nat):It:=⟨fun i _=>i < n,fun i H x H'=>H'=H∧x=.int (lo+i),fun i _=>n≤i⟩
theorem turn_list {P:Program}{w:World}{K:PySem.W.Frag}{tg:Expr}(a it:Addr):Turn P w K tg (Itl K a) [it] it (fun i h=>h.IsListIter it a i) where
 mem:=by simp
 obj:=fun i h st b hb=>by
  have e:b=it:=by simpa using hb
  subst e
  obtain⟨o,e,c,d⟩:=st
  exact⟨o,e,fun v z=>by rw[d] at z;cases z⟩
 keep:=fun i h h' st k=>st.at fun o e=>k it (by simp) o e
 item:=by
  intro X hP hw hK hc i pins s σ H E I hf st hg
  subst hP hw hK
  obtain⟨xs,x,hq,hx⟩:=hg
  obtain⟨its,rv,p,hz⟩:=I.list hq
  obtain⟨u,hu,ru⟩:=rv.get hx
  obtain⟨f0,f1,f2,f3,f4,f5⟩:=hf it (by simp)
  refine wpAny_pyNext_list_item st p.isList (x:=u) (by simpa using hu) fun h' st' sb=>?_
  have I1:Inv X pins σ H { s with heap:=h' }:=I.turned (t':=s.toks) (fun b o hb e=>(sb.2 b hb).trans e) f0 f1 f3 f4 f5
  obtain⟨o,e,c,d⟩:=id st'
  exact⟨u,rfl,go_of (s:={ s with heap:=h' }) e c d (by decide) ⟨x,H,I1,ru,⟨rfl,fun ys hy=>by rw[I.list_inj hy hq];exact hx⟩,st',fun b hb=>(hf b hb).1⟩⟩
 done:=by
  intro X hP hw hK hc i pins s σ H E I hf st hg
  subst hP hw hK
  obtain⟨xs,hq,hx⟩:=hg
  obtain⟨its,rv,p,hz⟩:=I.list hq
  obtain⟨f0,f1,f2,f3,f4,f5⟩:=hf it (by simp)
  have hl:=rv.length
  exact wpAny_pyNext_list_end (I.ok.hd hc) st p.isList (by simp;omega) fun h' eb=>⟨rfl,I.turned (t':=s.toks) (fun b o hb e=>eb b o hb e) f0 f1 f3 f4 f5⟩
 self:=fun _ _ _ _ _ st h=>wpAny_pyIter_listiter st h
theorem turn_tuple {P:Program}{w:World}{K:PySem.W.Frag}{tg:Expr}(a it:Addr):Turn P w K tg (Itt K a) [it] it (fun i h=>h.IsTupleIter it a i) where
 mem:=by simp
 obj:=fun i h st b hb=>by
  have e:b=it:=by simpa using hb
  subst e
  obtain⟨o,e,c,d⟩:=st
  exact⟨o,e,fun v z=>by rw[d] at z;cases z⟩
 keep:=fun i h h' st k=>st.at fun o e=>k it (by simp) o e
 item:=by
  intro X hP hw hK hc i pins s σ H E I hf st hg
  subst hP hw hK
  obtain⟨xs,x,hq,hx⟩:=hg
  obtain⟨its,rv,p,hz⟩:=I.tuple hq
  obtain⟨u,hu,ru⟩:=rv.get hx
  obtain⟨f0,f1,f2,f3,f4,f5⟩:=hf it (by simp)
  refine wpAny_pyNext_tuple_item st (show s.heap.IsTuple a its.toArray from p) (x:=u) (by simpa using hu) fun h' st' sb=>?_
  have I1:Inv X pins σ H { s with heap:=h' }:=I.turned (t':=s.toks) (fun b o hb e=>(sb.2 b hb).trans e) f0 f1 f3 f4 f5
  obtain⟨o,e,c,d⟩:=id st'
  exact⟨u,rfl,go_of (s:={ s with heap:=h' }) e c d (by decide) ⟨x,H,I1,ru,⟨rfl,fun ys hy=>by rw[I.tuple_inj hy hq];exact hx⟩,st',fun b hb=>(hf b hb).1⟩⟩
 done:=by
  intro X hP hw hK hc i pins s σ H E I hf st hg
  subst hP hw hK
  obtain⟨xs,hq,hx⟩:=hg
  obtain⟨its,rv,p,hz⟩:=I.tuple hq
  obtain⟨f0,f1,f2,f3,f4,f5⟩:=hf it (by simp)
  have hl:=rv.length
  exact wpAny_pyNext_tuple_end (I.ok.hd hc) st (show s.heap.IsTuple a its.toArray from p) (by simp;omega) fun h' eb=>⟨rfl,I.turned (t':=s.toks) (fun b o hb e=>eb b o hb e) f0 f1 f3 f4 f5⟩
 self:=fun _ _ _ _ _ st h=>wpAny_pyIter_tupleiter st h
theorem turn_range {P:Program}{w:World}{K:PySem.W.Frag}{tg:Expr}(it:Addr)(lo:Int)(n:Nat):Turn P w K tg (Itr lo n) [it] it (fun i h=>IsRangeIter h it (lo+(i:Nat)*1) ((n:Int) - (i:Nat)) 1) where
 mem:=by simp
 obj:=fun i h st b hb=>by
  have e:b=it:=by simpa using hb
  subst e
  exact⟨_,st,fun v z=>by
   have z':Data.fields _=Data.cell v:=z
   cases z'⟩
 keep:=fun i h h' st k=>k it (by simp) _ st
 item:=by
  intro X hP hw hK hc i pins s σ H E I hf st hg
  subst hP hw hK
  obtain⟨f0,f1,f2,f3,f4,f5⟩:=hf it (by simp)
  have W:=Walks.range (prog:=X.prog) (w:=X.w) (I.ok.hd hc) it lo 1 n
  refine W.item i s _ _ hg st fun v h' tk hv st' kk=>?_
  obtain⟨t,rfl⟩:=hv
  have I1:Inv X pins σ H { s with heap:=h',toks:=tk }:=I.turned (fun b o hb e=>kk b o (by simpa using hb) e) f0 f1 f3 f4 f5
  refine⟨_,rfl,go_of (s:={ s with heap:=h',toks:=tk }) (n:="range_iterator") st' rfl rfl (by decide) ⟨.int (lo+i),H,I1,⟨t,?_⟩,⟨rfl,rfl⟩,st',fun b hb=>(hf b hb).1⟩⟩
  rw[Int.mul_one]
 done:=by
  intro X hP hw hK hc i pins s σ H E I hf st hg
  subst hP hw hK
  obtain⟨f0,f1,f2,f3,f4,f5⟩:=hf it (by simp)
  exact wpAny_pyNext_range_end (I.ok.hd hc) st (by have:n≤i:=hg;omega) fun h' eb=>⟨rfl,I.turned (t':=s.toks) (fun b o hb e=>eb b o hb e) f0 f1 f3 f4 f5⟩
 self:=fun _ _ _ _ _ st h=>wpAny_pyIter_rangeiter st h
section
variable {X:Cx} {tg:Expr}
def iList (K:PySem.W.Frag)(tl:TE):TI:=fun σ H R=>tl σ H fun x H1=>∃a,x=.ref a∧(∃xs,SqL K H1 a xs)∧R (Itl K a) H1
def iTup (K:PySem.W.Frag)(tl:TE):TI:=fun σ H R=>tl σ H fun x H1=>∃a,x=.ref a∧(∃xs,SqT K H1 a xs)∧R (Itt K a) H1
theorem pi_list {l:Expr}{tl:TE}(hl:PE X l tl):PI X tg l (iList X.K tl):=by
 intro pins s σ H R I h
 refine thn (hl pins s σ H _ I h) fun v s1 ⟨x,H1,I1,r1,q1⟩=>?_
 obtain⟨a,e,⟨xs,hq⟩,q⟩:=q1
 subst e
 cases r1
 obtain⟨its,rv,p,hz⟩:=I1.list hq
 refine wpAny_pyIter_list p.isList ?_
 refine⟨s1.heap.objs.size,[s1.heap.objs.size],_,_,H1,rfl,I1.kept (t':=s1.toks) fun b o e=>Heap.get?_push_of_some _ e,turn_list a _,⟨_,Heap.get?_push_size _ rfl,rfl,rfl⟩,fun b hb=>?_,q⟩
 have e:b=s1.heap.objs.size:=by simpa using hb
 subst e
 exact I1.fpOk (Nat.le_refl _) (I1.hok.fresh (Nat.le_refl _))
theorem pi_tup {l:Expr}{tl:TE}(hl:PE X l tl):PI X tg l (iTup X.K tl):=by
 intro pins s σ H R I h
 refine thn (hl pins s σ H _ I h) fun v s1 ⟨x,H1,I1,r1,q1⟩=>?_
 obtain⟨a,e,⟨xs,hq⟩,q⟩:=q1
 subst e
 cases r1
 obtain⟨its,rv,p,hz⟩:=I1.tuple hq
 refine wpAny_pyIter_tuple (show s1.heap.IsTuple a its.toArray from p) ?_
 refine⟨s1.heap.objs.size,[s1.heap.objs.size],_,_,H1,rfl,I1.kept (t':=s1.toks) fun b o e=>Heap.get?_push_of_some _ e,turn_tuple a _,⟨_,Heap.get?_push_size _ rfl,rfl,rfl⟩,fun b hb=>?_,q⟩
 have e:b=s1.heap.objs.size:=by simpa using hb
 subst e
 exact I1.fpOk (Nat.le_refl _) (I1.hok.fresh (Nat.le_refl _))
theorem range_it {pins:List (Addr × Obj)}{σ:St}{H:Hp}{s:Shared}{R:It→Hp→Prop}{E:Value→Shared→Prop}{lo hi:Int}{t u v:Tok}{tk:Nat}(I:Inv X pins σ H s)(h1:-(2 ^ 62)≤lo)(h2:lo < 2 ^ 62)(h3:-(2 ^ 62)≤hi)(h4:hi < 2 ^ 62)(q:R (Itr lo (hi - lo).toNat) H):wpAny (model X.prog X.w) X.A (pyIter (.ref s.heap.objs.size)) (PIE X pins σ tg R) E { s with heap:=s.heap.push { cls:=.type "range",data:=.fields #[.int lo t,.int hi u,.int 1 v] },toks:=tk }:=by
 refine wpAny_pyIter_range (IsRange.new ..) (small_one h1 h2 h3 h4) ?_
 have I1:Inv X pins σ H { s with heap:=s.heap.push { cls:=.type "range",data:=.fields #[.int lo t,.int hi u,.int 1 v] },toks:=tk }:=I.kept fun b o e=>Heap.get?_push_of_some _ e
 refine⟨(s.heap.push { cls:=.type "range",data:=.fields #[.int lo t,.int hi u,.int 1 v] }).objs.size,[(s.heap.push { cls:=.type "range",data:=.fields #[.int lo t,.int hi u,.int 1 v] }).objs.size],_,_,H,rfl,
  I1.kept (t':=tk) fun b o e=>Heap.get?_push_of_some _ e,turn_range _ lo (hi - lo).toNat,?_,fun b hb=>?_,q⟩
 ·have e1:lo+((0:Nat):Int)*1=lo:=by simp
  have e2:(((hi - lo).toNat:Nat):Int) - ((0:Nat):Int)=Builtin.Range.rangeSize lo hi 1:=by rw[rangeSize_one];split<;>omega
  show IsRangeIter _ _ (lo+((0:Nat):Int)*1) ((((hi - lo).toNat:Nat):Int) - ((0:Nat):Int)) 1
  rw[e1,e2]
  exact Heap.get?_push_size _ rfl
 ·have e:b=(s.heap.push { cls:=.type "range",data:=.fields #[.int lo t,.int hi u,.int 1 v] }).objs.size:=by simpa using hb
  subst e
  exact I1.fpOk (Nat.le_refl _) (I1.hok.fresh (Nat.le_refl _))
def iRng1 (ta:TA):TI:=fun σ H R=>ta σ H fun vs H1=>∃j:Int,vs=[.int j]∧-(2 ^ 62)≤j∧j < 2 ^ 62∧R (Itr 0 j.toNat) H1
def iRng2 (ta:TA):TI:=fun σ H R=>ta σ H fun vs H1=>∃i j:Int,vs=[.int i,.int j]∧(-(2 ^ 62)≤i∧i < 2 ^ 62∧-(2 ^ 62)≤j∧j < 2 ^ 62)∧R (Itr i (j - i).toNat) H1
theorem pi_range1 {a:Expr}{ta:TA}{p pos:Pos}(hg:Gl X "range")(hm:X.mg "range"=none)(ha:PA X [a] ta)(hs:starEach [a] X.env=[(false,eval a X.env)]:=by rfl):PI X tg (.Call (.Name "range" p) [a] [] pos) (iRng1 ta):=by
 intro pins s σ H R I h
 refine Call_ (ld_blt I hg hm boot_range (PyProof.Rows.callWith_type1 (thn (ha pos pins s σ H _ I h) fun us s1 ⟨vs,H1,I1,r1,q1⟩=>?_) hs rfl))
 obtain⟨j,e,q1,q2,q⟩:=q1
 subst e
 cases r1 with
 |cons r rr=>
  cases rr
  obtain⟨t,rfl⟩:=r
  exact call_range_1 (range_it I1 (by omega) (by omega) q1 q2 (by simpa using q))
theorem pi_range2 {a b:Expr}{ta:TA}{p pos:Pos}(hg:Gl X "range")(hm:X.mg "range"=none)(ha:PA X [a,b] ta)(hs:starEach [a,b] X.env=[(false,eval a X.env),(false,eval b X.env)]:=by rfl)(hs2:starEach [b] X.env=[(false,eval b X.env)]:=by rfl) :
  PI X tg (.Call (.Name "range" p) [a,b] [] pos) (iRng2 ta):=by
 intro pins s σ H R I h
 refine Call_ (ld_blt I hg hm boot_range (PyProof.Rows.callWith_type1 (thn (ha pos pins s σ H _ I h) fun us s1 ⟨vs,H1,I1,r1,q1⟩=>?_) (by rw[hs,hs2]) (by rw[hs2];rfl)))
 obtain⟨i,j,e,⟨q1,q2,q3,q4⟩,q⟩:=q1
 subst e
 cases r1 with
 |cons r rr=>
  cases rr with
  |cons r' rr=>
   cases rr
   obtain⟨t,rfl⟩:=r
   obtain⟨t',rfl⟩:=r'
   exact call_range_2 (range_it I1 q1 q2 q3 q4 q)
def tFor (wi:TI)(g:TG)(tb:TS):TS:=fun D σ H=>wi σ H fun J H1=>∃W:Nat→Nat→St→Hp→Prop,(∃m,W 0 m σ H1)∧∀i m σ H,W i m σ H→
 (J.stop i H∧D.nx σ H)∨(J.go i H∧∃N:St→Hp→Prop,(∀σ' H',N σ' H'→∃m',m' < m∧W (i+1) m' σ' H')∧∀x H',J.yld i H x H'→g x σ H' fun σ2 H2=>tb { D with nx:=N,ct:=N,bk:=D.nx } σ2 H2)
def pinsAt (fp:List Addr)(h:Heap):List (Addr × Obj):=fp.filterMap fun b=>(h.get? b).map fun o=>(b,o)
theorem mem_pinsAt {fp:List Addr}{h:Heap}{b:Addr}{o:Obj}(hb:b∈fp)(e:h.get? b=some o):(b,o)∈pinsAt fp h:=List.mem_filterMap.mpr ⟨b,hb,by rw[e];rfl⟩
theorem of_pinsAt {fp:List Addr}{h:Heap}{p:Addr × Obj}(hp:p∈pinsAt fp h):p.1∈fp∧h.get? p.1=some p.2:=by
 obtain⟨b,hb,e⟩:=List.mem_filterMap.mp hp
 cases q:h.get? b with
 |none=>rw[q] at e;cases e
 |some o=>
  rw[q] at e
  have e':(b,o)=p:=Option.some.inj e
  subst e'
  exact⟨hb,q⟩
theorem Inv.pinned {pins:List (Addr × Obj)}{σ:St}{H:Hp}{s:Shared}{fp:List Addr}(I:Inv X pins σ H s)(hf:∀b∈fp,FpOk X pins H b)(ho:∀b∈fp,∃o,s.heap.get? b=some o∧∀v,o.data≠.cell v):Inv X (pins++pinsAt fp s.heap) σ H s:=
 I.pins_of fun p hp=>(List.mem_append.mp hp).elim (fun z=>I.pin p (List.mem_append_right _ z)) fun z=>by
  obtain⟨hb,e⟩:=of_pinsAt z
  obtain⟨f0,f1,f2,_⟩:=hf p.1 hb
  obtain⟨o,e',d⟩:=ho p.1 hb
  rw[e] at e';cases e'
  exact⟨e,f0,f1,f2,d⟩
theorem Inv.unpinned {pins pl:List (Addr × Obj)}{σ:St}{H:Hp}{s:Shared}(I:Inv X (pins++pl) σ H s):Inv X pins σ H s:=I.pins_of fun p hp=>I.pin p (List.mem_append_right _ (List.mem_append_left _ hp))
theorem ps_for {iter:Expr}{body:List Stmt}{wi:TI}{g:TG}{tb:TS}{pos:Pos}(hp:PassesOwn (model X.prog X.w) X.A X.env X.xe)(hc:X.calm=true)(hi:PI X tg iter wi)(hg:PG X tg g)(hb:PSs X body tb)(hs:∀x,foldedSetIterable iter X.env x=pure x:=by intro _;rfl):PS X (.For tg iter body [] pos) (tFor wi g tb):=by
 intro pins s σ H D I h
 refine wpAny_For (thn (hi pins s σ H _ I h) fun v s1 h1=>thn h1 fun itv s2 h2=>?_) hs
 obtain⟨it,fp,tn,J,H2,e,I2,T,st2,f2,W,⟨m0,w0⟩,turn⟩:=h2
 subst e
 have stat:∀{H':Hp},(∀b∈fp,H' b=none)→∀b∈fp,FpOk X pins H' b:=fun hn b hb=>⟨hn b hb,(f2 b hb).2⟩
 refine codeAny_forLoop_any (fun n s'=>∃i σ' H',Inv X pins σ' H' s'∧tn i s'.heap∧(∀b∈fp,H' b=none)∧W i n σ' H') ?_ m0 ⟨0,σ,H2,I2,st2,fun b hb=>(f2 b hb).1,w0⟩
 rintro n s3 ⟨i,σ3,H3,I3,st3,fr3,w3⟩
 rcases turn i n σ3 H3 w3 with ⟨stop,qn⟩ | ⟨go,N,hN,step⟩
 ·refine wpAny_passesOwn hp (thn (T.done X rfl rfl rfl hc i pins s3 σ3 H3 X.xe I3 (stat fr3) st3 stop) fun r s4 ⟨hr,I4⟩=>?_)
  subst hr
  exact wpAny_execs_nil ⟨σ3,H3,I4,qn⟩
 ·refine wpAny_passesOwn hp (thn (T.item X rfl rfl rfl hc i pins s3 σ3 H3 X.xe I3 (stat fr3) st3 go) fun r s4 ⟨u,hr,h4⟩=>?_)
  subst hr
  refine wpAny_passesOwn hp (thn h4 fun _ s5 ⟨x,H5,I5,r5,y5,st5,fr5⟩=>?_)
  have I5':=I5.pinned (stat fr5) (T.obj _ _ st5)
  refine wpAny_passesOwn hp (thn (hg _ s5 σ3 H5 x u _ I5' r5 (step x H5 y5)) fun _ s6 ⟨σ6,H6,I6,q6⟩=>?_)
  refine wpAny_passesOwn hp (thn (hb _ s6 σ6 H6 _ I6 q6) fun f s7 q7=>?_)
  have again:∀{σ7:St} {H7:Hp},Inv X (pins++pinsAt fp s5.heap) σ7 H7 s7→N σ7 H7→∃m,m < n∧∃i σ' H',Inv X pins σ' H' s7∧tn i s7.heap∧(∀b∈fp,H' b=none)∧W i m σ' H':=fun {σ7 H7} I7 n7=>by
   obtain⟨m',hm,w7⟩:=hN σ7 H7 n7
   refine⟨m',hm,i+1,σ7,H7,I7.unpinned,T.keep _ _ _ st5 fun b hb o e=>(I7.pin (b,o) (List.mem_append_right _ (List.mem_append_right _ (mem_pinsAt hb e)))).1,fun b hb=>?_,w7⟩
   obtain⟨o,e,d⟩:=T.obj _ _ st5 b hb
   exact(I7.pin (b,o) (List.mem_append_right _ (List.mem_append_right _ (mem_pinsAt hb e)))).2.1
  cases f with
  |next=>obtain⟨σ7,H7,I7,n7⟩:=q7;exact again I7 n7
  |cont=>obtain⟨σ7,H7,I7,n7⟩:=q7;exact again I7 n7
  |brk=>obtain⟨σ7,H7,I7,q7⟩:=q7;exact⟨σ7,H7,I7.unpinned,q7⟩
  |ret v=>obtain⟨x7,σ7,H7,I7,r7,q7⟩:=q7;exact⟨x7,σ7,H7,I7.unpinned,r7,q7⟩
end
theorem for_list {K:PySem.W.Frag}{a:Addr}{xs:List V}{g:TG}{tb:TS}{D:Ends}{σ:St}{H:Hp}(Pv:Nat→St→Hp→Prop)(h0:Pv 0 σ H)(hl:∀i σ H,i≤xs.length→Pv i σ H→SqL K H a xs)(hs:∀i x σ H,xs[i]?=some x→Pv i σ H→g x σ H fun σ2 H2=>tb { D with nx:=Pv (i+1),ct:=Pv (i+1),bk:=D.nx } σ2 H2)(hd:∀σ H,Pv xs.length σ H→D.nx σ H) :
  ∃W:Nat→Nat→St→Hp→Prop,(∃m,W 0 m σ H)∧∀i m σ H,W i m σ H→
   ((Itl K a).stop i H∧D.nx σ H)∨((Itl K a).go i H∧∃N:St→Hp→Prop,(∀σ' H',N σ' H'→∃m',m' < m∧W (i+1) m' σ' H')∧∀x H',(Itl K a).yld i H x H'→g x σ H' fun σ2 H2=>tb { D with nx:=N,ct:=N,bk:=D.nx } σ2 H2):=by
 refine⟨fun i m σ H=>m=xs.length - i∧i≤xs.length∧Pv i σ H,⟨xs.length,by simp,Nat.zero_le _,h0⟩,?_⟩
 rintro i m σ H ⟨rfl,hi,p⟩
 have q:=hl i σ H hi p
 by_cases hlt:i < xs.length
 ·refine .inr ⟨⟨xs,xs[i],q,by simp[hlt]⟩,Pv (i+1),fun σ' H' p'=>⟨xs.length - (i+1),by omega,rfl,hlt,p'⟩,fun x H' y=>?_⟩
  obtain⟨e,y⟩:=y
  subst e
  exact hs i x σ _ (y xs q) p
 ·have e:i=xs.length:=by omega
  subst e
  exact .inl ⟨⟨xs,q,Nat.le_refl _⟩,hd σ H p⟩
theorem for_tup {K:PySem.W.Frag}{a:Addr}{xs:List V}{g:TG}{tb:TS}{D:Ends}{σ:St}{H:Hp}(Pv:Nat→St→Hp→Prop)(h0:Pv 0 σ H)(hl:∀i σ H,i≤xs.length→Pv i σ H→SqT K H a xs)(hs:∀i x σ H,xs[i]?=some x→Pv i σ H→g x σ H fun σ2 H2=>tb { D with nx:=Pv (i+1),ct:=Pv (i+1),bk:=D.nx } σ2 H2)(hd:∀σ H,Pv xs.length σ H→D.nx σ H) :
  ∃W:Nat→Nat→St→Hp→Prop,(∃m,W 0 m σ H)∧∀i m σ H,W i m σ H→
   ((Itt K a).stop i H∧D.nx σ H)∨((Itt K a).go i H∧∃N:St→Hp→Prop,(∀σ' H',N σ' H'→∃m',m' < m∧W (i+1) m' σ' H')∧∀x H',(Itt K a).yld i H x H'→g x σ H' fun σ2 H2=>tb { D with nx:=N,ct:=N,bk:=D.nx } σ2 H2):=by
 refine⟨fun i m σ H=>m=xs.length - i∧i≤xs.length∧Pv i σ H,⟨xs.length,by simp,Nat.zero_le _,h0⟩,?_⟩
 rintro i m σ H ⟨rfl,hi,p⟩
 have q:=hl i σ H hi p
 by_cases hlt:i < xs.length
 ·refine .inr ⟨⟨xs,xs[i],q,by simp[hlt]⟩,Pv (i+1),fun σ' H' p'=>⟨xs.length - (i+1),by omega,rfl,hlt,p'⟩,fun x H' y=>?_⟩
  obtain⟨e,y⟩:=y
  subst e
  exact hs i x σ _ (y xs q) p
 ·have e:i=xs.length:=by omega
  subst e
  exact .inl ⟨⟨xs,q,Nat.le_refl _⟩,hd σ H p⟩
theorem for_range {lo:Int}{n:Nat}{g:TG}{tb:TS}{D:Ends}{σ:St}{H:Hp}(Pv:Nat→St→Hp→Prop)(h0:Pv 0 σ H)(hs:∀i σ H,i < n→Pv i σ H→g (.int (lo+i)) σ H fun σ2 H2=>tb { D with nx:=Pv (i+1),ct:=Pv (i+1),bk:=D.nx } σ2 H2)(hd:∀σ H,Pv n σ H→D.nx σ H) :
  ∃W:Nat→Nat→St→Hp→Prop,(∃m,W 0 m σ H)∧∀i m σ H,W i m σ H→
   ((Itr lo n).stop i H∧D.nx σ H)∨((Itr lo n).go i H∧∃N:St→Hp→Prop,(∀σ' H',N σ' H'→∃m',m' < m∧W (i+1) m' σ' H')∧∀x H',(Itr lo n).yld i H x H'→g x σ H' fun σ2 H2=>tb { D with nx:=N,ct:=N,bk:=D.nx } σ2 H2):=by
 refine⟨fun i m σ H=>m=n - i∧i≤n∧Pv i σ H,⟨n,by simp,Nat.zero_le _,h0⟩,?_⟩
 rintro i m σ H ⟨rfl,hi,p⟩
 by_cases hlt:i < n
 ·refine .inr ⟨hlt,Pv (i+1),fun σ' H' p'=>⟨n - (i+1),by omega,rfl,hlt,p'⟩,fun x H' y=>?_⟩
  obtain⟨e,y⟩:=y
  subst e y
  exact hs i σ _ hlt p
 ·have e:i=n:=by omega
  subst e
  exact .inl ⟨Nat.le_refl _,hd σ H p⟩
theorem while_by {c:TT}{tb:TS}{D:Ends}{σ:St}{H:Hp}(Pv:St→Hp→Prop)(μ:St→Hp→Nat)(h0:Pv σ H)(hs:∀σ H,Pv σ H→c σ H fun b H1=>if b=true then tb { D with nx:=fun σ' H'=>Pv σ' H'∧μ σ' H' < μ σ H,ct:=fun σ' H'=>Pv σ' H'∧μ σ' H' < μ σ H,bk:=D.nx } σ H1 else D.nx σ H1)(mono:∀σ H Q Q',(∀b H1,Q b H1→Q' b H1)→c σ H Q→c σ H Q'):tWhile c tb D σ H:=by
 refine⟨fun m σ H=>m=μ σ H∧Pv σ H,⟨_,rfl,h0⟩,?_⟩
 rintro m σ H ⟨rfl,p⟩
 refine mono σ H _ _ (fun b H1 q=>?_) (hs σ H p)
 cases b with
 |true=>exact⟨_,fun σ' H' ⟨p',l⟩=>⟨_,l,rfl,p'⟩,q⟩
 |false=>exact q
abbrev R2:=V→V→Hp→VK→Prop
def OpR (X:Cx)(f:Value→Value→Sem Value)(r:R2):Prop:=
 ∀(pins:List (Addr × Obj)) (s:Shared) (σ:St) (H:Hp) (x y:V) (v u:Value) (Q:VK),Inv X pins σ H s→RelV x v→RelV y u→r x y H Q→
  wpAny (model X.prog X.w) X.A (f v u) (EP X pins σ Q) X.xe s
def UnR (X:Cx)(f:Value→Sem Value)(r:V→Hp→VK→Prop):Prop:=
 ∀(pins:List (Addr × Obj)) (s:Shared) (σ:St) (H:Hp) (x:V) (v:Value) (Q:VK),Inv X pins σ H s→RelV x v→r x H Q→
  wpAny (model X.prog X.w) X.A (f v) (EP X pins σ Q) X.xe s
def CallR (X:Cx)(f:Value)(r:List V→Hp→VK→Prop):Prop:=
 ∀(pins:List (Addr × Obj)) (s:Shared) (σ:St) (H:Hp) (xs:List V) (us:List Value) (Q:VK),Inv X pins σ H s→Vals xs us→r xs H Q→
  wpAny (model X.prog X.w) X.A (call f us) (EP X pins σ Q) X.xe s
def tOp (r:R2)(ta tb:TE):TE:=fun σ H Q=>ta σ H fun x H1=>tb σ H1 fun y H2=>r x y H2 Q
def tUn (r:V→Hp→VK→Prop)(ta:TE):TE:=fun σ H Q=>ta σ H fun x H1=>r x H1 Q
def rI (C:Int→Int→Prop)(g:Int→Int→V):R2:=fun x y H Q=>∃i j,x=.int i∧y=.int j∧C i j∧Q (g i j) H
def rI0 (g:Int→Int→V):R2:=fun x y H Q=>∃i j,x=.int i∧y=.int j∧Q (g i j) H
def rU (g:Int→V):V→Hp→VK→Prop:=fun x H Q=>∃i,x=.int i∧Q (g i) H
section
variable {X:Cx} {a b c:Expr} {ta tb tc:TE} {pos:Pos}
theorem binT (ha:PE X a ta)(hb:PE X b tb){pins:List (Addr × Obj)}{s:Shared}{σ:St}{H:Hp}{R:V→V→Hp→Prop}(I:Inv X pins σ H s)(h:ta σ H fun x H1=>tb σ H1 fun y H2=>R x y H2){Q:Value→Shared→Prop}{f:Value→Value→Sem Value}(hf:∀v u s2 x y H2,Inv X pins σ H2 s2→RelV x v→RelV y u→R x y H2→wpAny (model X.prog X.w) X.A (f v u) Q X.xe s2) :
  wpAny (model X.prog X.w) X.A (eval a X.env) (fun v s₁=>wpAny (model X.prog X.w) X.A (eval b X.env) (fun u s₂=>wpAny (model X.prog X.w) X.A (f v u) Q X.xe s₂) X.xe s₁) X.xe s:=by
 refine thn (ha pins s σ H _ I h) fun v s1 ⟨x,H1,I1,r1,q1⟩=>?_
 refine thn (hb pins s1 σ H1 _ I1 q1) fun u s2 ⟨y,H2,I2,r2,q2⟩=>?_
 exact hf v u s2 x y H2 I2 r1 r2 q2
theorem pe_op {op:Operator}{r:R2}(ho:OpR X (binaryOp op) r)(ha:PE X a ta)(hb:PE X b tb):PE X (.BinOp a op b pos) (tOp r ta tb):=by
 intro pins s σ H Q I h
 exact wpAny_BinOp (binT ha hb I h fun v u s2 x y H2 I2 rx ry q=>ho pins s2 σ H2 x y v u Q I2 rx ry q)
theorem pe_un {op:UnaryOp}{r:V→Hp→VK→Prop}(ho:UnR X (unaryOp op) r)(ha:PE X a ta):PE X (.UnaryOp op a pos) (tUn r ta):=by
 intro pins s σ H Q I h
 exact UnaryOp_ (thn (ha pins s σ H _ I h) fun v s1 ⟨x,H1,I1,r1,q1⟩=>ho pins s1 σ H1 x v Q I1 r1 q1)
theorem opI {f:Value→Value→Sem Value}{C:Int→Int→Prop}{g:Int→Int→Int}(rule:∀(i j:Int) (t u:Tok) (s:Shared) (Q:Value→Shared→Prop) (E:Value→Shared→Prop),C i j→Q (.int (g i j) s.toks) { s with toks:=s.toks+1 }→wpAny (model X.prog X.w) X.A (f (.int i t) (.int j u)) Q E s) :
  OpR X f (rI C fun i j=>.int (g i j)):=by
 intro pins s σ H x y v u Q I rx ry h
 obtain⟨i,j,rfl,rfl,hc,q⟩:=h
 obtain⟨t,rfl⟩:=rx
 obtain⟨t',rfl⟩:=ry
 exact rule i j t t' s _ _ hc ⟨.int (g i j),H,I.tok _,⟨_,rfl⟩,q⟩
theorem opI0 {f:Value→Value→Sem Value}{g:Int→Int→Int}(rule:∀(i j:Int) (t u:Tok) (s:Shared) (Q:Value→Shared→Prop) (E:Value→Shared→Prop),Q (.int (g i j) s.toks) { s with toks:=s.toks+1 }→wpAny (model X.prog X.w) X.A (f (.int i t) (.int j u)) Q E s) :
  OpR X f (rI0 fun i j=>.int (g i j)):=by
 intro pins s σ H x y v u Q I rx ry h
 obtain⟨i,j,rfl,rfl,q⟩:=h
 obtain⟨t,rfl⟩:=rx
 obtain⟨t',rfl⟩:=ry
 exact rule i j t t' s _ _ ⟨.int (g i j),H,I.tok _,⟨_,rfl⟩,q⟩
theorem opB0 {f:Value→Value→Sem Value}{g:Int→Int→Bool}(rule:∀(i j:Int) (t u:Tok) (s:Shared) (Q:Value→Shared→Prop) (E:Value→Shared→Prop),Q (.bool (g i j)) s→wpAny (model X.prog X.w) X.A (f (.int i t) (.int j u)) Q E s) :
  OpR X f (rI0 fun i j=>.bl (g i j)):=by
 intro pins s σ H x y v u Q I rx ry h
 obtain⟨i,j,rfl,rfl,q⟩:=h
 obtain⟨t,rfl⟩:=rx
 obtain⟨t',rfl⟩:=ry
 exact rule i j t t' s _ _ ⟨.bl (g i j),H,I,rfl,q⟩
def CDiv (i j:Int):Prop:=0 < j∧j < 1073741824
def CMul (i j:Int):Prop:=(-(2 ^ 64) < i∧i < 2 ^ 64)∨(-(2 ^ 64) < j∧j < 2 ^ 64)
theorem CMul.ok {i j:Int}(h:CMul i j):IntMulOk i j:=by
 rcases h with ⟨h1,h2⟩ | ⟨h1,h2⟩
 ·exact .of_left (intBits_le_64 h1 h2)
 ·exact .of_right (intBits_le_64 h1 h2)
theorem op_add:OpR X (binaryOp .Add) (rI0 fun i j=>.int (i+j)):=opI0 fun _ _ _ _ _ _ _ q=>add_int q
theorem op_sub:OpR X (binaryOp .Sub) (rI0 fun i j=>.int (i - j)):=opI0 fun _ _ _ _ _ _ _ q=>sub_int q
theorem op_mul:OpR X (binaryOp .Mult) (rI CMul fun i j=>.int (i*j)):=opI fun _ _ _ _ _ _ _ hc q=>mul_int q hc.ok
theorem op_fdiv:OpR X (binaryOp .FloorDiv) (rI CDiv fun i j=>.int (i / j)):=opI fun i j _ _ _ _ _ hc q=>by
 have h1:(0:Int) < j:=hc.1
 have h2:j < 1073741824:=hc.2
 exact floordiv_int (by omega) (by rw[Int.fdiv_eq_ediv_of_nonneg i (by omega)];exact q) (.inl (PyProof.noPylong_small (by omega)))
theorem op_mod:OpR X (binaryOp .Mod) (rI (fun _ j=>0 < j) fun i j=>.int (i % j)):=opI fun i j _ _ _ _ _ hc q=>by
 have h1:(0:Int) < j:=hc
 exact mod_int' (by omega) (by rw[Int.fmod_eq_emod_of_nonneg i (by omega)];exact q)
theorem op_modN:OpR X (binaryOp .Mod) (rI (fun _ j=>j≠0) fun i j=>.int (i.fmod j)):=opI fun _ _ _ _ _ _ _ hc q=>mod_int' hc q
theorem unI {f:Value→Sem Value}{g:Int→Int}(rule:∀(i:Int) (t:Tok) (s:Shared) (Q:Value→Shared→Prop) (E:Value→Shared→Prop),Q (.int (g i) s.toks) { s with toks:=s.toks+1 }→wpAny (model X.prog X.w) X.A (f (.int i t)) Q E s) :
  UnR X f (rU fun i=>.int (g i)):=by
 intro pins s σ H x v Q I rx h
 obtain⟨i,rfl,q⟩:=h
 obtain⟨t,rfl⟩:=rx
 exact rule i t s _ _ ⟨.int (g i),H,I.tok _,⟨_,rfl⟩,q⟩
theorem un_neg:UnR X (unaryOp .USub) (rU fun i=>.int (-i)):=unI fun _ _ _ _ _ q=>neg_int q
end
def scal:V→V→Bool
 | .non,.non=>true | .non,.int _=>true | .int _,.non=>true | .non,.bl _=>true | .bl _,.non=>true | .non,.str _=>true | .str _,.non=>true
 | .int _,.int _=>true | .bl _,.bl _=>true | .str _,.str _=>true | .byt _,.byt _=>true
 | .int _,.str _=>true | .str _,.int _=>true | .bl _,.str _=>true | .str _,.bl _=>true
 |_,_=>false
def rEq:R2:=fun x y H Q=>scal x y=true∧Q (.bl (decide (x=y))) H
def rNe:R2:=fun x y H Q=>scal x y=true∧Q (.bl (!decide (x=y))) H
theorem dec_int {i j:Int}:decide (V.int i=V.int j)=(i == j):=by
 rw[Bool.eq_iff_iff]
 simp
theorem dec_bl {i j:Bool}:decide (V.bl i=V.bl j)=(i == j):=by
 rw[Bool.eq_iff_iff]
 simp
theorem dec_str {i j:Str}:decide (V.str i=V.str j)=(i == j):=by
 rw[Bool.eq_iff_iff]
 simp
theorem dec_byt {i j:Array UInt8}:decide (V.byt i=V.byt j)=(i.toList == j.toList):=by
 rw[Bool.eq_iff_iff]
 cases i
 cases j
 simp
section
variable {X:Cx} {a b c:Expr} {ta tb tc:TE} {pos:Pos}
theorem fin_bl {pins:List (Addr × Obj)}{σ:St}{H:Hp}{s:Shared}{Q:VK}{k k':Bool}(I:Inv X pins σ H s)(q:Q (.bl k) H)(e:k=k'):EP X pins σ Q (.bool k') s:=by
 subst e
 exact⟨.bl k,H,I,rfl,q⟩
theorem op_eq:OpR X (compareOp .Eq) rEq:=by
 intro pins s σ H x y v u Q I rx ry h
 obtain⟨hs,q⟩:=h
 cases x with
 |non=>
  cases rx
  cases y with
  |non=>cases ry;exact PySem.EqNone.eq_none_none (fin_bl I q (by simp))
  |bl j=>cases ry;exact PySem.EqNone.eq_none_bool (fin_bl I q (by simp))
  |int j=>obtain⟨t',rfl⟩:=ry;exact PySem.EqNone.eq_none_int (fin_bl I q (by simp))
  |str j=>obtain⟨t',rfl⟩:=ry;exact PySem.EqNone.eq_none_str (fin_bl I q (by simp))
  |_=>exact absurd (show false=true from hs) Bool.false_ne_true
 |bl i=>
  cases rx
  cases y with
  |non=>cases ry;exact PySem.EqNone.eq_bool_none (fin_bl I q (by simp))
  |bl j=>cases ry;exact eq_bool (fin_bl I q dec_bl)
  |str j=>obtain⟨t',rfl⟩:=ry;exact PySem.EqMixed.eq_bool_str (fin_bl I q (by simp))
  |_=>exact absurd (show false=true from hs) Bool.false_ne_true
 |int i=>
  obtain⟨t,rfl⟩:=rx
  cases y with
  |non=>cases ry;exact PySem.EqNone.eq_int_none (fin_bl I q (by simp))
  |int j=>obtain⟨t',rfl⟩:=ry;exact eq_int (fin_bl I q dec_int)
  |str j=>obtain⟨t',rfl⟩:=ry;exact PySem.EqMixed.eq_int_str (fin_bl I q (by simp))
  |_=>exact absurd (show false=true from hs) Bool.false_ne_true
 |str i=>
  obtain⟨t,rfl⟩:=rx
  cases y with
  |non=>cases ry;exact PySem.EqNone.eq_str_none (fin_bl I q (by simp))
  |bl j=>cases ry;exact PySem.EqMixed.eq_str_bool (fin_bl I q (by simp))
  |int j=>obtain⟨t',rfl⟩:=ry;exact PySem.EqMixed.eq_str_int (fin_bl I q (by simp))
  |str j=>obtain⟨t',rfl⟩:=ry;exact eq_str (fin_bl I q dec_str)
  |_=>exact absurd (show false=true from hs) Bool.false_ne_true
 |byt i=>
  obtain⟨t,rfl⟩:=rx
  cases y with
  |byt j=>obtain⟨t',rfl⟩:=ry;exact PySem.W.eq_bytes (fin_bl I q dec_byt)
  |_=>exact absurd (show false=true from hs) Bool.false_ne_true
 |_=>cases y<;>exact absurd (show false=true from hs) Bool.false_ne_true
theorem op_ne:OpR X (compareOp .NotEq) rNe:=by
 intro pins s σ H x y v u Q I rx ry h
 obtain⟨hs,q⟩:=h
 cases x with
 |non=>
  cases rx
  cases y with
  |non=>cases ry;exact PySem.EqNone.ne_none_none (fin_bl I q (by simp))
  |bl j=>cases ry;exact PySem.EqNone.ne_none_bool (fin_bl I q (by simp))
  |int j=>obtain⟨t',rfl⟩:=ry;exact PySem.EqNone.ne_none_int (fin_bl I q (by simp))
  |str j=>obtain⟨t',rfl⟩:=ry;exact PySem.EqNone.ne_none_str (fin_bl I q (by simp))
  |_=>exact absurd (show false=true from hs) Bool.false_ne_true
 |bl i=>
  cases rx
  cases y with
  |non=>cases ry;exact PySem.EqNone.ne_bool_none (fin_bl I q (by simp))
  |bl j=>cases ry;exact ne_bool (fin_bl I q (congrArg not dec_bl))
  |str j=>obtain⟨t',rfl⟩:=ry;exact PySem.EqMixed.ne_bool_str (fin_bl I q (by simp))
  |_=>exact absurd (show false=true from hs) Bool.false_ne_true
 |int i=>
  obtain⟨t,rfl⟩:=rx
  cases y with
  |non=>cases ry;exact PySem.EqNone.ne_int_none (fin_bl I q (by simp))
  |int j=>obtain⟨t',rfl⟩:=ry;exact ne_int (fin_bl I q (congrArg not dec_int))
  |str j=>obtain⟨t',rfl⟩:=ry;exact PySem.EqMixed.ne_int_str (fin_bl I q (by simp))
  |_=>exact absurd (show false=true from hs) Bool.false_ne_true
 |str i=>
  obtain⟨t,rfl⟩:=rx
  cases y with
  |non=>cases ry;exact PySem.EqNone.ne_str_none (fin_bl I q (by simp))
  |bl j=>cases ry;exact PySem.EqMixed.ne_str_bool (fin_bl I q (by simp))
  |int j=>obtain⟨t',rfl⟩:=ry;exact PySem.EqMixed.ne_str_int (fin_bl I q (by simp))
  |str j=>obtain⟨t',rfl⟩:=ry;exact ne_str (fin_bl I q (congrArg not dec_str))
  |_=>exact absurd (show false=true from hs) Bool.false_ne_true
 |byt i=>
  obtain⟨t,rfl⟩:=rx
  cases y with
  |byt j=>obtain⟨t',rfl⟩:=ry;exact PySem.W.ne_bytes (fin_bl I q (congrArg not dec_byt))
  |_=>exact absurd (show false=true from hs) Bool.false_ne_true
 |_=>cases y<;>exact absurd (show false=true from hs) Bool.false_ne_true
theorem op_lt:OpR X (compareOp .Lt) (rI0 fun i j=>.bl (decide (i < j))):=opB0 fun _ _ _ _ _ _ _ q=>lt_int q
theorem op_gt:OpR X (compareOp .Gt) (rI0 fun i j=>.bl (decide (j < i))):=opB0 fun _ _ _ _ _ _ _ q=>gt_int q
theorem op_ge:OpR X (compareOp .GtE) (rI0 fun i j=>.bl (decide (j≤i))):=opB0 fun _ _ _ _ _ _ _ q=>ge_int q
theorem nomark (b:Expr){op:CmpOp}(h:op≠.In:=by decide)(h2:op≠.NotIn:=by decide):behindInMarks op b=false:=by
 have e1:(op == CmpOp.In)=false:=by cases op<;>first | rfl | exact absurd rfl h
 have e2:(op == CmpOp.NotIn)=false:=by cases op<;>first | rfl | exact absurd rfl h2
 cases b<;>simp[behindInMarks,e1,e2]
theorem pe_cmpR {op:CmpOp}{r:R2}(ho:OpR X (compareOp op) r)(ha:PE X a ta)(hb:PE X b tb)(hm:behindInMarks op b=false):PE X (.Compare a [op] [b] pos) (tOp r ta tb):=by
 intro pins s σ H Q I h
 exact wpAny_Compare1 (binT ha hb I h fun v u s2 x y H2 I2 rx ry q=>ho pins s2 σ H2 x y v u Q I2 rx ry q) hm
def tTest (t:TE):TT:=fun σ H Q=>t σ H fun x H'=>∃k,x=.bl k∧Q k H'
theorem pt_cmpR {op:CmpOp}{r:R2}(ho:OpR X (compareOp op) r)(ha:PE X a ta)(hb:PE X b tb)(hm:behindInMarks op b=false):PT X (.Compare a [op] [b] pos) (tTest (tOp r ta tb)):=by
 intro pins s σ H Q I h
 refine wpAny_isTrue_Compare1 (thn (ha pins s σ H _ I h) fun v s1 ⟨x,H1,I1,r1,q1⟩=>thn (hb pins s1 σ H1 _ I1 q1) fun u s2 ⟨y,H2,I2,r2,q2⟩=>
  thn (ho pins s2 σ H2 x y v u _ I2 r1 r2 q2) fun c s3 ⟨z,H3,I3,r3,k,e,q3⟩=>?_) hm
 subst e
 cases r3
 exact wpAny_truthy_bool ⟨H3,I3,q3⟩
theorem line63:(sizeLine:Nat) < 2 ^ 63:=by rw[sizeLine_eq];decide
theorem vals1 {x:V}{us:List Value}(r:Vals [x] us):∃u,us=[u]∧RelV x u:=by
 cases r with
 |cons r1 r2=>cases r2;exact⟨_,rfl,r1⟩
theorem vals2 {x y:V}{us:List Value}(r:Vals [x,y] us):∃u w',us=[u,w']∧RelV x u∧RelV y w':=by
 cases r with
 |cons r1 r2=>
  cases r2 with
  |cons r3 r4=>cases r4;exact⟨_,_,rfl,r1,r3⟩
theorem call_abs:CallR X (.builtin "abs") (fun xs H Q=>∃i,xs=[.int i]∧Q (.int (if i < 0 then -i else i)) H):=by
 intro pins s σ H xs us Q I r h
 obtain⟨i,rfl,q⟩:=h
 obtain⟨u,rfl,t,rfl⟩:=vals1 r
 exact call_abs_int fun u tk=>⟨.int (if i < 0 then -i else i),H,I.tok _,⟨_,rfl⟩,q⟩
theorem call_int1:CallR X (.type "int") (fun xs H Q=>(∃i,xs=[.int i]∧Q (.int i) H)∨∃k,xs=[.bl k]∧Q (.int (if k then 1 else 0)) H):=by
 intro pins s σ H xs us Q I r h
 rcases h with ⟨i,rfl,q⟩ | ⟨k,rfl,q⟩
 ·obtain⟨u,rfl,t,rfl⟩:=vals1 r
  exact call_int_int ⟨.int i,H,I,⟨_,rfl⟩,q⟩
 ·obtain⟨u,rfl,r1⟩:=vals1 r
  cases r1
  exact call_int_bool ⟨.int (if k then 1 else 0),H,I.tok _,⟨_,rfl⟩,q⟩
end
structure ObjM (h:Heap) (x dx C:Addr) (mA:Str→Option Value):Prop where
 obj:h.get? x=some (PySem.W.instObj C dx)
 ns:h.Ns1 dx mA
 ne:dx≠x
theorem lookIn_ns {h:Heap}{dx:Addr}{mA:Str→Option Value}(n:h.Ns1 dx mA):∃od,h.get? dx=some od∧∀name,PySem.W.lookIn name od=some (mA name):=by
 obtain⟨o,es,ep,ho,hd,hk,_,hm⟩:=n
 refine⟨o,ho,fun name=>?_⟩
 have e:=hm name
 unfold nsFind findBy at e
 rw[← Array.find?_toList] at e
 unfold PySem.W.lookIn
 rw[hd]
 dsimp only
 split
 ·rename_i y q
  rw[q] at e
  exact congrArg some e
 ·rename_i q
  rw[q] at e
  have a:es.toList.any (·.refKey)=false:=by
   rw[List.any_eq_false]
   intro y hy
   obtain⟨z,t,hkey⟩:=hk y (Array.mem_toList_iff.mp hy)
   simp[DictEntry.refKey,hkey]
  have a':¬es.toList.any (·.refKey)=true:=by rw[a];exact Bool.false_ne_true
  rw[if_neg a']
  exact congrArg some e
theorem ObjM.look {h:Heap}{x dx C:Addr}{mA:Str→Option Value}(I:ObjM h x dx C mA):∃od,PySem.W.InstAt h x (PySem.W.instObj C dx) C (some od)∧∀name,PySem.W.lookIn name od=some (mA name):=
 let ⟨od,ho,hl⟩:=lookIn_ns I.ns
 ⟨od,⟨I.obj,rfl,rfl,ho⟩,hl⟩
section
variable {prog:Program} {w:World} {A:Around} {E:Value→Shared→Prop} {s:Shared} {K:PySem.W.Frag} {x dx C f:Addr} {mA:Str→Option Value} {name:Str} {v:Value}
theorem get_map {expr:Bool}{Q:Value→Shared→Prop}(X:K.In s.heap)(I:ObjM s.heap x dx C mA)(hg:PySem.W.plainGet K C name=true)(hh:PySem.W.hasDictIn K C=true)(ha:PySem.W.findIn K (.ref C) name=some none)(hv:mA name=some v)(hv':PySem.W.handedIn v=true)(h:Q v { s with toks:=s.toks+1 }) :
  wpAny (model prog w) A (getAttr (.ref x) name expr) Q E s:=by
 obtain⟨od,J,hl⟩:=I.look
 exact PySem.W.get_value X J (PySem.W.plainGet_of hg).1 (PySem.W.findObj_own hh ha rfl (by rw[hl,hv])) hv' h
theorem get_meth {pl:Sem Bool}{Q:Value × List Value→Shared→Prop}(X:K.In s.heap)(I:ObjM s.heap x dx C mA)(hg:PySem.W.plainGet K C name=true)(hf:PySem.W.findIn K (.ref C) name=some (some (.ref f)))(ht:PySem.W.isFn K (.ref f)=true)(hv:mA name=none)(h:Q (.ref f,[.ref x]) s) :
  wpAny (model prog w) A (getMethod (.ref x) name pl) Q E s:=by
 obtain⟨od,J,hl⟩:=I.look
 exact PySem.W.method_fn X J (PySem.W.plainGet_of hg).1 (PySem.W.plainGet_of hg).2 hf (beq_iff_eq.mp ht) (by show (PySem.W.lookIn name od).map (·.isSome)=some false;rw[hl,hv];rfl) h
theorem set_map {ns:List Str}{Q:Unit→Shared→Prop}(X:K.In s.heap)(I:ObjM s.heap x dx C mA)(hs:PySem.W.findIn K (.ref C) "__setattr__"=some (some (.builtin "object.__setattr__")))(hp:PySem.W.plainOver K C=true)(ht:PySem.W.takerIn K C name=some none)(hh:PySem.W.hasDictIn K C=true)(hw:PySem.Within mA ns)(hsz:ns.length≤sizeLine)(h:∀h',ObjM h' x dx C (fun y=>if y=name then some v else mA y)→Heap.SameBut dx s.heap h'→Q () { s with heap:=h',toks:=s.toks+2 }) :
  wpAny (model prog w) A (setAttr (.ref x) name v) Q E s:=by
 obtain⟨od,J,hl⟩:=I.look
 refine PySem.W.set_plain X J hs (PySem.W.osa_open (s:={ s with toks:=s.toks+1 }) (r:=none) X J hp ht fun b=>?_)
 obtain⟨cd,hc,hd'⟩:=PySem.W.any_some hh
 have hx:s.heap.get? x=some ⟨.ref C,some dx,.plain,#[]⟩:=I.obj
 refine wpAny_bind (wpAny_pure (wpAny_bind (wpAny_bind (wpAny_loadPart hx (wpAny_bind (PySem.W.Looks.here (s:={ s with toks:=s.toks+1 }) (PySem.W.looks_clsIn X hc) ?_))))))
 rw[hd']
 refine wpAny_pure (a:=some dx) (wpAny_bind (wpAny_pure (wpAny_bind ?_)))
 refine wpAny_nsSet1 (s:={ s with toks:=s.toks+1 }) I.ns fun h' hn2 hs2=>?_
 obtain⟨oD,esD,epD,hoD,hdD,hcD⟩:=hn2.count (PySem.Within.cons name v hw)
 refine wpAny_bind (wpAny_lookBehind hoD (by rw[hdD];exact pastItsLine_dict (Nat.le_trans hcD (by rw[List.length_cons];omega))) ?_)
 exact wpAny_pure (h _ ⟨(hs2.2 _ (Ne.symm I.ne)).trans I.obj,hn2,I.ne⟩ hs2)
theorem make_map {R:Result→Shared→Prop}{vs:List Value}{kw:List (Str × Value)}(X:K.In s.heap)(hm:PySem.W.makesIn K C=true)(hi:PySem.W.findIn K (.ref C) "__init__"=some (some (.ref f)))(hf:PySem.W.typeIn K (.ref f)=some (.type "function"))(h:codeAny (model prog w) (A.under (.builtin "type.__call__" ⟨.ref C :: vs,kw⟩)) (.call (.ref f) ⟨.ref (s.heap.objs.size+1) :: vs,kw⟩) (PySem.W.InitBack (s.heap.objs.size+1) R)
   { s with heap:=(s.heap.push PySem.W.emptyDict).push (PySem.W.instObj C s.heap.objs.size) }) :
  codeAny (model prog w) A (.call (.ref C) ⟨vs,kw⟩) R s:=by
 obtain⟨hh,g,d,t,os⟩:=s
 exact PySem.W.make_core (PySem.W.makes_of X hm) (PySem.W.looks_findIn X hi) (fun self=>PySem.W.bind_fn X self hf) (.inl rfl) h
end
def putF (f:Str)(v:V):List (Str × V)→List (Str × V)
 | []=>[(f,v)]
 | (g,x) :: r=>if g=f then (g,v) :: r else (g,x) :: putF f v r
theorem lookup_putF (f g:Str)(v:V):∀fs:List (Str × V),(putF f v fs).lookup g=if g=f then some v else fs.lookup g
 | []=>by
  show List.lookup g [(f,v)]=_
  by_cases h:g=f
  ·have hb:(g == f)=true:=beq_iff_eq.mpr h
   simp only[List.lookup,hb,if_pos h]
  ·have hb:(g == f)=false:=beq_eq_false_iff_ne.mpr h
   simp only[List.lookup,hb,if_neg h]
 | (k,x) :: r=>by
  have ih:=lookup_putF f g v r
  rw[show putF f v ((k,x) :: r)=(if k=f then (k,v) :: r else (k,x) :: putF f v r) from rfl]
  by_cases hk:k=f
  ·rw[if_pos hk]
   by_cases h:g=k
   ·have hb:(g == k)=true:=beq_iff_eq.mpr h
    simp only[List.lookup,hb,if_pos (h.trans hk)]
   ·have hb:(g == k)=false:=beq_eq_false_iff_ne.mpr h
    simp only[List.lookup,hb,if_neg (fun e:g=f=>h (e.trans hk.symm))]
  ·rw[if_neg hk]
   by_cases h:g=k
   ·have hb:(g == k)=true:=beq_iff_eq.mpr h
    simp only[List.lookup,hb,if_neg (fun e:g=f=>hk (h.symm.trans e))]
   ·have hb:(g == k)=false:=beq_eq_false_iff_ne.mpr h
    simp only[List.lookup,hb]
    exact ih
theorem keys_putF (f:Str)(v:V):∀fs:List (Str × V),f∈(putF f v fs).map (·.1)∧∀g,g∈fs.map (·.1)→g∈(putF f v fs).map (·.1)
 | []=>⟨by simp[putF],fun g h=>by simp at h⟩
 | (k,x) :: r=>by
  obtain⟨i1,i2⟩:=keys_putF f v r
  rw[show putF f v ((k,x) :: r)=(if k=f then (k,v) :: r else (k,x) :: putF f v r) from rfl]
  by_cases hk:k=f
  ·rw[if_pos hk]
   subst hk
   exact⟨by simp,fun g h=>by simpa using h⟩
  ·rw[if_neg hk]
   refine⟨?_,fun g h=>?_⟩
   ·rw[List.map_cons]
    exact List.mem_cons_of_mem _ i1
   ·rw[List.map_cons] at h ⊢
    rcases List.mem_cons.mp h with e | e
    ·exact List.mem_cons.mpr (.inl e)
    ·exact List.mem_cons_of_mem _ (i2 g e)
theorem length_putF (f:Str)(v:V):∀fs:List (Str × V),(putF f v fs).length≤fs.length+1
 | []=>by simp[putF]
 | (k,x) :: r=>by
  have ih:=length_putF f v r
  rw[show putF f v ((k,x) :: r)=(if k=f then (k,v) :: r else (k,x) :: putF f v r) from rfl]
  by_cases hk:k=f
  ·rw[if_pos hk,List.length_cons,List.length_cons];omega
  ·rw[if_neg hk,List.length_cons,List.length_cons];omega
theorem RelO.some_of {v:V}{o:Option Value}(r:RelO (some v) o):∃u,o=some u∧RelV v u:=by
 cases o with
 |none=>exact(show False from r).elim
 |some u=>exact⟨u,rfl,r⟩
theorem RelO.none_of {o:Option Value}(r:RelO none o):o=none:=by
 cases o with
 |none=>rfl
 |some u=>exact(show False from r).elim
theorem handed_of {v:V}{u:Value}(r:RelV v u):PySem.W.handedIn u=true:=by
 cases v with
 |non=>cases (show u=Value.none from r);rfl
 |bl b=>cases (show u=Value.bool b from r);rfl
 |int i=>obtain⟨t,e⟩:=(show ∃t,u=Value.int i t from r);cases e;rfl
 |str x=>obtain⟨t,e⟩:=(show ∃t,u=Value.str x t from r);cases e;rfl
 |byt b=>obtain⟨t,e⟩:=(show ∃t,u=Value.bytes b t from r);cases e;rfl
 |flt b=>obtain⟨t,e⟩:=(show ∃t,u=Value.float b t from r);cases e;rfl
 |ref a=>cases (show u=Value.ref a from r);rfl
 |ty n=>cases (show u=Value.type n from r);rfl
section
variable {P:Program} {w:World} {H H':Hp} {h h':Heap} {a C dx:Addr} {fs fs':List (Str × V)}
theorem ins_get (hok:HOk P w H h)(e:H a=some (.ins C dx fs)):∃mA,ObjM h a dx C mA∧(∀f,RelO (fs.lookup f) (mA f))∧PySem.Within mA (fs.map (·.1))∧fs.length≤1000∧H dx=some (.own a):=by
 obtain⟨d,z,ne,ob,mA,n,r,q⟩:=(show ObjOk P w H h a (.ins C dx fs) from hok a _ e)
 exact⟨mA,⟨ob,n,ne⟩,r,q,z,d⟩
end
structure Cls (K:PySem.W.Frag) (C:Addr):Prop where
 pg:PySem.W.plainGet K C Str.empty=true
 hd:PySem.W.hasDictIn K C=true
 po:PySem.W.plainOver K C=true
 sa:PySem.W.findIn K (.ref C) "__setattr__"=some (some (.builtin "object.__setattr__"))
theorem Cls.get {K:PySem.W.Frag}{C:Addr}(c:Cls K C)(f:Str):PySem.W.plainGet K C f=true:=c.pg
def NoAttr (K:PySem.W.Frag)(C:Addr)(f:Str):Prop:=PySem.W.findIn K (.ref C) f=some none
theorem NoAttr.taker {K:PySem.W.Frag}{C:Addr}{f:Str}(n:NoAttr K C f):PySem.W.takerIn K C f=some none:=by
 unfold PySem.W.takerIn
 rw[show PySem.W.findIn K (.ref C) f=some none from n]
 rfl
structure Meth (K:PySem.W.Frag) (C:Addr) (m:Str) (f:Addr):Prop where
 at_:PySem.W.findIn K (.ref C) m=some (some (.ref f))
 fn:PySem.W.isFn K (.ref f)=true
 kp:PySem.W.keepIn K (.ref f)=true
section
variable {X:Cx} {pins:List (Addr × Obj)} {σ:St} {H:Hp} {s:Shared} {a C dx:Addr} {fs:List (Str × V)} {f:Str} {v:V} {A:Around} {E:Value→Shared→Prop}
theorem getattr_ok {b:Bool}{Q:Value→Shared→Prop}(I:Inv X pins σ H s)(e:H a=some (.ins C dx fs))(c:Cls X.K C)(n:NoAttr X.K C f)(l:fs.lookup f=some v)(h:∀u s',Inv X pins σ H s'→RelV v u→Q u s'):wpAny (model X.prog X.w) A (getAttr (.ref a) f b) Q E s:=by
 obtain⟨mA,O,r,_,_,_⟩:=ins_get I.hok e
 obtain⟨u,hu,ru⟩:=RelO.some_of (v:=v) (o:=mA f) (by rw[← l];exact r f)
 exact get_map I.kIn O (c.get f) c.hd n hu (handed_of ru) (h u _ (I.tok _) ru)
theorem getmeth_ok {m:Str}{g:Addr}{pl:Sem Bool}{Q:Value × List Value→Shared→Prop}(I:Inv X pins σ H s)(e:H a=some (.ins C dx fs))(c:Cls X.K C)(k:Meth X.K C m g)(l:fs.lookup m=none)(h:Q (.ref g,[.ref a]) s):wpAny (model X.prog X.w) A (getMethod (.ref a) m pl) Q E s:=by
 obtain⟨mA,O,r,_,_,_⟩:=ins_get I.hok e
 have hn:mA m=none:=RelO.none_of (by rw[← l];exact r m)
 exact get_meth I.kIn O (c.get m) k.at_ k.fn hn h
theorem setattr_ok {y:V}{u:Value}{Q:Unit→Shared→Prop}(I:Inv X pins σ H s)(e:H a=some (.ins C dx fs))(c:Cls X.K C)(n:NoAttr X.K C f)(hl:fs.length < 1000)(ry:RelV y u)(h:∀s',Inv X pins σ (upd H a (.ins C dx (putF f y fs))) s'→Q () s'):wpAny (model X.prog X.w) A (setAttr (.ref a) f u) Q E s:=by
 obtain⟨mA,O,r,wi,_,ho⟩:=ins_get I.hok e
 have hz:(fs.map (·.1)).length≤sizeLine:=by rw[List.length_map,sizeLine_eq];omega
 refine set_map I.kIn O c.sa c.po n.taker c.hd wi hz fun h' O' sb=>h _ ?_
 have hd:∃o,h'.get? dx=some o:=let ⟨o,_,_,e',_⟩:=O'.ns;⟨o,e'⟩
 refine I.write (x:=a) (e:=dx) (by rw[e];exact True.intro) (.inr ho) (fun b q hb z=>(sb.2 b hb).trans z) hd ?_
 refine⟨by rw[upd_ne O.ne];exact ho,?_,O.ne,O'.obj,_,O'.ns,fun g=>?_,fun g hg=>?_⟩
 ·have:=length_putF f y fs;omega
 ·show RelO ((putF f y fs).lookup g) (if g=f then some u else mA g)
  rw[lookup_putF]
  by_cases q:g=f
  ·rw[if_pos q,if_pos q];exact ry
  ·rw[if_neg q,if_neg q];exact r g
 ·by_cases q:g=f
  ·rw[q];exact(keys_putF f y fs).1
  ·refine(keys_putF f y fs).2 g (wi g fun z=>hg ?_)
   show (if g=f then some u else mA g)=none
   rw[if_neg q];exact z
theorem Inv.made (I:Inv X pins σ H s):Inv X pins σ (upd (upd H s.heap.objs.size (.own (s.heap.objs.size+1))) (s.heap.objs.size+1) (.ins C s.heap.objs.size []))
  { s with heap:=(s.heap.push PySem.W.emptyDict).push (PySem.W.instObj C s.heap.objs.size) }:=by
 have e1:(s.heap.push PySem.W.emptyDict).get? s.heap.objs.size=some PySem.W.emptyDict:=Heap.get?_push_size s.heap rfl
 have e2:((s.heap.push PySem.W.emptyDict).push (PySem.W.instObj C s.heap.objs.size)).get? (s.heap.objs.size+1)=some (PySem.W.instObj C s.heap.objs.size):=by
  have:=Heap.get?_push_size (s.heap.push PySem.W.emptyDict) (o:=PySem.W.instObj C s.heap.objs.size) rfl
  rwa [Heap.size_push] at this
 have e3:(s.heap.push PySem.W.emptyDict).Ns s.heap.objs.size (fun _=>none):=⟨PySem.W.emptyDict,#[],_,e1,rfl,(fun e he=>absurd he (by simp)),fun _=>rfl⟩
 have I1:=I.laid (a:=s.heap.objs.size) (o:=.own (s.heap.objs.size+1)) (h':=s.heap.push PySem.W.emptyDict) (t':=s.toks) (fun b u q=>Heap.get?_push_of_some _ q) (Nat.le_refl _) ⟨_,e1⟩
 refine I1.laid (a:=s.heap.objs.size+1) (o:=.ins C s.heap.objs.size []) (t':=s.toks) (fun b u q=>Heap.get?_push_of_some _ q) (Nat.le_of_eq (Heap.size_push _ _)) ?_
 have ne:s.heap.objs.size≠s.heap.objs.size+1:=Nat.ne_of_lt (Nat.lt_succ_self _)
 refine⟨by rw[upd_ne ne,upd_same],Nat.zero_le _,ne,e2,fun _=>none,(Heap.Ns1.of_empty e3).at fun o q=>Heap.get?_push_of_some _ q,fun _=>True.intro,fun y hy=>absurd rfl hy⟩
theorem attr_of {prog:Program}{w:World}{env:Env}{e:Expr}{f:Str}{pos:Pos}{s:Shared}{Q:Value→Shared→Prop}(hb:attributeBase e f env (eval e env)=eval e env)(h:wpAny (model prog w) A (eval e env) (fun o s₁=>wpAny (model prog w) A (getAttr o f true) Q E s₁) E s):wpAny (model prog w) A (eval (.Attribute e f pos) env) Q E s:=
 Attribute_any_ h (by rw[arm_eval_Attribute,hb])
end
def tFld (K:PySem.W.Frag)(ta:TE)(f:Str):TE:=fun σ H Q=>ta σ H fun x H1=>∃a C dx fs v,x=.ref a∧H1 a=some (.ins C dx fs)∧Cls K C∧NoAttr K C f∧fs.lookup f=some v∧Q v H1
def sFld (K:PySem.W.Frag)(ta tv:TE)(f:Str):TS:=fun D σ H=>tv σ H fun y H1=>ta σ H1 fun x H2=>∃a C dx fs,x=.ref a∧H2 a=some (.ins C dx fs)∧Cls K C∧NoAttr K C f∧fs.length < 1000∧
 D.nx σ (upd H2 a (.ins C dx (putF f y fs)))
section
variable {X:Cx} {o e value:Expr} {f:Str} {pos pos' tpos:Pos} {ta tv:TE}
theorem pe_fld (he:PE X e ta)(hb:attributeBase e f X.env (eval e X.env)=eval e X.env):PE X (.Attribute e f pos) (tFld X.K ta f):=by
 intro pins s σ H Q I h
 refine attr_of hb (thn (he pins s σ H _ I h) fun u s1 ⟨x,H1,I1,rx,a,C,dx,fs,v,ex,ea,c,n,l,q⟩=>?_)
 subst ex
 obtain rfl:u=Value.ref a:=rx
 exact getattr_ok I1 ea c n l fun u' s2 I2 ru=>⟨v,H1,I2,ru,q⟩
theorem ps_fld (ha:PE X o ta)(hv:PE X value tv)(hs:swapsWith value (some (.Attribute o f pos')) pos.line X.env=pure false):PS X (.Assign [.Attribute o f pos'] value pos) (sFld X.K ta tv f):=by
 intro pins s σ H D I h
 refine plainObj_wpAny_Assign_Attribute (thn (hv pins s σ H _ I h) fun u s1 ⟨y,H1,I1,ry,q⟩=>thn (ha pins s1 σ H1 _ I1 q) fun ov s2 ⟨x,H2,I2,rx,a,C,dx,fs,ex,ea,c,n,l,q2⟩=>?_) hs
 subst ex
 obtain rfl:ov=Value.ref a:=rx
 exact setattr_ok I2 ea c n l ry fun s3 I3=>⟨σ,_,I3,q2⟩
end
section
variable {X:Cx} {pins:List (Addr × Obj)} {σ:St} {H:Hp} {s:Shared} {A:Around} {E:Value→Shared→Prop} {Q:Value→Shared→Prop} {c:Value} {b:Bool}
inductive TyOf (K:PySem.W.Frag) (H:Hp):V→Value→Prop where
 |non:TyOf K H .non (.type "NoneType")
 |bl (x:Bool):TyOf K H (.bl x) (.type "bool")
 |int (i:Int):TyOf K H (.int i) (.type "int")
 |str (x:Str):TyOf K H (.str x) (.type "str")
 |flt (x:UInt64):TyOf K H (.flt x) (.type "float")
 |lst {a:Addr} {xs:List V} (e:H a=some (.lst xs)):TyOf K H (.ref a) (.type "list")
 |frz {a:Addr} {o:Obj} {xs:List V} (e:H a=some (.frz o (.lst xs))):TyOf K H (.ref a) (.type "list")
 |tup {a:Addr} {xs:List V} (e:H a=some (.tup xs)):TyOf K H (.ref a) (.type "tuple")
 |dK {a:Addr} {kvs:List (Key × V)} (e:H a=some (.dK kvs)):TyOf K H (.ref a) (.type "dict")
 |dT {a:Addr} {kvs:List (List Key × V)} (e:H a=some (.dT kvs)):TyOf K H (.ref a) (.type "dict")
 |ins {a C dx:Addr} {fs:List (Str × V)} (e:H a=some (.ins C dx fs)) (cl:Cls K C) (ha:PySem.W.findIn K (.ref C) "__class__"=some (some (.builtin "object.__class__")))
   (hn:PySem.W.specialIn K (.builtin "object.__class__") "__get__"=some (some (.builtin "getset_descriptor.__get__"))) (htk:PySem.W.takesIn K (.builtin "object.__class__")=some true)
   (hm:PySem.W.mroIn K C (.type "object")=some true):TyOf K H (.ref a) (.ref C)
theorem isinst_ok {x:V}{u t:Value}(I:Inv X pins σ H s)(rx:RelV x u)(ty:TyOf X.K H x t)(e:PySem.W.kitOne X.K t c=some b)(h:∀tk,Q (.bool b) { s with toks:=tk }) :
  wpAny (model X.prog X.w) A (call (.builtin "isinstance") [u,c]) Q E s:=by
 cases ty with
 |non=>cases (show u=Value.none from rx);exact PySem.W.kia_one PySem.W.kitx_none I.kIn True.intro e (fun z=>nomatch z) h
 |bl y=>cases (show u=Value.bool y from rx);exact PySem.W.kia_one PySem.W.kitx_bool I.kIn True.intro e (fun z=>nomatch z) h
 |int i=>obtain⟨t,q⟩:=(show ∃t,u=Value.int i t from rx);cases q;exact PySem.W.kia_one PySem.W.kitx_int I.kIn True.intro e (fun z=>nomatch z) h
 |str y=>obtain⟨t,q⟩:=(show ∃t,u=Value.str y t from rx);cases q;exact PySem.W.kia_one PySem.W.kitx_str I.kIn True.intro e (fun z=>nomatch z) h
 |flt y=>obtain⟨t,q⟩:=(show ∃t,u=Value.float y t from rx);cases q;exact PySem.W.kia_one PySem.W.kitx_float I.kIn True.intro e (fun z=>nomatch z) h
 | @lst a xs ea=>
  cases (show u=Value.ref a from rx)
  obtain⟨_,_,n,_,h1⟩:=(show ObjOk X.prog X.w H s.heap a (.lst xs) from I.hok a _ ea)
  exact PySem.W.kia_one PySem.W.kitx_list I.kIn ⟨_,h1,rfl⟩ e (fun z=>nomatch z) h
 | @frz a ob xs ea=>
  cases (show u=Value.ref a from rx)
  obtain⟨_,_,_,n,_,h1⟩:=(show ObjOk X.prog X.w H s.heap a (.frz ob (.lst xs)) from I.hok a _ ea)
  exact PySem.W.kia_one PySem.W.kitx_list I.kIn ⟨_,h1,rfl⟩ e (fun z=>nomatch z) h
 | @tup a xs ea=>
  cases (show u=Value.ref a from rx)
  obtain⟨_,_,_,p⟩:=(show ObjOk X.prog X.w H s.heap a (.tup xs) from I.hok a _ ea)
  obtain⟨o,h1,h2,_⟩:=p
  exact PySem.W.kia_one PySem.W.kitx_tuple I.kIn ⟨o,h1,h2⟩ e (fun z=>nomatch z) h
 | @dK a kvs ea=>
  cases (show u=Value.ref a from rx)
  obtain⟨_,_,vs,_,p⟩:=(show ObjOk X.prog X.w H s.heap a (.dK kvs) from I.hok a _ ea)
  obtain⟨o,es,ep,h1,h2,_⟩:=p
  exact PySem.W.kia_one PySem.W.kitx_dict I.kIn ⟨o,h1,h2.1⟩ e (fun z=>nomatch z) h
 | @dT a kvs ea=>
  cases (show u=Value.ref a from rx)
  obtain⟨_,_,xs,_,o,es,ep,h1,h2,_⟩:=(show ObjOk X.prog X.w H s.heap a (.dT kvs) from I.hok a _ ea)
  exact PySem.W.kia_one PySem.W.kitx_dict I.kIn ⟨o,h1,h2.1⟩ e (fun z=>nomatch z) h
 | @ins a C dx fs ea cl ha hn htk hm=>
  cases (show u=Value.ref a from rx)
  obtain⟨mA,O,_⟩:=ins_get I.hok ea
  obtain⟨od,J,_⟩:=O.look
  exact PySem.W.kia_one (PySem.W.kitx_own (cl.get _) cl.hd ha hn htk hm) I.kIn J e (fun z=>nomatch z) h
end
structure Room (k:Nat) (A:Around):Prop where
 hd:A.handled=none
 dp:A.depth+3*k+5 < recursionLimit
 un:A.units+16*k+200 < cLine
theorem Room.mono {j k:Nat}{A:Around}(r:Room k A)(h:j≤k):Room j A:=⟨r.hd,by have:=r.dp;omega,by have:=r.un;omega⟩
theorem Room.deeper {k:Nat}{A:Around}(r:Room (k+1) A)(env:Env):Room k (A.deeper env):=
 ⟨r.hd,by have:=r.dp;show A.depth+1+3*k+5 < _;omega,by have:=r.un;show A.units+3+16*k+200 < _;omega⟩
theorem make_depth {A:Around}{C:Addr}{us:List Value}{kw:List (Str × Value)}:(A.under (.builtin "type.__call__" ⟨.ref C :: us,kw⟩)).depth=A.depth+1:=by
 first | rfl | simp[Around.under,Code.weight,Code.isCreation,Code.isGuard,Code.isCaller,Code.frames,Code.isFrame,guardIds]
theorem make_units {A:Around}{C:Addr}{us:List Value}{kw:List (Str × Value)}:(A.under (.builtin "type.__call__" ⟨.ref C :: us,kw⟩)).units=A.units+1:=by
 first | rfl | simp[Around.under,Code.cUnits,Code.frames,Code.isFrame]
theorem Room.make {k:Nat}{A:Around}(r:Room (k+1) A)(C:Addr)(us:List Value)(kw:List (Str × Value)):Room k (A.under (.builtin "type.__call__" ⟨.ref C :: us,kw⟩)):=
 ⟨r.hd,by have:=r.dp;rw[make_depth];omega,by have:=r.un;rw[make_units];omega⟩
theorem Room.depth {k:Nat}{A:Around}(r:Room k A):A.depth < recursionLimit:=by have:=r.dp;omega
theorem Room.units {k:Nat}{A:Around}(r:Room k A):A.units+64 < cLine:=by have:=r.un;omega
def tNil:TA:=fun _ H Q=>Q [] H
def tCons (ta:TE)(tr:TA):TA:=fun σ H Q=>ta σ H fun x H1=>tr σ H1 fun xs H2=>Q (x :: xs) H2
section
variable {X:Cx} {e:Expr} {es:List Expr} {te:TE} {t:TA} {pos:Pos}
theorem pa_nil:PA X [] tNil:=fun _ _ _ _ H Q I h=>Calls.spliced_nil ⟨[],H,I,.nil,h⟩
theorem pa_cons (ha:PE X e te)(hr:PA X es t)(hs:starEach (e :: es) X.env=(false,eval e X.env) :: starEach es X.env:=by rfl):PA X (e :: es) (tCons te t):=by
 intro pos pins s σ H Q I h
 rw[hs]
 show wpAny _ _ (spliced ((false,eval e X.env) :: backTo pos (starEach es X.env))) _ _ s
 refine Calls.spliced_cons (thn (ha pins s σ H _ I h) fun u s1 ⟨x,H1,I1,r1,q1⟩=>?_)
 exact thn (hr pos pins s1 σ H1 _ I1 q1) fun us s2 ⟨xs,H2,I2,r2,q2⟩=>⟨x :: xs,H2,I2,.cons r1 r2,q2⟩
def tTup (t:TA):TE:=fun σ H Q=>t σ H fun xs H1=>xs.length≤sizeLine∧∀p,H1 p=none→Q (.ref p) (upd H1 p (.tup xs))
def tLst (t:TA):TE:=fun σ H Q=>t σ H fun xs H1=>xs.length≤sizeLine∧∀p,H1 p=none→Q (.ref p) (upd H1 p (.lst xs))
theorem pe_tup {x1}(h:PA X es t):PE X (.Tuple es x1 pos) (tTup t):=by
 intro pins s σ H Q I hq
 refine wpAny_Tuple_spliced (thn (h pos pins s σ H _ I hq) fun us s1 ⟨xs,H1,I1,r,z,q⟩=>⟨by rw[← r.length];exact z,?_⟩)
 have hf:H1 s1.heap.objs.size=none:=I1.hok.fresh (Nat.le_refl _)
 refine⟨.ref s1.heap.objs.size,upd H1 s1.heap.objs.size (.tup xs),I1.laid (t':=s1.toks) (fun b u e=>Heap.get?_push_of_some _ e) (Nat.le_refl _) ?_,rfl,q _ hf⟩
 exact⟨z,us,r,⟨_,Heap.get?_push_size _ rfl,rfl,_,rfl⟩⟩
theorem pe_lst (h:PA X es t):PE X (.List es pos) (tLst t):=by
 intro pins s σ H Q I hq
 refine wpAny_List_spliced (thn (h pos pins s σ H _ I hq) fun us s1 ⟨xs,H1,I1,r,z,q⟩=>⟨by rw[← r.length];exact z,?_⟩)
 have hf:H1 s1.heap.objs.size=none:=I1.hok.fresh (Nat.le_refl _)
 refine⟨.ref s1.heap.objs.size,upd H1 s1.heap.objs.size (.lst xs),I1.laid (t':=s1.toks) (fun b u e=>Heap.get?_push_of_some _ e) (Nat.le_refl _) ?_,rfl,q _ hf⟩
 exact⟨z,us,0,r,Heap.get?_push_size _ rfl⟩
end
abbrev Sp:=List V→Hp→VK→XK→Prop
abbrev CXT:=List Env→Hp→Shared→XK→Value→Shared→Prop
structure Env0 (P:Program) (w:World) (K:PySem.W.Frag) (mg:Str→Option Value) (base:Heap) (A:Around) (outer:List Env) (s:Shared) (H:Hp):Prop where
 frames:A.frames=some outer
 mod:Mod K mg base
 bs:∀b o,base.get? b=some o→s.heap.get? b=some o∧H b=none
 bsz:base.objs.size≤s.heap.objs.size
 funs:s.heap.FunFrames base outer
 frf:∀b∈frs outer,H b=none
 hok:HOk P w H s.heap
 bare:AllBare s.gens
def CE (outer:List Env)(P:Program)(w:World)(H:Hp)(s:Shared)(Q:VK)(u:Value)(s':Shared):Prop:=
 ∃v H',s'.os=s.os∧AllBare s'.gens∧Un (frs outer) [] H H' s.heap s'.heap∧HOk P w H' s'.heap∧RelV v u∧Q v H'
def CR (CX:CXT)(outer:List Env)(P:Program)(w:World)(H:Hp)(s:Shared)(Q:VK)(E:XK)(r:Result)(s':Shared):Prop:=
 match r with
 | .ok (.ret u)=>CE outer P w H s Q u s'
 | .ok _=>False
 | .error e=>CX outer H s E e s'
structure FnOk (P:Program) (w:World) (K:PySem.W.Frag) (mg:Str→Option Value) (base:Heap) (CX:CXT) (k:Nat) (f:Addr) (fd:FuncData) (ps:List Str) (sp:Sp):Prop where
 len:∀vs H Q E,sp vs H Q E→vs.length=ps.length
 run:∀(A:Around) (outer:List Env) (s:Shared) (H:Hp) (args:Args) (us:List Value) (vs:List V) (Q:VK) (E:XK),Room k A→Env0 P w K mg base A outer s H→BindsTo s fd args (ps.zip us)→Vals vs us→sp vs H Q E→
  codeAny (model P w) A (.call (.ref f) args) (CR CX outer P w H s Q E) s
theorem Env0.make {P:Program}{w:World}{K:PySem.W.Frag}{mg:Str→Option Value}{base:Heap}{A:Around}{outer:List Env}{s:Shared}{H:Hp}(e:Env0 P w K mg base A outer s H)(C:Addr)(us:List Value)(kw:List (Str × Value)) :
  Env0 P w K mg base (A.under (.builtin "type.__call__" ⟨.ref C :: us,kw⟩)) outer s H:=⟨by first | exact e.frames | (simpa[Around.under,Code.envs,Code.isFrame,pushEnvs] using e.frames),e.mod,e.bs,e.bsz,e.funs,e.frf,e.hok,e.bare⟩
section
variable {X:Cx} {pins:List (Addr × Obj)} {σ:St} {H:Hp} {s s':Shared}
theorem Inv.env0 (I:Inv X pins σ H s):Env0 X.prog X.w X.K X.mg X.base X.A X.stack s H:=
 ⟨I.ok.frames,I.ok.mod,I.bs,Nat.le_trans I.ok.bsz I.sz,I.stack,I.stkFree,I.hok,I.bare⟩
theorem Inv.after {Q:VK}{u:Value}(I:Inv X pins σ H s)(h:CE X.stack X.prog X.w H s Q u s'):EP X pins σ Q u s':=by
 obtain⟨v,H',os,bare,un,hok,r,q⟩:=h
 obtain⟨hh,g,d,t,os'⟩:=s'
 obtain rfl:os'=s.os:=os
 exact⟨v,H',I.call (h':=hh) (g':=g) (d':=d) (t':=t) (ch:=[]) un hok bare (fun b z=>absurd z (by simp)),r,q⟩
end
def tCall (sp:Sp)(dvs:List V)(E:XK)(t:TA):TE:=fun σ H Q=>t σ H fun vs H1=>sp (vs++dvs) H1 Q E
def tMeth (C:Addr)(m:Str)(sp:Sp)(dvs:List V)(E:XK)(ta:TE)(t:TA):TE:=fun σ H Q=>ta σ H fun x H1=>∃a dx fs,x=.ref a∧H1 a=some (.ins C dx fs)∧fs.lookup m=none∧
 t σ H1 fun vs H2=>sp (x :: (vs++dvs)) H2 Q E
def tMake (C:Addr)(sp:Sp)(dvs:List V)(E:XK)(t:TA):TE:=fun σ H Q=>t σ H fun vs H1=>∀x dx,H1 x=none→H1 dx=none→dx≠x→
 sp (.ref x :: (vs++dvs)) (upd (upd H1 dx (.own x)) x (.ins C dx [])) (fun v H2=>v=.non∧Q (.ref x) H2) E
def Binds (K:PySem.W.Frag)(fd:FuncData)(ps:List Str)(ds:List Value):Prop:=
 ∀(s:Shared) (us:List Value),K.In s.heap→(us++ds).length=ps.length→BindsTo s fd ⟨us,[]⟩ (ps.zip (us++ds))
theorem Binds.all {K:PySem.W.Frag}{fd:FuncData}{ps:List Str}(h:∀us:List Value,us.length=ps.length→bindArgs fd ⟨us,[]⟩=pure (ps.zip us)):Binds K fd ps []:=fun s us _ hl=>by
 rw[List.append_nil] at hl ⊢
 exact .of_eq (h us hl)
def Passes (CX:CXT)(X:Cx)(E:XK):Prop:=∀(pins:List (Addr × Obj)) (σ:St) (H:Hp) (s:Shared) (e:Value) (s':Shared),Inv X pins σ H s→CX X.stack H s E e s'→X.xe e s'
section
variable {X:Cx} {CX:CXT} {k:Nat} {f C:Addr} {fd:FuncData} {ps:List Str} {sp:Sp} {dvs:List V} {ds:List Value} {E:XK} {x m:Str} {p pos apos:Pos} {e o:Expr} {es:List Expr} {ta:TE} {t:TA}
theorem run_fn {pins:List (Addr × Obj)}{σ:St}{H:Hp}{s:Shared}{Q:VK}{us:List Value}{vs:List V}(F:FnOk X.prog X.w X.K X.mg X.base CX k f fd ps sp)(hr:Room k X.A)(hb:Binds X.K fd ps ds)(hd:Vals dvs ds)(hx:Passes CX X E)(I:Inv X pins σ H s)(r:Vals vs us)(h:sp (vs++dvs) H Q E):wpAny (model X.prog X.w) X.A (call (.ref f) us) (EP X pins σ Q) X.xe s:=by
 have r2:Vals (vs++dvs) (us++ds):=r.append hd
 have hl:(us++ds).length=ps.length:=by rw[← r2.length];exact F.len _ _ _ _ h
 refine wpAny_call (codeAny_mono (F.run X.A X.stack s H ⟨us,[]⟩ (us++ds) (vs++dvs) Q E hr I.env0 (hb s us I.kIn hl) r2 h) fun r s' hq=>?_)
 cases r with
 |error e=>exact hx pins σ H s e s' I hq
 |ok fl=>
  cases fl with
  |ret u=>exact I.after hq
  |next=>exact False.elim hq
  |brk=>exact False.elim hq
  |cont=>exact False.elim hq
theorem pe_call (F:FnOk X.prog X.w X.K X.mg X.base CX k f fd ps sp)(hr:Room k X.A)(hg:Gl X x)(hm:X.mg x=some (.ref f))(hk:PySem.W.keepIn X.K (.ref f)=true)(hb:Binds X.K fd ps ds)(hd:Vals dvs ds)(hx:Passes CX X E)(ha:PA X (e :: es) t)(hdb:(x == ("__debug__":Str))=false:=by decide)(he:starEach (e :: es) X.env=(false,eval e X.env) :: starEach es X.env:=by rfl)(hpl:(backTo pos (starEach es X.env)).any (·.1)=false:=by rfl) :
  PE X (.Call (.Name x p) (e :: es) [] pos) (tCall sp dvs E t):=by
 intro pins s σ H Q I h
 refine wpAny_Call_Name_kw (ld_glob I hg hm ?_ hdb)
 refine PySem.W.callWith_K (h₀:=X.base) I.ok.mod.kin hk (thn (ha pos pins s σ H _ I h) fun us s1 ⟨vs,H1,I1,r,q⟩=>⟨I1.kIn,?_⟩) he hpl
 exact run_fn F hr hb hd hx I1 r q
theorem pe_meth {pl:Sem Bool}(he:PE X o ta)(c:Cls X.K C)(hm:Meth X.K C m f)(F:FnOk X.prog X.w X.K X.mg X.base CX k f fd ps sp)(hr:Room k X.A)(hb:Binds X.K fd ps ds)(hd:Vals dvs ds)(hx:Passes CX X E)(ha:PA X (e :: es) t)(hst:starEach (e :: es) X.env=(false,eval e X.env) :: starEach es X.env:=by rfl)(hpl:(backTo pos (starEach es X.env)).any (·.1)=false:=by rfl)(ht:eval (.Call (.Attribute o m apos) (e :: es) [] pos) X.env=(do
   let ov ← eval o X.env
   standAt apos.atName
   let (f,first) ← holding [ov] (getMethod ov m pl)
   callWith pos f first (backTo pos (starEach (e :: es) X.env)) (backToKw pos (keywordEach [] X.env))):=by rfl) :
  PE X (.Call (.Attribute o m apos) (e :: es) [] pos) (tMeth C m sp dvs E ta t):=by
 intro pins s σ H Q I h
 refine PySem.W.methodCall_KW (pl:=pl) (thn (he pins s σ H _ I h) fun u s1 ⟨x,H1,I1,rx,a,dx,fs,ex,ea,l,q⟩=>?_) ht
 subst ex
 obtain rfl:u=Value.ref a:=rx
 refine getmeth_ok I1 ea c hm l ?_
 refine PySem.W.callWith_K (first:=[.ref a]) (h₀:=X.base) I.ok.mod.kin hm.kp (thn (ha pos pins s1 σ H1 _ I1 q) fun us s2 ⟨vs,H2,I2,r,q2⟩=>⟨I2.kIn,?_⟩) hst hpl
 exact run_fn (us:=.ref a :: us) (vs:=.ref a :: vs) F hr hb hd hx I2 (.cons rfl r) q2
theorem pe_meth0 {pl:Sem Bool}(he:PE X o ta)(c:Cls X.K C)(hm:Meth X.K C m f)(F:FnOk X.prog X.w X.K X.mg X.base CX k f fd ps sp)(hr:Room k X.A)(hb:Binds X.K fd ps ds)(hd:Vals dvs ds)(hx:Passes CX X E)(ht:eval (.Call (.Attribute o m apos) [] [] pos) X.env=(do
   let ov ← eval o X.env
   standAt apos.atName
   let (f,first) ← holding [ov] (getMethod ov m pl)
   callWith pos f first (backTo pos (starEach [] X.env)) (backToKw pos (keywordEach [] X.env))):=by rfl) :
  PE X (.Call (.Attribute o m apos) [] [] pos) (tMeth C m sp dvs E ta tNil):=by
 intro pins s σ H Q I h
 refine PySem.W.methodCall_KW (pl:=pl) (thn (he pins s σ H _ I h) fun u s1 ⟨x,H1,I1,rx,a,dx,fs,ex,ea,l,q⟩=>?_) ht
 subst ex
 obtain rfl:u=Value.ref a:=rx
 refine getmeth_ok I1 ea c hm l ?_
 exact PySem.W.callWith_K0 (first:=[.ref a]) I1.kIn hm.kp (run_fn (us:=[.ref a]) (vs:=[.ref a]) F hr hb hd hx I1 (.cons rfl .nil) q)
structure Mk (K:PySem.W.Frag) (C f:Addr):Prop where
 makes:PySem.W.makesIn K C=true
 init:PySem.W.findIn K (.ref C) "__init__"=some (some (.ref f))
 fn:PySem.W.isFn K (.ref f)=true
 kp:PySem.W.keepIn K (.ref C)=true
theorem run_make {pins:List (Addr × Obj)}{σ:St}{H:Hp}{s:Shared}{Q:VK}{us:List Value}{vs:List V}(M:Mk X.K C f)(F:FnOk X.prog X.w X.K X.mg X.base CX k f fd ps sp)(hr:Room (k+1) X.A)(hb:Binds X.K fd ps ds)(hd:Vals dvs ds)(hx:Passes CX X E)(I:Inv X pins σ H s)(r:Vals vs us)(h:∀x dx,H x=none→H dx=none→dx≠x→sp (.ref x :: (vs++dvs)) (upd (upd H dx (.own x)) x (.ins C dx [])) (fun v H2=>v=.non∧Q (.ref x) H2) E) :
  wpAny (model X.prog X.w) X.A (call (.ref C) us) (EP X pins σ Q) X.xe s:=by
 have hq:=h (s.heap.objs.size+1) s.heap.objs.size (I.hok.fresh (Nat.le_succ _)) (I.hok.fresh (Nat.le_refl _)) (Nat.ne_of_lt (Nat.lt_succ_self _))
 have I2:=Inv.made (C:=C) I
 have r2:Vals (V.ref (s.heap.objs.size+1) :: (vs++dvs)) (Value.ref (s.heap.objs.size+1) :: (us++ds)):=.cons rfl (r.append hd)
 have hl:(Value.ref (s.heap.objs.size+1) :: us++ds).length=ps.length:=by
  have e:=r2.length
  rw[F.len _ _ _ _ hq] at e
  exact e.symm
 refine wpAny_call (make_map (f:=f) I.kIn M.makes M.init (beq_iff_eq.mp M.fn) (codeAny_mono (F.run _ X.stack _ _ ⟨Value.ref (s.heap.objs.size+1) :: us,[]⟩ (Value.ref (s.heap.objs.size+1) :: (us++ds)) _ _ E (hr.make C us [])
  (I2.env0.make C us []) (hb _ (Value.ref (s.heap.objs.size+1) :: us) I2.kIn hl) r2 hq) fun r s' hq'=>?_))
 cases r with
 |error e=>exact hx pins σ _ _ e s' I2 hq'
 |ok fl=>
  cases fl with
  |ret u=>
   obtain⟨v,H',I3,rv,ev,q3⟩:=I2.after hq'
   subst ev
   exact⟨rv,⟨V.ref (s.heap.objs.size+1),H',I3,rfl,q3⟩⟩
  |next=>exact False.elim hq'
  |brk=>exact False.elim hq'
  |cont=>exact False.elim hq'
theorem pe_make (M:Mk X.K C f)(F:FnOk X.prog X.w X.K X.mg X.base CX k f fd ps sp)(hr:Room (k+1) X.A)(hg:Gl X x)(hm:X.mg x=some (.ref C))(hb:Binds X.K fd ps ds)(hd:Vals dvs ds)(hx:Passes CX X E)(ha:PA X (e :: es) t)(hdb:(x == ("__debug__":Str))=false:=by decide)(he:starEach (e :: es) X.env=(false,eval e X.env) :: starEach es X.env:=by rfl)(hpl:(backTo pos (starEach es X.env)).any (·.1)=false:=by rfl) :
  PE X (.Call (.Name x p) (e :: es) [] pos) (tMake C sp dvs E t):=by
 intro pins s σ H Q I h
 refine wpAny_Call_Name_kw (ld_glob I hg hm ?_ hdb)
 refine PySem.W.callWith_K (h₀:=X.base) I.ok.mod.kin M.kp (thn (ha pos pins s σ H _ I h) fun us s1 ⟨vs,H1,I1,r,q⟩=>⟨I1.kIn,?_⟩) he hpl
 exact run_make M F hr hb hd hx I1 r q
end
structure FnScope (N P:List Str) (sc:Scope):Prop where
 kind:sc.kind=.function
 co:sc.isCoroutine=false
 gen:sc.isGenerator=false
 nd:N.Nodup
 pre:N.take P.length=P
 par:∀x∈P,sc.names.lookup x=some .local∨sc.names.lookup x=some .cell
 nofree:∀y∈sc.names,y.2≠.free
theorem bindL_out {kindOf:Str→Option NameKind}{x:Str}:∀{binds:List (Str × Value)} {m:Str→Option Value},(∀v,(x,v)∉binds)→bindL kindOf binds m x=m x
 | [],_,_=>rfl
 | (n,v) :: r,m,h=>by
  unfold bindL
  rw[bindL_out fun w hw=>h w (List.mem_cons_of_mem _ hw)]
  split
  ·have:x≠n:=by rintro rfl;exact h v List.mem_cons_self
   simp[this]
  ·rfl
theorem bindC_out {kindOf:Str→Option NameKind}{x:Str}:∀{binds:List (Str × Value)} {m:Str→Option Value},(∀v,(x,v)∉binds)→bindC kindOf binds m x=m x
 | [],_,_=>rfl
 | (n,v) :: r,m,h=>by
  unfold bindC
  rw[bindC_out fun w hw=>h w (List.mem_cons_of_mem _ hw)]
  split
  ·rfl
  ·have:x≠n:=by rintro rfl;exact h v List.mem_cons_self
   simp[this]
theorem bindL_get {kindOf:Str→Option NameKind}{x:Str}{v:Value}:∀{P:List Str} {vs:List Value} {i:Nat} {m:Str→Option Value},P.Nodup→P[i]?=some x→vs[i]?=some v→kindOf x=some .local→
  bindL kindOf (P.zip vs) m x=some v
 | [],_,_,_,_,h,_,_=>by simp at h
 |_ :: _,[],_,_,_,_,h,_=>by simp at h
 |p :: P,w :: vs,0,m,nd,h1,h2,hk=>by
  simp at h1 h2;subst h1;subst h2
  show bindL kindOf ((p,w) :: P.zip vs) m p=_
  unfold bindL
  rw[bindL_out fun v hv=>(List.nodup_cons.mp nd).1 (List.of_mem_zip hv).1,if_pos hk]
  simp
 |p :: P,w :: vs,i+1,m,nd,h1,h2,hk=>by
  show bindL kindOf ((p,w) :: P.zip vs) m x=_
  unfold bindL
  exact bindL_get (i:=i) (List.nodup_cons.mp nd).2 (by simpa using h1) (by simpa using h2) hk
theorem bindC_get {kindOf:Str→Option NameKind}{x:Str}{v:Value}:∀{P:List Str} {vs:List Value} {i:Nat} {m:Str→Option Value},P.Nodup→P[i]?=some x→vs[i]?=some v→kindOf x≠some .local→
  bindC kindOf (P.zip vs) m x=some v
 | [],_,_,_,_,h,_,_=>by simp at h
 |_ :: _,[],_,_,_,_,h,_=>by simp at h
 |p :: P,w :: vs,0,m,nd,h1,h2,hk=>by
  simp at h1 h2;subst h1;subst h2
  show bindC kindOf ((p,w) :: P.zip vs) m p=_
  unfold bindC
  rw[bindC_out fun v hv=>(List.nodup_cons.mp nd).1 (List.of_mem_zip hv).1,if_neg hk]
  simp
 |p :: P,w :: vs,i+1,m,nd,h1,h2,hk=>by
  show bindC kindOf ((p,w) :: P.zip vs) m x=_
  unfold bindC
  exact bindC_get (i:=i) (List.nodup_cons.mp nd).2 (by simpa using h1) (by simpa using h2) hk
def start (N:List Str)(vs:List V):St:=vs.map some++List.replicate (N.length - vs.length) none
def cxOf (CX:CXT)(P:Program)(w:World)(K:PySem.W.Frag)(mg:Str→Option Value)(base:Heap)(N:List Str)(qual:Str)(scope:Scope)(f:Addr)(cd:Value)(A:Around)(outer:List Env)(s:Shared)(H:Hp)(E:XK):Cx where
 prog:=P
 w:=w
 K:=K
 mg:=mg
 base:=base
 A:=A.deeper (envOfC qual scope s.heap.objs.size f cd)
 N:=N
 s₀:=s
 H₀:=H
 env:=envOfC qual scope s.heap.objs.size f cd
 outer:=outer
 stack:=envOfC qual scope s.heap.objs.size f cd :: outer
 ex:=[]
 calm:=true
 fn:=fun _=>true
 pn:=[]
 xe:=fun e s'=>wpAny (model P w) (A.deeper (envOfC qual scope s.heap.objs.size f cd)) (leaving (envOfC qual scope s.heap.objs.size f cd) e) (fun _ s''=>CX outer H s E e s'') (fun e' s''=>CX outer H s E e' s'') s'
theorem cell_has {sc:Scope}{n:Nat}{x:Str}(h:sc.names.lookup x=some .cell):∃c,(cellsFrom n sc.names []).lookup x=some c:=by
 have q:=PySem.W.cellsFrom_some sc.names n [] (.inl h)
 exact Option.isSome_iff_exists.mp q
theorem inv_start {CX:CXT}{P:Program}{w:World}{K:PySem.W.Frag}{mg:Str→Option Value}{base:Heap}{N ps:List Str}{qual:Str}{scope:Scope}{f:Addr}{cd:Value}{A:Around}{outer:List Env}{s s1:Shared}{H:Hp}{E:XK}{us:List Value}{vs:List V}(S:FnScope N ps scope)(hd:A.handled=none)(e0:Env0 P w K mg base A outer s H)(hl:vs.length=ps.length)(r:Vals vs us)(x:InCallC s s.heap.objs.size (bindL (envOfC qual scope s.heap.objs.size f cd).kindOf (ps.zip us) fun _=>none) (cellsFrom (s.heap.objs.size+1) scope.names []) (bindC (envOfC qual scope s.heap.objs.size f cd).kindOf (ps.zip us) fun _=>none) s1) :
  Inv (cxOf CX P w K mg base N qual scope f cd A outer s H E) [] (start N vs) H s1:=by
 have hpl:ps.length≤N.length:=by have:=congrArg List.length S.pre;rw[List.length_take] at this;omega
 obtain⟨h1,tk,rfl,hk⟩:=x.done
 have noA:∀b:Addr,b∉(cxOf CX P w K mg base N qual scope f cd A outer s H E).ex:=fun b z=>absurd (show b∈([]:List Addr) from z) (by simp)
 refine⟨⟨e0.mod,S.kind,rfl,rfl,Nat.le_refl _,fun y z c h1 h2=>?_,fun y hy=>?_,fun y c _ h=>?_,fun _=>hd,Around.frames_deeper e0.frames,.inr ⟨rfl,rfl⟩,fun b z=>absurd z (noA b),e0.bs,e0.bsz,fun b _ _=>noA b,fun b z=>absurd z (noA b),e0.funs,e0.frf⟩,
  rfl,e0.bare,Un.kept hk,⟨_,x.toInCall.ns,fun i y v h1 h2 h3=>?_⟩,fun y c h=>⟨_,x.cell y c h⟩,e0.hok.fresh (Nat.le_refl _),fun y c h=>?_,fun p hp=>absurd (show p∈([]:List (Addr × Obj)) from hp) (by simp),e0.hok.kept hk,?_⟩
 ·exact name_of_addr x.apart (PySem.mem_of_lookup h1) (PySem.mem_of_lookup h2)
 ·have hy:scope.names.lookup y=some .cell∨scope.names.lookup y=some .free:=hy
  rcases hy with hy | hy
  ·exact cell_has hy
  ·exact absurd rfl (S.nofree _ (PySem.mem_of_lookup hy))
 ·exact Nat.le_of_lt (x.above y c (PySem.mem_of_lookup h))
 ·have hi:i < vs.length:=by
   unfold start at h2
   by_cases hi:i < vs.length
   ·exact hi
   ·rw[List.getElem?_append_right (by simpa using hi)] at h2
    rw[List.getElem?_replicate] at h2
    split at h2<;>cases h2
  have ha:vs[i]?=some v:=by
   unfold start at h2
   rw[List.getElem?_append_left (by simpa using hi),List.getElem?_map] at h2
   cases e:vs[i]? with
   |none=>rw[e] at h2;cases h2
   |some a=>rw[e] at h2;cases h2;rfl
  obtain⟨u,hu,rv⟩:=r.get ha
  have hp:ps[i]?=some y:=by
   rw[← S.pre,List.getElem?_take_of_lt (by omega)];exact h1
  have ndP:ps.Nodup:=by rw[← S.pre];exact S.nd.sublist (List.take_sublist _ _)
  refine⟨u,rv,?_⟩
  rcases S.par y (List.mem_of_getElem? hp) with k | k
  ·exact .inl ⟨k,bindL_get ndP hp hu k⟩
  ·obtain⟨c,e⟩:=cell_has (n:=s.heap.objs.size+1) k
   refine .inr ⟨.inl k,c,e,?_⟩
   have q:=x.cell y c e
   rw[bindC_get ndP hp hu (by show scope.names.lookup y≠_;rw[k];decide)] at q
   exact q
 ·exact e0.hok.fresh (Nat.le_of_lt (x.above y c (PySem.mem_of_lookup h)))
 ·unfold start
  show _=N.length
  rw[List.length_append,List.length_map,List.length_replicate]
  omega
theorem fn_of {CX:CXT}{P:Program}{w:World}{K:PySem.W.Frag}{mg:Str→Option Value}{base:Heap}{k:Nat}{f:Addr}{name qual:Str}{params:Arguments}{body:List Stmt}{scope:Scope}{dV kV doc pm cdv ct oc:Value}{an od:Option Addr}{osl:Array (Option Value)}{N ps:List Str}{sp:Sp}(lk:K.lookup f=some ⟨oc,od,.func (PySem.W.fnOf name qual params body scope dV kV doc pm an cdv ct),osl⟩)(hcd:PySem.W.codeIn K cdv qual=true)(S:FnScope N ps scope)(len:∀vs H Q E,sp vs H Q E→vs.length=ps.length)(hbody:∀(A:Around) (outer:List Env) (s:Shared) (H:Hp) (vs:List V) (Q:VK) (E:XK),Room k (A.deeper (envOfC qual scope s.heap.objs.size f cdv))→sp vs H Q E→
   ∃t,PSs (cxOf CX P w K mg base N qual scope f cdv A outer s H E) body t∧t { nx:=fun _ H'=>Q .non H',rt:=Q } (start N vs) H) :
  FnOk P w K mg base CX (k+1) f (PySem.W.fnOf name qual params body scope dV kV doc pm an cdv ct) ps sp:=by
 refine⟨len,fun A outer s H args us vs Q E hr e0 hb r hsp=>?_⟩
 have hl:=len _ _ _ _ hsp
 have KX:K.In s.heap:=e0.mod.kin.keeps fun b o e=>(e0.bs b o e).1
 have lim:s.heap.NoLimit:=e0.mod.nolimit.keeps fun b o e=>(e0.bs b o e).1
 have hkind:∀y∈ps.zip us,scope.names.lookup y.1=some .local∨(scope.names.lookup y.1=some .cell∧((cellsFrom (s.heap.objs.size+1) scope.names []).lookup y.1).isSome=true):=fun ⟨n,v⟩ hy=>by
  rcases S.par n (List.of_mem_zip hy).1 with q | q
  ·exact .inl q
  ·exact .inr ⟨q,PySem.W.cellsFrom_some _ _ _ (.inl q)⟩
 refine codeAny_call_function hr.depth (KX _ _ lk) rfl S.co S.gen rfl (PySem.W.codeRec_of KX hcd) (hb _ _ _ _ ?_)
 refine wpAny_newFunctionEnv_cells S.kind hkind fun env he s1 x=>?_
 subst he
 refine⟨lim.keeps x.toInCall.keep,codeAny_func ?_⟩
 obtain⟨t,ht,hq⟩:=hbody A outer s H vs Q E (hr.deeper _) hsp
 have I:Inv (cxOf CX P w K mg base N qual scope f cdv A outer s H E) [] (start N vs) H s1:=inv_start S hr.hd e0 hl r x
 refine wpAny_mono (ht [] s1 (start N vs) H _ I hq) (fun fl s' hs=>?_) fun e s' hs=>hs
 have fin:∀{σ':St} {H':Hp} {v:V} {u:Value},Inv (cxOf CX P w K mg base N qual scope f cdv A outer s H E) [] σ' H' s'→RelV v u→Q v H'→CE outer P w H s Q u s':=
  fun {σ' H' v u} J rv q=>⟨v,H',J.os,J.bare,J.base,J.hok,rv,q⟩
 cases fl with
 |ret u=>
  obtain⟨v,σ',H',J,rv,q⟩:=hs
  exact fin J rv q
 |next=>
  obtain⟨σ',H',J,q⟩:=hs
  exact fin (v:=V.non) (u:=Value.none) J rfl q
 |brk=>
  obtain⟨_,_,_,q⟩:=hs
  exact False.elim q
 |cont=>
  obtain⟨_,_,_,q⟩:=hs
  exact False.elim q
section
variable {X:Cx} {x:Str} {p pos:Pos} {e:Expr} {es:List Expr} {t:TA} {id T:String} {r:List V→Hp→VK→Prop}
def tCB (r:List V→Hp→VK→Prop)(t:TA):TE:=fun σ H Q=>t σ H fun vs H1=>r vs H1 Q
theorem pe_callB (hc:CallR X (.builtin id) r)(hg:Gl X x)(hm:X.mg x=none)(hv:bootBuiltins x=some (.builtin id))(ha:PA X (e :: es) t)(hn:x≠"__name__":=by decide)(hdb:(x == ("__debug__":Str))=false:=by decide)(he:starEach (e :: es) X.env=(false,eval e X.env) :: starEach es X.env:=by rfl)(hpl:(backTo pos (starEach es X.env)).any (·.1)=false:=by rfl):PE X (.Call (.Name x p) (e :: es) [] pos) (tCB r t):=by
 intro pins s σ H Q I h
 refine wpAny_Call_Name_kw (ld_blt I hg hm hv ?_ hn hdb)
 exact PyProof.Rows.callWith_builtin1 (thn (ha pos pins s σ H _ I h) fun us s1 ⟨vs,H1,I1,r1,q1⟩=>hc pins s1 σ H1 vs us Q I1 r1 q1) he hpl
theorem pe_callTy (hc:CallR X (.type T) r)(hg:Gl X x)(hm:X.mg x=none)(hv:bootBuiltins x=some (.type T))(ha:PA X (e :: es) t)(hn:x≠"__name__":=by decide)(hdb:(x == ("__debug__":Str))=false:=by decide)(he:starEach (e :: es) X.env=(false,eval e X.env) :: starEach es X.env:=by rfl)(hpl:(backTo pos (starEach es X.env)).any (·.1)=false:=by rfl):PE X (.Call (.Name x p) (e :: es) [] pos) (tCB r t):=by
 intro pins s σ H Q I h
 refine wpAny_Call_Name_kw (ld_blt I hg hm hv ?_ hn hdb)
 exact PyProof.Rows.callWith_type1 (thn (ha pos pins s σ H _ I h) fun us s1 ⟨vs,H1,I1,r1,q1⟩=>hc pins s1 σ H1 vs us Q I1 r1 q1) he hpl
end
end L2
namespace HT
open PySem PyProof.Rows
section
variable {prog:Program} {w:World} {A:Around} {E:Value→Shared→Prop} {s:Shared}
def sIx (n d:Nat):Option Int→Nat
 |none=>d
 |some v=>if v < 0 then (v+(n:Int)).toNat else min v.toNat n
end
end HT
namespace L2
open PySem PySem.Spec PyProof.Rows
abbrev TO:=St→Hp→(Option Int→Hp→Prop)→Prop
def PO (X:Cx)(e:Option Expr)(t:TO):Prop:=
 ∀(pins:List (Addr × Obj)) (s:Shared) (σ:St) (H:Hp) (Q:Option Int→Hp→Prop),Inv X pins σ H s→t σ H Q→
  wpAny (model X.prog X.w) X.A (evalPart e X.env) (fun u s'=>∃o H',Inv X pins σ H' s'∧IsPart u o∧Q o H') X.xe s
def tNoPart:TO:=fun _ H Q=>Q none H
def tPart (t:TE):TO:=fun σ H Q=>t σ H fun x H1=>∃i,x=.int i∧Q (some i) H1
section
variable {X:Cx} {e:Expr} {te:TE} {lo hi:Option Expr} {tl th:TO} {pos p2:Pos}
theorem po_none:PO X none tNoPart:=by
 intro pins s σ H Q I h
 rw[evalPart_none]
 exact wpAny_pure ⟨none,H,I,.none,h⟩
theorem po_some (h:PE X e te):PO X (some e) (tPart te):=by
 intro pins s σ H Q I hw
 rw[evalPart_some]
 refine thn (h pins s σ H _ I hw) fun u s1 ⟨x,H1,I1,r1,q1⟩=>?_
 obtain⟨i,rfl,q⟩:=q1
 obtain⟨t,rfl⟩:=r1
 exact⟨some i,H1,I1,.int i t,q⟩
def SlR (X:Cx)(r:V→Option Int→Option Int→Hp→VK→Prop):Prop:=
 ∀(pins:List (Addr × Obj)) (s:Shared) (σ:St) (H:Hp) (x:V) (v vl vu:Value) (lo hi:Option Int) (sl:Addr) (Q:VK),Inv X pins σ H s→RelV x v→s.heap.IsSliceOf sl vl vu .none→IsPart vl lo→IsPart vu hi→r x lo hi H Q→
  ∃T id,typeLookup (.type T) "__getitem__"=pure (some (.builtin id))∧s.TypeIs v T∧wpAny (model X.prog X.w) X.A (getItem v (.ref sl)) (EP X pins σ Q) X.xe s
def tSl (r:V→Option Int→Option Int→Hp→VK→Prop)(te:TE)(tl th:TO):TE:=fun σ H Q=>te σ H fun x H1=>tl σ H1 fun l H2=>th σ H2 fun u H3=>r x l u H3 Q
theorem pe_slice {r:V→Option Int→Option Int→Hp→VK→Prop}(hr:SlR X r)(he:PE X e te)(hl:PO X lo tl)(hu:PO X hi th):PE X (.Subscript e (.Slice lo hi none p2) pos) (tSl r te tl th):=by
 intro pins s σ H Q I h
 refine Subscript_ (thn (he pins s σ H _ I h) fun v s1 ⟨x,H1,I1,r1,q1⟩=>?_)
 refine wpAny_Slice (thn (hl pins s1 σ H1 _ I1 q1) fun vl s2 ⟨l,H2,I2,pl,q2⟩=>thn (hu pins s2 σ H2 _ I2 q2) fun vu s3 ⟨u,H3,I3,pu,q3⟩=>?_)
 rw[evalPart_none]
 refine wpAny_pure ?_
 have I4:Inv X pins σ H3 { s3 with heap:=s3.heap.push { cls:=.type "slice",data:=.fields #[vl,vu,.none] } }:=I3.kept (t':=s3.toks) fun b ob q=>Heap.get?_push_of_some _ q
 obtain⟨T,id,hT,ht,hg⟩:=hr pins { s3 with heap:=s3.heap.push { cls:=.type "slice",data:=.fields #[vl,vu,.none] } } σ H3 x v vl vu l u s3.heap.objs.size Q I4 r1 (Heap.IsSliceOf.new ..) pl pu q3
 show wpAny (model X.prog X.w) X.A (subscriptTail e (.Slice lo hi none p2) v (.ref s3.heap.objs.size)) (EP X pins σ Q) X.xe { s3 with heap:=s3.heap.push { cls:=.type "slice",data:=.fields #[vl,vu,.none] } }
 exact tail_any (ops:=[.ref s3.heap.objs.size,v]) ht hT hg (by with_unfolding_all rfl)
def cutV (xs:List V)(lo hi:Option Int):List V:=(xs.drop (HT.sIx xs.length 0 lo)).take (HT.sIx xs.length xs.length hi - HT.sIx xs.length 0 lo)
theorem cutV_length (xs:List V)(lo hi:Option Int):(cutV xs lo hi).length≤xs.length:=by
 unfold cutV
 exact Nat.le_trans (List.length_take_le' _ _) (by rw[List.length_drop];exact Nat.sub_le _ _)
end
def ixN (n:Nat)(i:Int):Option Nat:=if 0≤i then (if i < n then some i.toNat else none) else if -(n:Int)≤i then some (i+n).toNat else none
def atI {α:Type}(xs:List α)(i:Int):Option α:=(ixN xs.length i).bind fun j=>xs[j]?
theorem ixN_seq {n:Nat}{i:Int}{j:Nat}(h:ixN n i=some j):seqIndex? i n=some j∧j < n∧-(n:Int)≤i∧i < n:=by
 unfold ixN at h
 by_cases h0:0≤i
 ·rw[if_pos h0] at h
  by_cases h1:i < n
  ·rw[if_pos h1] at h
   have e:i.toNat=j:=Option.some.inj h
   exact⟨by rw[seqIndex_of h0 h1,e],by omega,by omega,h1⟩
  ·rw[if_neg h1] at h;cases h
 ·rw[if_neg h0] at h
  by_cases h1:-(n:Int)≤i
  ·rw[if_pos h1] at h
   have e:(i+n).toNat=j:=Option.some.inj h
   exact⟨by rw[seqIndex_neg (by omega) h1,e],by omega,h1,by omega⟩
  ·rw[if_neg h1] at h;cases h
theorem atI_get {α:Type}{xs:List α}{i:Int}{v:α}(h:atI xs i=some v):∃j,seqIndex? i xs.length=some j∧xs[j]?=some v∧j < xs.length∧-(xs.length:Int)≤i∧i < xs.length:=by
 unfold atI at h
 cases e:ixN xs.length i with
 |none=>rw[e] at h;cases h
 |some j=>
  rw[e] at h
  obtain⟨h1,h2,h3,h4⟩:=ixN_seq e
  exact⟨j,h1,h,h2,h3,h4⟩
theorem atI_nat {α:Type}{xs:List α}{j:Nat}{v:α}(h:xs[j]?=some v):atI xs (j:Int)=some v:=by
 have hj:j < xs.length:=(List.getElem?_eq_some_iff.mp h).1
 have e:ixN xs.length (j:Int)=some j:=by
  unfold ixN
  rw[if_pos (by omega),if_pos (by omega)];simp
 unfold atI;rw[e];exact h
theorem atI_last {α:Type}(xs:List α)(v:α):atI (xs++[v]) (-1)=some v:=by
 have hl:(xs++[v]).length=xs.length+1:=by simp
 have e:ixN (xs++[v]).length (-1)=some xs.length:=by
  unfold ixN
  rw[hl,if_neg (by decide),if_pos (by omega)]
  congr 1
  omega
 unfold atI
 rw[e]
 show (xs++[v])[xs.length]?=some v
 simp
def PlainIx (b:Expr):Prop:=∀o i,subscripted b false o i=operate [o,i] (getItem o i)
def IxR (X:Cx)(r:R2):Prop:=
 ∀(value slice:Expr) (pins:List (Addr × Obj)) (s:Shared) (σ:St) (H:Hp) (x y:V) (v u:Value) (Q:VK),Inv X pins σ H s→RelV x v→RelV y u→r x y H Q→
  subscripted slice false v u=operate [v,u] (getItem v u)→wpAny (model X.prog X.w) X.A (subscriptTail value slice v u) (EP X pins σ Q) X.xe s
def MtR (X:Cx)(id:String)(r:V→List V→Hp→VK→Prop):Prop:=
 ∀(pins:List (Addr × Obj)) (s:Shared) (σ:St) (H:Hp) (x:V) (xs:List V) (v:Value) (us:List Value) (Q:VK),Inv X pins σ H s→RelV x v→Vals xs us→r x xs H Q→
  wpAny (model X.prog X.w) X.A (call (.builtin id) (v :: us)) (EP X pins σ Q) X.xe s
section
variable {X:Cx} {a b:Expr} {ta tb:TE} {pos:Pos}
theorem pe_ix {r:R2}(hr:IxR X r)(ha:PE X a ta)(hb:PE X b tb)(hs:PlainIx b):PE X (.Subscript a b pos) (tOp r ta tb):=by
 intro pins s σ H Q I h
 exact Subscript_ (binT ha hb I h fun v u s2 x y H2 I2 rx ry q=>hr a b pins s2 σ H2 x y v u Q I2 rx ry q (hs _ _))
def rIxL (K:PySem.W.Frag):R2:=fun x y H Q=>∃p xs i v,x=.ref p∧y=.int i∧SqL K H p xs∧atI xs i=some v∧Q v H
def rIxT (K:PySem.W.Frag):R2:=fun x y H Q=>∃p xs i v,x=.ref p∧y=.int i∧SqT K H p xs∧atI xs i=some v∧Q v H
theorem ix_list:IxR X (rIxL X.K):=by
 intro value slice pins s σ H x y v u Q I rx ry h hs
 obtain⟨p,xs,i,z,rfl,rfl,hq,he,q⟩:=h
 cases rx
 obtain⟨t,rfl⟩:=ry
 obtain⟨its,r,pl,hz⟩:=I.list hq
 obtain⟨j,h1,h2,h3,h4,h5⟩:=atI_get he
 obtain⟨w,ew,rw'⟩:=r.get h2
 have hl:=r.length
 have hn:=line63
 have fin:EP X pins σ Q w s:=⟨z,H,I,rw',q⟩
 by_cases h0:0≤i
 ·have hj:i.toNat=j:=by
   rw[seqIndex_of h0 h5] at h1
   exact Option.some.inj h1
  exact item_listR pl.isList h0 (by omega) (by rw[hj];simpa using ew) fin hs
 ·have hj:(i+(its.toArray.size:Int)).toNat=j:=by
   rw[seqIndex_neg (by omega) h4] at h1
   rw[List.size_toArray,← hl]
   exact Option.some.inj h1
  exact subscriptTail_builtinR (x:=w) pl.isList.typeIs slot_list_getitem.lookup
   (wpAny_getItem_list_neg (Q:=fun r s'=>r=w∧EP X pins σ Q r s') pl.isList (by omega) (by rw[List.size_toArray]<;>omega) (by omega) (by rw[hj];simpa using ew) ⟨rfl,fin⟩) hs
theorem ix_tup:IxR X (rIxT X.K):=by
 intro value slice pins s σ H x y v u Q I rx ry h hs
 obtain⟨p,xs,i,z,rfl,rfl,hq,he,q⟩:=h
 cases rx
 obtain⟨t,rfl⟩:=ry
 obtain⟨its,r,pl,hz⟩:=I.tuple hq
 obtain⟨j,h1,h2,h3,h4,h5⟩:=atI_get he
 obtain⟨w,ew,rw'⟩:=r.get h2
 have hl:=r.length
 have hn:=line63
 have fin:EP X pins σ Q w s:=⟨z,H,I,rw',q⟩
 exact subscriptTail_builtinR (x:=w) pl.typeIs slot_tuple_getitem.lookup
  (getItem_tuple (j:=j) (Q:=fun r s'=>r=w∧EP X pins σ Q r s') pl (by omega) (by omega) (by rw[List.size_toArray,← hl];exact h1) (by simpa using ew) ⟨rfl,fin⟩) hs
theorem mapSeq_set (its:List Value)(n j:Nat)(u:Value):Obj.mapSeq (·.setIfInBounds j u) { cls:=.type "list",data:=.seq its.toArray n }={ cls:=.type "list",data:=.seq (its.set j u).toArray n }:=by
 simp[Obj.mapSeq]
theorem Inv.lst {pins:List (Addr × Obj)}{σ:St}{H:Hp}{s:Shared}{p:Addr}{xs:List V}(I:Inv X pins σ H s)(h:H p=some (.lst xs)) :
  ∃(its:List Value) (n:Nat),Vals xs its∧s.heap.get? p=some { cls:=.type "list",data:=.seq its.toArray n }∧xs.length≤sizeLine:=by
 obtain⟨z,its,n,r,e⟩:=I.hok p _ h
 exact⟨its,n,r,e,z⟩
theorem Inv.lstUpd {pins:List (Addr × Obj)}{σ:St}{H:Hp}{s:Shared}{p:Addr}{xs ys:List V}{its its':List Value}{n n':Nat}{f:Obj→Obj}(I:Inv X pins σ H s)(h:H p=some (.lst xs))(ho:s.heap.get? p=some { cls:=.type "list",data:=.seq its.toArray n })(hf:f { cls:=.type "list",data:=.seq its.toArray n }={ cls:=.type "list",data:=.seq its'.toArray n' })(r:Vals ys its')(hz:ys.length≤sizeLine)(t:Nat) :
  Inv X pins σ (upd H p (.lst ys)) { s with heap:=s.heap.update p f,toks:=t }:=by
 have e:(s.heap.update p f).get? p=some { cls:=.type "list",data:=.seq its'.toArray n' }:=by
  rw[Heap.get?_update_self f ho (by rw[hf]<;>rfl),hf]
 refine I.write (x:=p) (e:=p) (by rw[h];trivial) (.inl rfl) (fun b u hb q=>(Heap.get?_update_other _ _ (Ne.symm hb)).trans q) ⟨_,e⟩ ?_
 exact⟨hz,its',n',r,e⟩
def rSetL:V→V→V→Hp→(Hp→Prop)→Prop:=fun o i v H Q=>∃p xs k j,o=.ref p∧i=.int k∧H p=some (.lst xs)∧ixN xs.length k=some j∧Q (upd H p (.lst (xs.set j v)))
theorem set_list:PSet X rSetL:=by
 intro pins s σ H o i v ov iv u Q I ro ri rv h
 obtain⟨p,xs,k,j,rfl,rfl,hp,hj,q⟩:=h
 cases ro
 obtain⟨t,rfl⟩:=ri
 obtain⟨its,n,r,ho,hz⟩:=I.lst hp
 obtain⟨h1,h2,h3,h4⟩:=ixN_seq hj
 have hl:=r.length
 have hn:=line63
 have I':Inv X pins σ (upd H p (.lst (xs.set j v))) { s with heap:=s.heap.update p (Obj.mapSeq (·.setIfInBounds j u)) }:=
  I.lstUpd hp ho (mapSeq_set its n j u) (r.set rv j) (by rw[List.length_set];exact hz) s.toks
 by_cases h0:0≤k
 ·have hk:k.toNat=j:=by
   rw[seqIndex_of h0 h4] at h1
   exact Option.some.inj h1
  exact PySem.W.ki_setAt ho h0 (by omega) (by rw[List.size_toArray,← hl];exact h4) (by rw[hk];exact⟨_,I',q⟩)
 ·have hk:(k+(its.toArray.size:Int)).toNat=j:=by
   rw[seqIndex_neg (by omega) h3] at h1
   rw[List.size_toArray,← hl]
   exact Option.some.inj h1
  exact PySem.W.ki_setBack ho (by omega) (by rw[List.size_toArray,← hl];exact h3) (by omega) (by rw[hk];exact⟨_,I',q⟩)
theorem sbA (lo hi:Option Int)(n:Nat):(sliceBounds lo hi none n).1=((HT.sIx n 0 lo:Nat):Int):=by
 cases lo with
 |none=>simp[sliceBounds,HT.sIx]
 |some i=>
  simp only[sliceBounds,HT.sIx,Option.getD_none,show (1:Int) > 0 by decide,if_true]
  by_cases h:i < 0
  ·simp only[h,if_true]<;>omega
  ·simp only[h,if_false]<;>omega
theorem slice_bounds (lo hi:Option Int)(n:Nat):(sliceBounds lo hi none n).1=((HT.sIx n 0 lo:Nat):Int)∧(sliceBounds lo hi none n).2.1=((HT.sIx n n hi:Nat):Int)∧(sliceBounds lo hi none n).2.2=1:=by
 refine⟨sbA lo hi n,?_,rfl⟩
 cases hi with
 |none=>simp[sliceBounds,HT.sIx]
 |some i=>exact sbA (some i) lo n
theorem slicePick_cut (its:List Value)(lo hi:Option Int):slicePick its.toArray lo hi none=((its.drop (HT.sIx its.length 0 lo)).take (HT.sIx its.length its.length hi - HT.sIx its.length 0 lo)).toArray:=by
 obtain⟨h1,h2,h3⟩:=slice_bounds lo hi its.toArray.size
 unfold slicePick
 rw[h1,h2,h3]
 simp only[sliceRange_one,pick_run,List.size_toArray]<;>rfl
def rSlL (K:PySem.W.Frag):V→Option Int→Option Int→Hp→VK→Prop:=fun x lo hi H Q=>∃a xs,x=.ref a∧SqL K H a xs∧∀p,H p=none→Q (.ref p) (upd H p (.lst (cutV xs lo hi)))
theorem sl_list:SlR X (rSlL X.K):=by
 intro pins s σ H x v vl vu lo hi sl Q I rx hs pl pu h
 obtain⟨a,xs,rfl,hx,q⟩:=h
 cases rx
 obtain⟨its,r,ht,hz⟩:=I.list hx
 have hlen:=r.length
 refine⟨"list",_,slot_list_getitem.lookup,ht.isList.typeIs,?_⟩
 refine wpAny_getItem_list_slice ht.isList hs pl pu .none (by simp) ?_ (by rw[List.size_toArray]<;>omega)
 rw[slicePick_cut,← hlen]
 refine⟨.ref s.heap.objs.size,_,I.laid (t':=s.toks) (o:=.lst (cutV xs lo hi)) (fun b ob q=>Heap.get?_push_of_some _ q) (Nat.le_refl _) ?_,rfl,q _ (I.hok.fresh (Nat.le_refl _))⟩
 exact⟨Nat.le_trans (cutV_length xs lo hi) hz,_,0,(r.drop (HT.sIx xs.length 0 lo)).take (HT.sIx xs.length xs.length hi - HT.sIx xs.length 0 lo),Heap.get?_push_size _ rfl⟩
def flatV:V→Bool
 | .non=>true
 | .bl _=>true
 | .int _=>true
 | .str _=>true
 |_=>false
def eqV:V→V→Bool
 | .non,.non=>true
 | .bl a,.bl b=>a == b
 | .bl a,.int b=>(if a then 1 else 0) == b
 | .int a,.bl b=>a == (if b then 1 else 0)
 | .int a,.int b=>a == b
 | .str a,.str b=>a == b
 |_,_=>false
theorem eqAt_V {A:Around}{s:Shared}{y x:V}{u v:Value}(ry:RelV y u)(rx:RelV x v)(fy:flatV y=true)(fx:flatV x=true):SeqAt.EqAt A s u v (eqV y x):=by
 cases y with
 |non=>
  cases ry
  cases x with
  |non=>cases rx;exact SeqAt.EqAt.same _
  |bl b=>cases rx;exact SeqAt.EqAt.none_bool b
  |int b=>obtain⟨t,rfl⟩:=rx;exact SeqAt.EqAt.none_int b t
  |str b=>obtain⟨t,rfl⟩:=rx;exact SeqAt.EqAt.none_str b t
  |_=>exact absurd (show false=true from fx) Bool.false_ne_true
 |bl a=>
  cases ry
  cases x with
  |non=>cases rx;exact SeqAt.EqAt.bool_none a
  |bl b=>cases rx;exact SeqAt.EqAt.bool_bool a b
  |int b=>obtain⟨t,rfl⟩:=rx;exact SeqAt.EqAt.bool_int a b t
  |str b=>obtain⟨t,rfl⟩:=rx;exact SeqAt.EqAt.bool_str a b t
  |_=>exact absurd (show false=true from fx) Bool.false_ne_true
 |int a=>
  obtain⟨t',rfl⟩:=ry
  cases x with
  |non=>cases rx;exact SeqAt.EqAt.int_none a t'
  |bl b=>cases rx;exact SeqAt.EqAt.int_bool a t' b
  |int b=>obtain⟨t,rfl⟩:=rx;exact SeqAt.EqAt.int_int a t' b t
  |str b=>obtain⟨t,rfl⟩:=rx;exact SeqAt.EqAt.int_str a t' b t
  |_=>exact absurd (show false=true from fx) Bool.false_ne_true
 |str a=>
  obtain⟨t',rfl⟩:=ry
  cases x with
  |non=>cases rx;exact SeqAt.EqAt.str_none a t'
  |bl b=>cases rx;exact SeqAt.EqAt.str_bool a t' b
  |int b=>obtain⟨t,rfl⟩:=rx;exact SeqAt.EqAt.str_int a t' b t
  |str b=>obtain⟨t,rfl⟩:=rx;exact SeqAt.EqAt.str_str a t' b t
  |_=>exact absurd (show false=true from fx) Bool.false_ne_true
 |_=>exact absurd (show false=true from fy) Bool.false_ne_true
def eqU (x:V)(u:Value):Bool:=match u with
 | .none=>eqV .non x
 | .bool b=>eqV (.bl b) x
 | .int i _=>eqV (.int i) x
 | .str z _=>eqV (.str z) x
 |_=>false
theorem eqU_of {x y:V}{u:Value}(r:RelV y u)(f:flatV y=true):eqU x u=eqV y x:=by
 cases y with
 |non=>cases r;rfl
 |bl b=>cases r;rfl
 |int i=>obtain⟨t,rfl⟩:=r;rfl
 |str z=>obtain⟨t,rfl⟩:=r;rfl
 |_=>exact absurd (show false=true from f) Bool.false_ne_true
theorem any_eqU {x:V}:∀{xs:List V} {us:List Value},Vals xs us→xs.all flatV=true→us.any (eqU x)=xs.any fun y=>eqV y x
 |_,_,.nil,_=>rfl
 |y :: xs,u :: us,.cons r t,f=>by
  rw[List.all_cons,Bool.and_eq_true] at f
  rw[List.any_cons,List.any_cons,eqU_of r f.1,any_eqU t f.2]
theorem mem_eqAt {A:Around}{s:Shared}{x:V}{v:Value}(rx:RelV x v)(fx:flatV x=true):∀{xs:List V} {us:List Value},Vals xs us→xs.all flatV=true→∀u∈us,SeqAt.EqAt A s u v (eqU x u)
 |_,_,.nil,_=>fun u hu=>by cases hu
 |y :: xs,u :: us,.cons r t,f=>fun u' hu=>by
  rw[List.all_cons,Bool.and_eq_true] at f
  rcases List.mem_cons.mp hu with rfl | hu
  ·rw[eqU_of r f.1];exact eqAt_V r rx f.1 fx
  ·exact mem_eqAt rx fx t f.2 u' hu
def inV (x:V)(xs:List V):Bool:=xs.any fun y=>eqV y x
def rIn (K:PySem.W.Frag)(neg:Bool):R2:=fun x y H Q=>∃p xs,y=.ref p∧(SqL K H p xs∨SqT K H p xs)∧flatV x=true∧xs.all flatV=true∧Q (.bl (if neg then !inV x xs else inV x xs)) H
theorem op_in_seq:OpR X (compareOp .In) (rIn X.K false):=by
 intro pins s σ H x y v u Q I rx ry h
 obtain⟨p,xs,rfl,hq,fx,fs,q⟩:=h
 cases ry
 rcases hq with hq | hq
 ·obtain⟨its,r,pl,hz⟩:=I.list hq
  refine SeqAt.in_listAt (eqU x) pl.isList (fun w hw=>mem_eqAt rx fx r fs w (by simpa using hw)) ⟨.bl _,H,I,rfl,?_⟩
  rw[show its.toArray.any (eqU x)=its.any (eqU x) by simp,any_eqU r fs]
  exact q
 ·obtain⟨its,r,pl,hz⟩:=I.tuple hq
  refine SeqAt.in_tupleAt (eqU x) pl (fun w hw=>mem_eqAt rx fx r fs w (by simpa using hw)) ⟨.bl _,H,I,rfl,?_⟩
  rw[show its.toArray.any (eqU x)=its.any (eqU x) by simp,any_eqU r fs]
  exact q
theorem op_notIn_seq:OpR X (compareOp .NotIn) (rIn X.K true):=by
 intro pins s σ H x y v u Q I rx ry h
 obtain⟨p,xs,rfl,hq,fx,fs,q⟩:=h
 cases ry
 rcases hq with hq | hq
 ·obtain⟨its,r,pl,hz⟩:=I.list hq
  refine SeqAt.notIn_listAt (eqU x) pl.isList (fun w hw=>mem_eqAt rx fx r fs w (by simpa using hw)) ⟨.bl _,H,I,rfl,?_⟩
  rw[show its.toArray.any (eqU x)=its.any (eqU x) by simp,any_eqU r fs]
  exact q
 ·obtain⟨its,r,pl,hz⟩:=I.tuple hq
  refine SeqAt.notIn_tupleAt (eqU x) pl (fun w hw=>mem_eqAt rx fx r fs w (by simpa using hw)) ⟨.bl _,H,I,rfl,?_⟩
  rw[show its.toArray.any (eqU x)=its.any (eqU x) by simp,any_eqU r fs]
  exact q
theorem call_len_seq:CallR X (.builtin "len") (fun xs H Q=>∃p ys,xs=[.ref p]∧(SqL X.K H p ys∨SqT X.K H p ys)∧Q (.int ys.length) H):=by
 intro pins s σ H xs us Q I r h
 obtain⟨p,ys,rfl,hq,q⟩:=h
 obtain⟨u,rfl,rx⟩:=vals1 r
 cases rx
 have hn:=line63
 rcases hq with hq | hq
 ·obtain⟨its,r',pl,hz⟩:=I.list hq
  have hlen:=r'.length
  exact Calls.call_len_list pl.isList (by simp only[List.size_toArray]<;>omega) ⟨.int ys.length,H,I.tok _,⟨s.toks+1,by rw[List.size_toArray,hlen]⟩,q⟩
 ·obtain⟨its,r',pl,hz⟩:=I.tuple hq
  have hlen:=r'.length
  exact len_tuple pl (by simp only[List.size_toArray]<;>omega) ⟨.int ys.length,H,I.tok _,⟨s.toks+1,by rw[List.size_toArray,hlen]⟩,q⟩
theorem call_list_of:CallR X (.type "list") (fun xs H Q=>∃p ys,xs=[.ref p]∧(SqL X.K H p ys∨SqT X.K H p ys)∧∀l,H l=none→Q (.ref l) (upd H l (.lst ys))):=by
 intro pins s σ H xs us Q I r h
 obtain⟨p,ys,rfl,hq,q⟩:=h
 obtain⟨u,rfl,rx⟩:=vals1 r
 cases rx
 have fin:∀(its:List Value),Vals ys its→ys.length≤sizeLine→∀(h':Heap) (c':Nat),(∀b o',s.heap.get? b=some o'→h'.get? b=some o')→
   h'.get? s.heap.objs.size=some { cls:=.type "list",dict:=none,data:=.seq its.toArray c',slots:=#[] }→EP X pins σ Q (.ref s.heap.objs.size) { s with heap:=h' }:=fun its r' hz h' c' kp e=>
  ⟨.ref s.heap.objs.size,_,I.laid (t':=s.toks) kp (Nat.le_refl _) (show ObjOk X.prog X.w _ h' _ (.lst ys) from ⟨hz,its,c',r',e⟩),rfl,q _ (I.hok.fresh (Nat.le_refl _))⟩
 rcases hq with hq | hq
 ·obtain⟨its,r',pl,hz⟩:=I.list hq
  have hlen:=r'.length
  obtain⟨o,ho,hc,n,hd⟩:=pl.isList
  exact call_list_seq p (.inl rfl) ho hc hd (fun h' c' kp e=>fin its r' hz h' c' kp e) (by simp only[List.size_toArray]<;>omega)
 ·obtain⟨its,r',pl,hz⟩:=I.tuple hq
  have hlen:=r'.length
  obtain⟨o,ho,hc,n,hd⟩:=pl
  exact call_list_seq p (.inr rfl) ho hc hd (fun h' c' kp e=>fin its r' hz h' c' kp e) (by simp only[List.size_toArray]<;>omega)
def tyV (K:PySem.W.Frag)(T:String)(x:V)(H:Hp):Prop:=match x with
 | .str _=>T = "str"
 | .int _=>T = "int"
 | .ref p=>(T = "list"∧∃xs,SqL K H p xs)∨(T = "tuple"∧∃o,K.lookup p=some o∧o.cls=.type "tuple"∧o.dict=none)∨
   (T = "dict"∧((∃kvs,H p=some (.dK kvs))∨∃kvs,H p=some (.dT kvs)))∨(T = "set"∧∃S n,H p=some (.set S n))
 |_=>False
theorem tyV_is {pins:List (Addr × Obj)}{σ:St}{H:Hp}{s:Shared}{T:String}{x:V}{v:Value}(I:Inv X pins σ H s)(r:RelV x v)(ty:tyV X.K T x H) :
  s.TypeIs v T∧∀a,v=.ref a→∃ob,s.heap.get? a=some ob∧ob.dict=none:=by
 cases x with
 |str z=>
  obtain⟨t,rfl⟩:=r
  cases (show T = "str" from ty)
  exact⟨typeIs_str s z t,fun _ e=>nomatch e⟩
 |int i=>
  obtain⟨t,rfl⟩:=r
  cases (show T = "int" from ty)
  exact⟨typeIs_int s i t,fun _ e=>nomatch e⟩
 |ref p=>
  cases r
  rcases ty with ⟨rfl,xs,hq⟩ | ⟨rfl,o,hk,hc,hd⟩ | ⟨rfl,hk⟩ | ⟨rfl,S,n,hk⟩
  ·obtain⟨its,_,pl,_⟩:=I.list hq
   refine⟨pl.isList.typeIs,fun a e=>?_⟩
   cases e
   obtain⟨o,n,e,c,hd,_⟩:=pl
   exact⟨o,e,hd⟩
  ·refine⟨⟨o,I.kIn p o hk,hc⟩,fun a e=>?_⟩
   cases e
   exact⟨o,I.kIn _ o hk,hd⟩
  ·have z:∃o,s.heap.get? p=some o∧o.ExactDict:=by
    rcases hk with ⟨kvs,hk⟩ | ⟨kvs,hk⟩
    ·obtain⟨_,_,_,_,o,_,_,e,ex,_⟩:=I.hok p _ hk
     exact⟨o,e,ex⟩
    ·obtain⟨_,_,_,_,o,_,_,e,ex,_⟩:=I.hok p _ hk
     exact⟨o,e,ex⟩
   obtain⟨o,e,ex⟩:=z
   refine⟨⟨o,e,ex.1⟩,fun a e2=>?_⟩
   cases e2
   exact⟨o,e,ex.2.1⟩
  ·obtain⟨o,_,_,_,e,ex,_⟩:=I.hok p _ hk
   refine⟨⟨o,e,ex.1⟩,fun a e2=>?_⟩
   cases e2
   exact⟨o,e,ex.2.1⟩
 |_=>exact False.elim ty
def tBM (K:PySem.W.Frag)(T:String)(r:V→List V→Hp→VK→Prop)(to:TE)(t:TA):TE:=fun σ H Q=>to σ H fun x H1=>tyV K T x H1∧t σ H1 fun xs H2=>r x xs H2 Q
variable {o e:Expr} {es:List Expr} {to:TE} {t:TA} {name:Str} {apos cpos:Pos} {T id:String} {r:V→List V→Hp→VK→Prop}
theorem pe_bm (pa:PlainAttrs T)(slot:Slot T name id)(hty:typeOf (.builtin id)=pure (.type "method_descriptor"))(hm:MtR X id r)(ho:PE X o to)(ha:PA X (e :: es) t)(hbase:attributeBase o name X.env (eval o X.env)=eval o X.env:=by rfl)(hfew:((backTo cpos (starEach (e :: es) X.env)).all (fun x=>!x.1) && (backToKw cpos (keywordEach [] X.env)).all (fun x=>x.1.isSome)
   && decide ((e :: es).length+([]:List Keyword).length+(if ([]:List Keyword).isEmpty then 0 else 1) < 30))=true:=by rfl)(hline:(apos.endLine == cpos.line)=true:=by rfl)(hs:starEach (e :: es) X.env=(false,eval e X.env) :: starEach es X.env:=by rfl)(hplain:(backTo cpos (starEach es X.env)).any (·.1)=false:=by rfl) :
  PE X (.Call (.Attribute o name apos) (e :: es) [] cpos) (tBM X.K T r to t):=by
 intro pins s σ H Q I h
 refine wpAny_Call_method_late hbase hfew hline rfl (thn (ho pins s σ H _ I h) fun v s1 ⟨x,H1,I1,r1,ty,q1⟩=>?_)
 obtain⟨h1,h2⟩:=tyV_is I1 r1 ty
 refine⟨T,id,pa,slot,hty,h1,h2,?_⟩
 have hA:=ha cpos pins s1 σ H1 _ I1 q1
 rw[hs] at hA ⊢
 refine Calls.callWith_builtin (by show (false || (backTo cpos (starEach es X.env)).any (·.1))=false;rw[hplain]<;>rfl) (Calls.evalArgs_plain ?_)
 exact thn hA fun us s2 ⟨vs,H2,I2,r2,q2⟩=>hm pins s2 σ H2 x vs v us Q I2 r1 r2 q2
end
def MtM (X:Cx)(id:String)(r:V→List V→Hp→VK→Prop):Prop:=
 ∀(pins:List (Addr × Obj)) (s:Shared) (σ:St) (H:Hp) (x:V) (xs:List V) (v:Value) (us:List Value) (Q:VK),Inv X pins σ H s→RelV x v→Vals xs us→r x xs H Q→
  wpAny (model X.prog X.w) X.A (call (.builtin id) (v :: us)) (EP X pins σ Q) X.xe s
theorem Vals.one:∀{x:V} {us:List Value},Vals [x] us→∃u,us=[u]∧RelV x u
 |_,_,.cons r .nil=>⟨_,rfl,r⟩
theorem Vals.rep {xs:List V}{us:List Value}(h:Vals xs us):∀k:Nat,Vals (List.replicate k xs).flatten (List.replicate k us).flatten
 |0=>.nil
 |k+1=>by
  rw[List.replicate_succ,List.replicate_succ,List.flatten_cons,List.flatten_cons]
  exact Vals.append h (Vals.rep h k)
theorem foldl_rep (its:List Value):∀(k:Nat) (acc:List Value),
  List.foldl (fun x1 x2=>x1++x2) acc.toArray (List.replicate k its.toArray)=(acc++(List.replicate k its).flatten).toArray
 |0,acc=>by simp
 |k+1,acc=>by
  have e:acc.toArray++its.toArray=(acc++its).toArray:=by simp
  have e2:(acc++its)++(List.replicate k its).flatten=acc++(List.replicate (k+1) its).flatten:=by
   rw[List.replicate_succ,List.flatten_cons,List.append_assoc]
  rw[← e2,← foldl_rep its k (acc++its),← e,List.replicate_succ,List.foldl_cons]
section
variable {X:Cx} {pins:List (Addr × Obj)} {σ:St} {H:Hp} {s:Shared} {l b:Addr} {xs ys zs:List V}
theorem Inv.lset {its its':List Value}{n:Nat}{f:Array Value→Array Value}{t':Nat}(I:Inv X pins σ H s)(hH:H l=some (.lst xs))(e:s.heap.get? l=some { cls:=.type "list",data:=.seq its.toArray n })(hf:f its.toArray=its'.toArray)(hv:Vals ys its')(hz:ys.length≤sizeLine) :
  Inv X pins σ (upd H l (.lst ys)) { s with heap:=s.heap.update l (Obj.mapSeq f),toks:=t' }:=by
 have q:=PySem.IsL.update e f
 rw[hf] at q
 refine I.write (x:=l) (e:=l) (by rw[hH];exact trivial) (.inl rfl) (fun b' u hb hu=>(Heap.get?_update_other s.heap (Obj.mapSeq f) (Ne.symm hb)).trans hu) ⟨_,q⟩ ?_
 exact⟨hz,its',_,hv,q⟩
theorem Inv.lnew {its:List Value}{t':Nat}(I:Inv X pins σ H s)(hv:Vals ys its)(hz:ys.length≤sizeLine) :
  Inv X pins σ (upd H s.heap.objs.size (.lst ys)) { s with heap:=s.heap.push { cls:=.type "list",data:=.seq its.toArray },toks:=t' }:=
 I.laid (fun _ _ q=>Heap.get?_push_of_some _ q) (Nat.le_refl _) ⟨hz,its,0,hv,Heap.get?_push_size _ rfl⟩
theorem Inv.fresh (I:Inv X pins σ H s):H s.heap.objs.size=none:=I.hok.fresh (Nat.le_refl _)
theorem Inv.lstM (I:Inv X pins σ H s)(hH:H l=some (.lst xs)):xs.length≤sizeLine∧∃(its:List Value) (n:Nat),Vals xs its∧xs.length=its.length∧s.heap.get? l=some { cls:=.type "list",data:=.seq its.toArray n }:=by
 obtain⟨z,its,n,r,e⟩:=I.hok l _ hH
 exact⟨z,its,n,r,r.length,e⟩
theorem notLongL {n:Nat}(h:n≤sizeLine):Builtin.List.listTooLong n=false:=by
 unfold Builtin.List.listTooLong
 exact decide_eq_false (by omega)
end
section
variable {X:Cx}
def rAppend:V→List V→Hp→VK→Prop:=fun x vs H Q=>∃l xs y,x=.ref l∧vs=[y]∧H l=some (.lst xs)∧xs.length < sizeLine∧Q .non (upd H l (.lst (xs++[y])))
theorem mt_append:MtM X "list.append" rAppend:=by
 intro pins s σ H x vs v us Q I rx rv h
 obtain⟨l,xs,y,rfl,rfl,hH,hz,q⟩:=h
 cases rx
 obtain⟨u,rfl,ru⟩:=rv.one
 obtain⟨z,its,n,r,hl,e⟩:=I.lstM hH
 refine call_meets F.slot_list_append ⟨_,e,rfl⟩ F.entry_list_append (F.args_list_append_2 _ _) (PySem.list_append l its.toArray n u (by rw[List.size_toArray];omega)) ⟨e,?_⟩
 refine⟨.non,_,I.lset (its':=its++[u]) hH e (by simp) (r.append (.cons ru .nil)) ?_,rfl,q⟩
 rw[List.length_append,List.length_singleton]
 omega
def rExtend:V→List V→Hp→VK→Prop:=fun x vs H Q=>∃l b xs zs,x=.ref l∧vs=[.ref b]∧H l=some (.lst xs)∧H b=some (.lst zs)∧xs.length+zs.length≤sizeLine∧Q .non (upd H l (.lst (xs++zs)))
theorem mt_extend:MtM X "list.extend" rExtend:=by
 intro pins s σ H x vs v us Q I rx rv h
 obtain⟨l,b,xs,zs,rfl,rfl,hH,hB,hz,q⟩:=h
 cases rx
 obtain⟨u,rfl,ru⟩:=rv.one
 cases ru
 obtain⟨z,its,n,r,hl,e⟩:=I.lstM hH
 obtain⟨z2,its2,n2,r2,hl2,e2⟩:=I.lstM hB
 have hsz:its.toArray.size+its2.toArray.size≤sizeLine:=by rw[List.size_toArray,List.size_toArray];omega
 have hlong:¬(!its.toArray.isEmpty && Builtin.List.listTooLong (its.toArray.size+its2.toArray.size))=true:=by
  rw[notLongL hsz,Bool.and_false]
  exact Bool.false_ne_true
 refine call_meets F.slot_list_extend ⟨_,e,rfl⟩ F.entry_list_extend (F.args_list_extend_2 _ _)
  (AutoSeq1.list_extend_list_list_0 l its.toArray n b its2.toArray n2 hlong (by rw[List.size_toArray];omega) (by omega)) ⟨e,e2,?_⟩
 refine⟨.non,_,I.lset (its':=its++its2) hH e (by simp) (r.append r2) ?_,rfl,q⟩
 rw[List.length_append]
 omega
def rCat:R2:=fun x y H Q=>∃l b xs zs,x=.ref l∧y=.ref b∧H l=some (.lst xs)∧H b=some (.lst zs)∧xs.length+zs.length≤sizeLine∧∀p,H p=none→Q (.ref p) (upd H p (.lst (xs++zs)))
theorem op_cat:OpR X (binaryOp .Add) rCat:=by
 intro pins s σ H x y v u Q I rx ry h
 obtain⟨l,b,xs,zs,rfl,rfl,hH,hB,hz,q⟩:=h
 cases rx
 cases ry
 obtain⟨z,its,n,r,hl,e⟩:=I.lstM hH
 obtain⟨z2,its2,n2,r2,hl2,e2⟩:=I.lstM hB
 refine PySem.P.add_list e e2 ?_ (by rw[List.size_toArray,List.size_toArray];omega)
 have ea:its.toArray++its2.toArray=(its++its2).toArray:=by simp
 rw[ea]
 exact⟨.ref _,_,I.lnew (t':=s.toks) (r.append r2) (by rw[List.length_append];omega),rfl,q _ I.fresh⟩
def rRep:R2:=fun x y H Q=>∃l k xs,x=.ref l∧y=.int k∧H l=some (.lst xs)∧-(2 ^ 63)≤k∧k < 2 ^ 63∧xs.length*k.toNat≤sizeLine∧
 ∀p,H p=none→Q (.ref p) (upd H p (.lst (List.replicate k.toNat xs).flatten))
theorem len_rep {α:Type}(xs:List α)(k:Nat):(List.replicate k xs).flatten.length=k*xs.length:=by
 induction k with
 |zero=>simp
 |succ k ih=>rw[List.replicate_succ,List.flatten_cons,List.length_append,ih,Nat.succ_mul,Nat.add_comm]
theorem op_rep:OpR X (binaryOp .Mult) rRep:=by
 intro pins s σ H x y v u Q I rx ry h
 obtain⟨l,k,xs,rfl,rfl,hH,h1,h2,hz,q⟩:=h
 cases rx
 obtain⟨t,rfl⟩:=ry
 obtain⟨z,its,n,r,hl,e⟩:=I.lstM hH
 have hlen:its.toArray.size*k.toNat≤sizeLine:=by rw[List.size_toArray,← hl];exact hz
 have hcap:¬its.toArray.size*k.toNat > (2 ^ 63 - 1) / 8:=by
  have:(sizeLine:Nat)≤(2 ^ 63 - 1) / 8:=by decide
  omega
 have hfit:¬(!Builtin.List.listFitsIndex k)=true:=by
  rw[fitsIndex_both h1 h2]
  exact Bool.false_ne_true
 have hlong:¬Builtin.List.listTooLong (its.toArray.size*k.toNat)=true:=by
  rw[notLongL hlen]
  exact Bool.false_ne_true
 have hnew:List.foldl (fun x1 x2=>x1++x2) #[] (List.replicate (if its.toArray.isEmpty=true then 0 else k.toNat) its.toArray)=(List.replicate k.toNat its).flatten.toArray:=by
  have f0:∀m:Nat,List.foldl (fun x1 x2=>x1++x2) #[] (List.replicate m its.toArray)=(List.replicate m its).flatten.toArray:=fun m=>by
   have:=foldl_rep its m []
   rw[List.nil_append] at this
   exact this
  rw[f0]
  cases its with
  |nil=>simp
  |cons a r'=>rw[if_neg (by simp)]
 refine wpAny_binaryOp_repeat_ref (T:="list") (U:="int") (by decide) ⟨_,e,rfl⟩ (fun s'=>typeIs_int s' k t) noFill_list_mul F.fills_int_mul F.slot_int_rmul repeat_list F.slot_int_index.lookup
  (call_meets F.slot_int_rmul (typeIs_int s k t) F.entry_int_rmul (F.args_int_rmul_2 _ _) (int___rmul___int_list k t l its.toArray n)
   ⟨e,rfl,⟨_,e,rfl⟩,call_meets F.slot_list_mul ⟨_,e,rfl⟩ F.entry_list_mul (F.args_list_mul_2 _ _) (AutoListH.list___mul___list_int_3 l its.toArray n k t hfit hcap hlong) ⟨e,?_⟩⟩)
 rw[hnew]
 exact⟨.ref _,_,I.lnew (t':=s.toks) (r.rep k.toNat) (by rw[len_rep,Nat.mul_comm];exact hz),rfl,q _ I.fresh⟩
end
end L2
namespace Att
open PySem PySem.W PySem.Calls PyProof.Rows
theorem ints_of_wellAll {P:Params}{h:Heap}:∀(ns:List Int) (vs:List Value),WellAll P h vs (ns.map WData.int)→IntsAre vs ns:=by
 intro ns
 induction ns with
 |nil=>
  intro vs w
  rw[List.map_nil] at w
  cases w
  exact .nil
 |cons n ns ih=>
  intro vs w
  rw[List.map_cons] at w
  cases w with
  |cons a b=>
   cases a
   exact .cons _ _ (ih _ b)
theorem script_of {l:OpenLaw}{n:Nat}(hn:l.most=some n){P:Params}{h:Heap}{args:List WData}{vals:List Value}(hpre:l.row.toRowW.claim.pre args=true)(hwl:WellAll P h vals args) :
  ∃a vs ns,vals=[Value.ref a]∧args=[WData.list (ns.map WData.int)]∧h.get? a=some { cls:=.type "list",data:=.seq vs.toArray }∧IntsAre vs ns∧ns.length≤n:=by
 have hsh:WShape.hasAll [] args [.list .int]=true:=(pre_splitW hpre).1
 have hc:l.pre.holds [] { args:=args }=true:=(pre_splitW hpre).2
 obtain⟨d,r,rfl,h1,h2⟩:=hasAllW_cons hsh
 obtain rfl:=hasAllW_nil h2
 obtain⟨xs,rfl,h3⟩:=hasW_list h1
 obtain⟨ns,rfl⟩:=items_int h3
 have hlen:ns.length≤n:=by
  unfold OpenLaw.pre at hc
  have h4:(WTm.not (.lt (.lit (.int (n:Int))) (.len (.arg 0)))).holds [] { args:=[.list (ns.map .int)] }=true:=by
   have h4:=(holds_andW hc).1
   rw[hn] at h4
   exact h4
  have h5:=condW_of h4 (w_not (w_lt w_lit (w_len_list (w_arg rfl))))
  rw[List.length_map] at h5
  refine Nat.le_of_not_lt fun q=>?_
  have q':(n:Int) < ((ns.length:Nat):Int):=by omega
  first
   | (rw[decide_eq_true q'] at h5;exact absurd h5 (by decide))
   | (simp at h5;omega)
 cases hwl with
 |cons w1 w2=>
  cases w2
  cases w1 with
  |list ho hall=>exact⟨_,_,ns,rfl,rfl,ho,ints_of_wellAll ns _ hall,hlen⟩
theorem post_true (l:OpenLaw)(args:List WData):l.row.toRowW.claim.post args (.bool true) args=true:=
 postW_of (r:=l.row.toRowW) (X:=(true == true))
  (show WShape.has [] (.bool true) .bool=true by first | rfl | decide | simp[WShape.has,WShape.arms,WShape.armsAll])
  (show (WTm.eq .res (.lit (.bool true))).value [] { args:=args,res:=some (.bool true),after:=args }=some (.bool (true == true)) from w_eq_bool (w_res rfl) w_lit) rfl
theorem attach_call {l:OpenLaw}{n:Nat}{q:Program}{loose:List Str}{XP:(Str→Option Value)→Heap→Prop}{YP:World→Heap→Prop}{d:DefRec}(hn:l.most=some n)(hdf:d.params.defaults=[])(call:∀(w:World) (s₀ s₁:Shared) (mg mb:Str→Option Value) (fa:Addr) (o:Obj) (pm cd doc:Value) (a:Addr) (vs:List Value) (ns:List Int),
   Ground q loose [] XP w s₀ mg mb s₁.heap→YP w s₁.heap→
   s₁.heap.get? fa=some o→o.data=.func (docDef d.name d.params d.body d.scope pm cd doc)→s₁.heap.CodeRec cd d.name→mg d.name=some (.ref fa)→
   s₁.heap.get? a=some { cls:=.type "list",data:=.seq vs.toArray }→IntsAre vs ns→ns.length≤n→s₁.gens=#[]→
   codeAny (model l.prog w) callerA (.call (.ref fa) ⟨[.ref a],[]⟩) (fun r s'=>r=.ok (.ret (.bool true))∧OldK s₁.heap s'.heap∧s'.os=s₁.os∧AllBare s'.gens) s₁) :
  WalkO q loose XP YP l.row.toRowW d [] (fun f vs=>PySem.call f vs):=by
 intro w s₀ s₁ mg mb G Y fa o pm cd doc dV kV ho hd hcd hD hmg hg args vals as hpre hlay hrd hwl hlo
 obtain rfl:dV=.none:=Dflts.none hD hdf
 obtain rfl:kV=.none:=Dflts.noKw hD
 obtain⟨a,vs,ns,rfl,rfl,hobj,hints,hlen⟩:=script_of hn hpre hwl
 refine enter_call (codeAny_mono (call w s₀ s₁ mg mb fa o pm cd doc a vs ns G Y ho (fd_plain hd) hcd hmg hobj hints hlen hg) fun r s' hq=>?_)
 obtain⟨rfl,h2,h3,h4⟩:=hq
 exact⟨.inl ⟨.bool true,.bool true,[],rfl,fun _=>rfl,.bool true,post_true l _,fun _=>⟨List.Pairwise.nil,fun _ hm=>(nomatch hm)⟩⟩,h2,h3,h4⟩
end Att
namespace L2
open PySem PySem.Spec PyProof.Rows
theorem vals_ints:∀{vs:List Value} {ns:List Int},IntsAre vs ns→Vals (ns.map V.int) vs
 |_,_,.nil=>.nil
 |_,_,.cons n t h=>.cons ⟨t,rfl⟩ (vals_ints h)
def Only (H:Hp):Prop:=∀b,H b=none∨∃o xs,H b=some (.frz o (.lst xs))
theorem law_call {P:Program}{w:World}{K:PySem.W.Frag}{mg mb:Str→Option Value}{CX:CXT}{k:Nat}{fa a:Addr}{fd:FuncData}{x:Str}{sp:Sp}{s₁:Shared}{vs:List Value}{ns:List Int}(KX:K.In s₁.heap)(hns:s₁.heap.Ns mainGlobals mg)(hb:s₁.heap.Ns builtinsNs mb)(hbb:∀x:Str,x≠"__name__"→mb x=bootBuiltins x)(hlim:s₁.heap.NoLimit)(hg:s₁.gens=#[])(ha:s₁.heap.get? a=some { cls:=.type "list",data:=.seq vs.toArray })(hi:IntsAre vs ns)(hl:ns.length≤sizeLine)(hr:Room k callerA)(F:∀base:Heap,K.In base→base.Ns mainGlobals mg→FnOk P w K mg base CX k fa fd [x] sp)(hbind:∀(s:Shared) (u:Value),BindsTo s fd ⟨[u],[]⟩ [(x,u)])(hsp:∀H:Hp,Only H→SqL K H a (ns.map V.int)→sp [.ref a] H (fun v _=>v=.bl true) fun _ _ _=>False)(hCX:∀H e s',CX [] H s₁ (fun _ _ _=>False) e s'→False) :
  codeAny (model P w) callerA (.call (.ref fa) ⟨[.ref a],[]⟩) (fun r s'=>r=.ok (.ret (.bool true))∧OldK s₁.heap s'.heap∧s'.os=s₁.os∧AllBare s'.gens) s₁:=by
 have rv:=vals_ints hi
 have lenV:=hi.length
 have core:∀H:Hp,Only H→SqL K H a (ns.map V.int)→HOk P w H s₁.heap→(∀b,H b≠none→b=a)→(H a≠none→K.lookup a=none)→
   codeAny (model P w) callerA (.call (.ref fa) ⟨[.ref a],[]⟩) (fun r s'=>r=.ok (.ret (.bool true))∧OldK s₁.heap s'.heap∧s'.os=s₁.os∧AllBare s'.gens) s₁:=by
  intro H hO hS hok hA hK
  have base_of:∀{b:Addr} {o:Obj},s₁.heap.get? b=some o→H b=none→(hidT s₁.heap H).get? b=some o:=fun e n=>hidT_get e n
  have noA:∀{b:Addr} {o:Obj} {es:Array DictEntry} {ep:Nat},s₁.heap.get? b=some o→o.data=.dict es ep→H b=none:=fun {b o es ep} e d=>by
   cases q:H b with
   |none=>rfl
   |some u=>
    have e':b=a:=hA b (by rw[q];simp)
    subst e'
    rw[ha] at e;cases e
    have d':Data.seq vs.toArray _=Data.dict es ep:=d
    cases d'
  have nsK:∀{b:Addr} {m:Str→Option Value},s₁.heap.Ns b m→(hidT s₁.heap H).Ns b m:=fun {b m} ⟨o,es,ep,e,d,r⟩=>⟨o,es,ep,base_of e (noA e d),d,r⟩
  have hKb:K.In (hidT s₁.heap H):=fun b o e=>base_of (KX b o e) (by
   cases q:H b with
   |none=>rfl
   |some u=>
    have e':b=a:=hA b (by rw[q];simp)
    subst e'
    rw[hK (by rw[q];simp)] at e;cases e)
  have hM:Mod K mg (hidT s₁.heap H):=⟨hKb,nsK hns,⟨mb,nsK hb,hbb⟩,let ⟨mc,h1,h2⟩:=hlim;⟨mc,nsK h1,h2⟩⟩
  have e0:Env0 P w K mg (hidT s₁.heap H) callerA [] s₁ H:=⟨rfl,hM,fun b o e=>of_hidT e,Nat.le_of_eq (hidT_size _ _),trivial,fun b hb=>absurd (show b∈([]:List Addr) from hb) (by simp),hok,.of_eq hg⟩
  refine codeAny_mono ((F _ hKb (nsK hns)).run callerA [] s₁ H ⟨[.ref a],[]⟩ [.ref a] [.ref a] _ _ hr e0 (hbind s₁ (.ref a)) (.cons rfl .nil) (hsp H hO hS)) fun r s' h=>?_
  cases r with
  |error e=>exact(hCX H e s' h).elim
  |ok fl=>
   cases fl with
   |next=>exact False.elim h
   |brk=>exact False.elim h
   |cont=>exact False.elim h
   |ret u=>
    obtain⟨v,H',os,bare,un,hok',r',q⟩:=h
    have q':v=.bl true:=q
    subst q'
    obtain rfl:u=Value.bool true:=r'
    refine⟨rfl,OldK.of_keep fun b o e=>?_,os,bare⟩
    cases q:H b with
    |none=>exact un.keep b o e q (by intro z;exact absurd (show b∈([]:List Addr) from z) (by simp)) (by simp)
    |some u=>
     rcases hO b with z | ⟨ob,xs,z⟩
     ·rw[q] at z;cases z
     ·have z2:=un.frzs b ob _ z
      obtain⟨e1,_⟩:=hok b _ z
      obtain⟨e2,_⟩:=hok' b _ z2
      rw[e] at e1;cases e1
      exact e2
 cases hk:K.lookup a with
 |some o=>
  have e:=KX a o hk
  rw[ha] at e
  cases e
  refine core (fun _=>none) (fun _=>.inl rfl) (.inr ⟨_,vs.toArray,_,hk,rfl,rfl,rfl,by rw[List.size_toArray,lenV];exact hl,by simpa using rv⟩) (fun b u z=>by have z':(none:Option HO)=some u:=z;cases z') (fun b z=>absurd rfl z) fun z=>absurd rfl z
 |none=>
  refine core (fun b=>if b=a then some (.frz { cls:=.type "list",data:=.seq vs.toArray } (.lst (ns.map V.int))) else none) (fun b=>?_) (.inl (.inr ⟨{ cls:=.type "list",data:=.seq vs.toArray },if_pos rfl⟩)) (fun b u z=>?_) (fun b z=>?_) fun _=>hk
  ·by_cases hb:b=a
   ·exact .inr ⟨_,_,if_pos hb⟩
   ·exact .inl (if_neg hb)
  ·by_cases hb:b=a
   ·have z':=(if_pos hb).symm.trans z
    cases z'
    subst hb
    exact⟨ha,by rw[List.length_map];exact hl,vs,_,rv,ha⟩
   ·have z':=(if_neg hb).symm.trans z
    cases z'
  ·by_cases hb:b=a
   ·exact hb
   ·exact absurd (if_neg hb) z
abbrev KOf {K:PySem.W.Frag}{h:Heap}(_:K.In h):PySem.W.Frag:=K
theorem walk_of {l:PySem.W.OpenLaw}{n k:Nat}{q:Program}{loose:List Str}{XP:(Str→Option Value)→Heap→Prop}{YP:World→Heap→Prop}{d:DefRec}{K:Params→PySem.W.Frag}{CX:World→CXT}{sp:World→Sp}{x:Str}(hn:l.most=some n)(hn2:n≤sizeLine)(hdf:d.params.defaults=[])(hr:Room k callerA)(hY:∀(w:World) (h:Heap),YP w h→(K w.params).In h)(F:∀(w:World) (mg:Str→Option Value) (fa:Addr) (h:Heap),(K w.params).In h→h.Ns mainGlobals mg→mg d.name=some (.ref fa)→
   ∃fd:FuncData,(∀(s:Shared) (u:Value),BindsTo s fd ⟨[u],[]⟩ [(x,u)])∧
    ∀base:Heap,(K w.params).In base→base.Ns mainGlobals mg→FnOk l.prog w (K w.params) mg base (CX w) k fa fd [x] (sp w))(hsp:∀(w:World) (H:Hp) (a:Addr) (ns:List Int),ns.length≤n→Only H→SqL (K w.params) H a (ns.map V.int)→sp w [.ref a] H (fun v _=>v=.bl true) fun _ _ _=>False)(hCX:∀(w:World) (H:Hp) (s:Shared) (e:Value) (s':Shared),CX w [] H s (fun _ _ _=>False) e s'→False) :
  PySem.W.WalkO q loose XP YP l.row.toRowW d [] (fun f vs=>PySem.call f vs):=by
 refine Att.attach_call hn hdf fun w s₀ s₁ mg mb fa o pm cd doc a vs ns G Y ho hd hcd hmg hobj hints hlen hg=>?_
 have KX:=hY w _ Y
 obtain⟨fd,hb,hF⟩:=F w mg fa _ KX G.T.g hmg
 exact law_call KX G.T.g G.T.b G.T.builtins G.T.nolimit hg hobj hints (Nat.le_trans hlen hn2) hr hF hb (fun H hO hS=>hsp w H a ns hlen hO hS) fun H e s'=>hCX w H s₁ e s'
def inClass (s:Stmt)(j:Nat):Stmt:=match s with
 | .ClassDef _ _ _ body _ _ _ _ _ _ _=>body.getD j (.Pass ⟨0,0,0,0⟩)
 |_=>.Pass ⟨0,0,0,0⟩
def defArgs (s:Stmt):Arguments:=match s with
 | .FunctionDef _ a _ _ _ _ _ _ _ _=>a
 |_=>{ posonlyargs:=[],args:=[],vararg:=none,kwonlyargs:=[],kw_defaults:=[],kwarg:=none,defaults:=[] }
def defBody (s:Stmt):List Stmt:=match s with
 | .FunctionDef _ _ b _ _ _ _ _ _ _=>b
 |_=>[]
def defScope (s:Stmt):Scope:=match s with
 | .FunctionDef _ _ _ _ _ _ sc _ _ _=>sc
 |_=>{ kind:=.function,names:=[],isGenerator:=false,isCoroutine:=false }
abbrev CX0:CXT:=fun _ _ _ _ _ _=>False
abbrev E0:XK:=fun _ _ _=>False
theorem pass0 {X:Cx}:Passes CX0 X E0:=fun _ _ _ _ _ _ _ h=>h.elim
theorem hu_of {A:Around}{k:Nat}(hr:Room k A):A.units+1 < cLine:=Nat.lt_of_le_of_lt (Nat.add_le_add_left (by decide:1≤64) _) hr.units
theorem small1000 {n:Nat}(h:n≤1000):n < sizeLine:=Nat.lt_of_le_of_lt h (by decide)
section
variable {X:Cx}
theorem pv (i:Nat){x:Str}{pos:Pos}(hN:X.N[i]?=some x:=by rfl)(hv:Vis X.env.scope x:=by first | exact Or.inl rfl | exact Or.inr (Or.inl rfl) | exact Or.inr (Or.inr rfl))(hd:(x == ("__debug__":Str))=false:=by decide)(hcd:(x == ("__classdict__":Str))=false:=by decide):PE X (.Name x pos) (tVar i):=pe_var hN hv hd hcd
end
theorem iteF {A B:Prop}(h:B):if false=true then A else B:=by
 rw[if_neg Bool.false_ne_true]
 exact h
theorem iteT {A B:Prop}(h:A):if true=true then A else B:=by
 rw[if_pos rfl]
 exact h
theorem ite2 {c A B:Prop}[Decidable c](h1:c→A)(h2:¬c→B):if c then A else B:=by
 by_cases h:c
 ·rw[if_pos h]
  exact h1 h
 ·rw[if_neg h]
  exact h2 h
def Same (H H':Hp):Prop:=∀b o,H b=some o→H' b=some o
theorem Same.refl (H:Hp):Same H H:=fun _ _ h=>h
theorem Same.trans {H H1 H2:Hp}(a:Same H H1)(b:Same H1 H2):Same H H2:=fun c o h=>b c o (a c o h)
theorem Same.free {H H':Hp}(e:Same H H'){l:Addr}(h:H' l=Option.none):H l=Option.none:=by
 cases q:H l with
 |none=>rfl
 |some o=>
  rw[e l o q] at h
  cases h
theorem Same.seq {K:PySem.W.Frag}{H H':Hp}{a:Addr}{xs:List V}(e:Same H H')(h:SqL K H a xs):SqL K H' a xs:=by
 rcases h with (h | ⟨o,h⟩) | h
 ·exact .inl (.inl (e _ _ h))
 ·exact .inl (.inr ⟨o,e _ _ h⟩)
 ·exact .inr h
end L2
set_option maxHeartbeats 1000000
namespace L2
open PySem PySem.Spec PyProof.Rows
section
variable {X:Cx}
def Bt (n:Nat)(i:Int):Prop:=i.natAbs < 2 ^ n
theorem intBits_of {n:Nat}{i:Int}(h:Bt n i):Builtin.Int.intBits i≤n:=by
 unfold Builtin.Int.intBits
 split
 ·exact Nat.zero_le _
 ·rename_i h0
  have hp:i.natAbs≠0:=by
   intro z
   apply h0
   simp at z ⊢
   exact z
  have:i.natAbs.log2 < n:=(Nat.log2_lt hp).mpr h
  omega
def CBig (i j:Int):Prop:=∃n m,Bt n i∧Bt m j∧n≤1048576∧m≤1048576
theorem CBig.ok {i j:Int}(h:CBig i j):IntMulOk i j:=by
 obtain⟨n,m,h1,h2,h3,h4⟩:=h
 have e:(2:Nat) ^ 20=1048576:=by decide
 exact IntMulOk.of_bits (by have:=intBits_of h1;omega) (by have:=intBits_of h2;omega)
theorem op_mulB:OpR X (binaryOp .Mult) (rI CBig fun i j=>.int (i*j)):=opI fun _ _ _ _ _ _ _ hc q=>mul_int q hc.ok
def CDivB (i j:Int):Prop:=j≠0∧∃n,Bt n j∧n≤9000
theorem CDivB.ok {i j:Int}(h:CDivB i j):Builtin.divisionGoesByPylong i j=false:=by
 obtain⟨h0,n,h1,h2⟩:=h
 refine PyProof.noPylong_of_log2 ?_
 have hp:j.natAbs≠0:=by omega
 have:j.natAbs.log2 < n:=(Nat.log2_lt hp).mpr h1
 omega
theorem op_fdivB:OpR X (binaryOp .FloorDiv) (rI CDivB fun i j=>.int (i.fdiv j)):=opI fun _ _ _ _ _ _ _ hc q=>floordiv_int hc.1 q (.inl hc.ok)
mutual
inductive DatV (K:PySem.W.Frag) (H:Hp):V→PyData→Prop where
 |non:DatV K H .non .none
 |bl (b:Bool):DatV K H (.bl b) (.bool b)
 |int (i:Int):DatV K H (.int i) (.int i)
 |str (x:Str):DatV K H (.str x) (.str x)
 |lst {a:Addr} {xs:List V} {ds:List PyData} (h:SqL K H a xs) (q:DatVs K H xs ds):DatV K H (.ref a) (.list ds)
 |tup {a:Addr} {xs:List V} {ds:List PyData} (h:SqT K H a xs) (q:DatVs K H xs ds):DatV K H (.ref a) (.tuple ds)
inductive DatVs (K:PySem.W.Frag) (H:Hp):List V→List PyData→Prop where
 |nil:DatVs K H [] []
 |cons {x:V} {d:PyData} {xs:List V} {ds:List PyData} (p:DatV K H x d) (q:DatVs K H xs ds):DatVs K H (x :: xs) (d :: ds)
end
theorem datV_reads {pins:List (Addr × Obj)}{s:Shared}{σ:St}{H:Hp}(I:Inv X pins σ H s):∀{x:V} {d:PyData},DatV X.K H x d→∀{u:Value},RelV x u→∃as,Reads s.heap u d as:=by
 intro x d h
 induction h using DatV.rec (motive_2:=fun xs ds _=>∀{us:List Value},Vals xs us→∃as,ReadsAll s.heap us ds as) with
 |non=>intro u r;cases (show u=Value.none from r);exact⟨_,.none⟩
 |bl b=>intro u r;cases (show u=Value.bool b from r);exact⟨_,.bool b⟩
 |int i=>intro u r;obtain⟨t,rfl⟩:=(show ∃t,u=Value.int i t from r);exact⟨_,.int i t⟩
 |str y=>intro u r;obtain⟨t,rfl⟩:=(show ∃t,u=Value.str y t from r);exact⟨_,.str y t⟩
 |lst h q ih=>
  intro u r
  cases (show u=Value.ref _ from r)
  obtain⟨its,rv,pl,_⟩:=I.list h
  obtain⟨as,ra⟩:=ih rv
  obtain⟨o,h1,h2,n,h3⟩:=pl.isList
  exact⟨_,.list h1 h2 h3 (by simpa using ra)⟩
 |tup h q ih=>
  intro u r
  cases (show u=Value.ref _ from r)
  obtain⟨its,rv,pl,_⟩:=I.tuple h
  obtain⟨as,ra⟩:=ih rv
  obtain⟨o,h1,h2,n,h3⟩:=pl
  exact⟨_,.tuple h1 h2 h3 (by simpa using ra)⟩
 |nil=>rename_i us r;cases r;exact⟨_,.nil⟩
 |cons p q ih1 ih2=>
  rename_i us r
  cases r with
  |cons r1 r2=>
   obtain⟨as,h1⟩:=ih1 r1
   obtain⟨bs,h2⟩:=ih2 r2
   exact⟨_,.cons h1 h2⟩
def rDat (K:PySem.W.Frag)(neg:Bool):R2:=fun x y H Q=>∃d e,DatV K H x d∧DatV K H y e∧d.canLay0=true∧e.canLay0=true∧min d.depth e.depth≤16∧Q (.bl (if neg then !PyData.eqv d e else PyData.eqv d e)) H
theorem op_eqD (hu:X.A.units+64 < cLine):OpR X (compareOp .Eq) (rDat X.K false):=by
 intro pins s σ H x y v u Q I rx ry h
 obtain⟨d,e,h1,h2,c1,c2,hm,q⟩:=h
 obtain⟨as,r1⟩:=datV_reads I h1 rx
 obtain⟨bs,r2⟩:=datV_reads I h2 ry
 exact PySem.SeqAt.compareEq_reads r1 r2 c1 c2 (by omega) ⟨.bl (PyData.eqv d e),H,I,rfl,q⟩
theorem op_neD (hu:X.A.units+64 < cLine):OpR X (compareOp .NotEq) (rDat X.K true):=by
 intro pins s σ H x y v u Q I rx ry h
 obtain⟨d,e,h1,h2,c1,c2,hm,q⟩:=h
 obtain⟨as,r1⟩:=datV_reads I h1 rx
 obtain⟨bs,r2⟩:=datV_reads I h2 ry
 exact PySem.SeqAt.compareNe_reads r1 r2 c1 c2 (by omega) ⟨.bl (!PyData.eqv d e),H,I,rfl,q⟩
end
end L2
set_option maxHeartbeats 2000000
namespace L2
open PySem PySem.Spec PyProof.Rows
section
variable {prog:Program} {w:World} {A:Around} {R:Result→Shared→Prop} {s:Shared}
abbrev tests (ifs:List Expr)(env:Env):Sem Bool:=forIn ifs true fun c r=>if r=true then do let ok ← isTrue c env (eval c env);pure (ForInStep.yield ok) else pure (ForInStep.yield r)
theorem comp_loop {elt target iter:Expr}{ifs:List Expr}{scope:Scope}{pos:Pos}{it acc:Value}{env:Env}(I:Nat→Shared→Prop)(turn:∀n s,I n s→wpAny (model prog w) A (pyNext it) (fun r s₁=>match r with
   |none=>R (.ok .next) s₁
   |some v=>wpAny (model prog w) A (letOwnedTupleGo target it v) (fun _ s₀=>wpAny (model prog w) A (assign target env v) (fun _ s₂=>
     wpAny (model prog w) A (tests ifs env) (fun ok s₃=>
      if ok=true then wpAny (model prog w) A (eval elt env) (fun x s₄=>
       wpAny (model prog w) A (call (.builtin "list.append") [acc,x]) (fun _ s₅=>∃m,m < n∧I m s₅) (fun _ _=>False) s₄) (fun _ _=>False) s₃
      else ∃m,m < n∧I m s₃) (fun _ _=>False) s₂) (fun _ _=>False) s₀) (fun _ _=>False) s₁) (fun _ _=>False) s)(n:Nat)(h:I n s) :
  codeAny (model prog w) A (.compLoop (.ListComp elt [⟨target,iter,ifs,0⟩] scope pos) 0 it acc env) R s:=by
 refine codeAny_loop rfl I (fun n s hI=>?_) n h
 show wpAny _ A ((compTurn (.ListComp elt [⟨target,iter,ifs,0⟩] scope pos) 0 it acc env).onRaise (fun x=>do noteFrame x env;theTreesLotGoes x)) _ _ s
 refine wpAny_noted ?_
 rw[compTurn_list]
 refine wpAny_bind (wpAny_standAt (wpAny_bind (wpAny_mono (turn n s hI) (fun r s₁ h₁=>?_) fun _ _ z=>z.elim)))
 cases r with
 |none=>exact wpAny_pure h₁
 |some v=>
  refine wpAny_bind (wpAny_mono h₁ (fun _ s₀ h₀=>?_) fun _ _ z=>z.elim)
  refine wpAny_bind (wpAny_mono h₀ (fun _ s₂ h₂=>wpAny_bind (wpAny_mono h₂ (fun ok s₃ h₃=>?_) fun _ _ z=>z.elim)) fun _ _ z=>z.elim)
  cases ok with
  |false=>exact wpAny_pure ⟨rfl,h₃⟩
  |true=>
   rw[if_pos rfl] at h₃
   show wpAny _ _ ((do let _ ← call (.builtin "list.append") [acc,← eval elt env]) >>= fun _=>again (.compLoop (.ListComp elt [⟨target,iter,ifs,0⟩] scope pos) 0 it acc env)) _ _ _
   exact wpAny_bind (wpAny_bind (wpAny_mono h₃ (fun x s₄ h₄=>wpAny_bind (wpAny_mono h₄ (fun _ s₅ h₅=>wpAny_pure (wpAny_pure ⟨rfl,h₅⟩)) fun _ _ z=>z.elim)) fun _ _ z=>z.elim))
end
structure CompOk (X:Cx) (scope:Scope) (cl:List (Str × Addr)) (Nc:List Str) (nl:Nat) (fr:List Nat):Prop where
 clos:closureFor scope X.env=pure cl
 kind:scope.kind=.function
 names:∀y∈scope.names,y.2=.local→scope.names.lookup y.1=some .local
 cell:∀y∈scope.names,y.2≠.cell
 sub:∀x c,cl.lookup x=some c→X.env.cells.lookup x=some c
 has:∀x,(relabel scope X.env).names.lookup x=some .cell∨(relabel scope X.env).names.lookup x=some .free→∃c,cl.lookup x=some c
 len:Nc.length=nl+fr.length
 tail:∀i n,Nc[nl+i]?=some n→∃j,fr[i]?=some j∧X.N[j]?=some n∧X.env.kindOf n=some .cell∧cl.lookup n=X.env.cells.lookup n∧((relabel scope X.env).names.lookup n=some .cell∨(relabel scope X.env).names.lookup n=some .free)
abbrev compCx (X:Cx)(scope:Scope)(cl:List (Str × Addr))(Nc:List Str)(C:Addr)(s3:Shared)(H3:Hp)(fp:List Addr)(pins:List (Addr × Obj)):Cx:=
 { X with N:=Nc,s₀:=s3,H₀:=H3,env:=compEnvC scope cl C X.env,outer:=X.stack,ex:=fp,fn:=fun _=>false,pn:=X.pn++pins,xe:=fun _ _=>False }
def σC (nl:Nat)(fr:List Nat)(σ:St):St:=List.replicate nl none++fr.map fun j=>(σ[j]?).join
abbrev PIf (X:Cx)(ifs:List Expr)(t:TT):Prop:=
 ∀(pins:List (Addr × Obj)) (s:Shared) (σ:St) (H:Hp) (Q:Bool→Hp→Prop),Inv X pins σ H s→t σ H Q→wpAny (model X.prog X.w) X.A (tests ifs X.env) (TP X pins σ Q) X.xe s
theorem pif_nil {X:Cx}:PIf X [] (fun _ H Q=>Q true H):=fun _ _ _ H _ I h=>wpAny_pure ⟨H,I,h⟩
theorem pif_one {X:Cx}{c:Expr}{t:TT}(h:PT X c t):PIf X [c] t:=fun pins s σ H Q I q=>wpAny_tests_one (h pins s σ H Q I q)
section
variable {X:Cx} {scope:Scope} {cl:List (Str × Addr)} {Nc:List Str} {nl:Nat} {fr:List Nat} {pins:List (Addr × Obj)} {σ:St} {H3:Hp} {s3:Shared} {fp:List Addr} {h4:Heap} {tk:Nat}
theorem comp_start (ck:CompOk X scope cl Nc nl fr)(I:Inv X pins σ H3 s3)(hf:∀b∈fp,FpOk X pins H3 b)(hfs:∀b∈fp,b < s3.heap.objs.size)(hns:h4.Ns s3.heap.objs.size fun _=>none)(hk:∀b o,s3.heap.get? b=some o→h4.get? b=some o) :
  Inv (compCx X scope cl Nc s3.heap.objs.size s3 H3 fp pins) [] (σC nl fr σ) H3 { s3 with heap:=h4,toks:=tk }:=by
 have stk:∀b∈frs X.stack,b∈X.env.locals :: X.fs:=I.stkSub
 have nfs:∀b,b≠X.env.locals→b∉X.fs→b∉frs X.stack:=fun b h1 h2 z=>(List.mem_cons.mp (stk b z)).elim h1 h2
 have ltc:∀x c,cl.lookup x=some c→c < s3.heap.objs.size:=fun x c e=>by
  obtain⟨v,z⟩:=I.cell x c (ck.sub x c e)
  exact z.lt
 refine⟨⟨I.ok.mod,ck.kind,I.ok.glob,I.ok.blt,Nat.le_refl _,fun x y c h1 h2=>I.ok.inj x y c (ck.sub x c h1) (ck.sub y c h2),fun x hx=>ck.has x hx,fun x c hz=>Bool.noConfusion hz,I.ok.hd,I.ok.frames,.inl rfl,fun b hb=>?_,I.bs,Nat.le_trans I.ok.bsz I.sz,fun b o e hb=>?_,fun b hb=>?_,I.stack,I.stkFree⟩,
  rfl,I.bare,Un.kept hk,⟨_,hns,fun i x v h1 h2 h3=>?_⟩,fun x c e=>?_,I.hok.fresh (Nat.le_refl _),fun x c e=>I.freeC x c (ck.sub x c e),fun p hp=>?_,I.hok.kept hk,?_⟩
 ·obtain⟨f0,f1,f2,f3,f4,f5⟩:=hf b hb
  exact⟨Nat.ne_of_lt (hfs b hb),fun x c e=>f4 x c (ck.sub x c e)⟩
 ·obtain⟨f0,f1,f2,f3,f4,f5⟩:=hf b hb
  rcases f3 with z | z
  ·exact I.ok.noex b o e z
  ·exact absurd (Nat.lt_of_lt_of_le (Heap.lt_size e) (Nat.le_trans I.ok.bsz z)) (Nat.lt_irrefl _)
 ·obtain⟨f0,f1,f2,f3,f4,f5⟩:=hf b hb
  exact nfs b f1 f2
 ·-- a name's value
  unfold σC at h2
  by_cases hi:i < nl
  ·rw[List.getElem?_append_left (by simpa using hi),List.getElem?_replicate] at h2
   split at h2<;>cases h2
  ·have hi':nl≤i:=by omega
   rw[List.getElem?_append_right (by simpa using hi'),List.length_replicate,List.getElem?_map] at h2
   obtain⟨k,rfl⟩:∃k,i=nl+k:=⟨i - nl,by omega⟩
   obtain⟨j,e1,e2,e3,e4,e5⟩:=ck.tail k x h1
   rw[Nat.add_sub_cancel_left,e1] at h2
   have h2':(σ[j]?).join=some v:=by simpa using h2
   have h2'':σ[j]?=some (some v):=by
    cases q:σ[j]? with
    |none=>rw[q] at h2';cases h2'
    |some z=>rw[q] at h2';exact congrArg some h2'
   obtain⟨m,hn,hl⟩:=I.loc
   obtain⟨u,r,l⟩:=hl j x v e2 h2'' (.inr (.inl e3))
   refine⟨u,r,?_⟩
   rcases l with ⟨k1,_⟩ | ⟨k1,c,ec,z⟩
   ·rw[e3] at k1;cases k1
   ·obtain⟨o,ho,hd⟩:=z
    exact .inr ⟨e5,c,by show cl.lookup x=some c;rw[e4];exact ec,o,hk _ _ ho,hd⟩
 ·obtain⟨v,o,ho,hd⟩:=I.cell x c (ck.sub x c e)
  exact⟨v,o,hk _ _ ho,hd⟩
 ·have hp':p∈X.pn++pins:=by simpa using hp
  obtain⟨e,n,ne,nf,d⟩:=I.pin p hp'
  exact⟨hk _ _ e,n,Nat.ne_of_lt (Heap.lt_size e),nfs _ ne nf,d⟩
 ·unfold σC
  show _=Nc.length
  rw[List.length_append,List.length_replicate,List.length_map,ck.len]
theorem comp_end {pins':List (Addr × Obj)}{σ':St}{H':Hp}{s':Shared}(I:Inv X pins σ H3 s3)(hf:∀b∈fp,FpOk X pins H3 b)(J:Inv (compCx X scope cl Nc s3.heap.objs.size s3 H3 fp pins) pins' σ' H' s'):Inv X pins σ H' s'∧FpOk X pins H' s3.heap.objs.size:=by
 refine⟨I.call' (ch:=fp) J.os J.base J.hok J.bare fun b hb=>?_,I.fpOk (Nat.le_refl _) J.free⟩
 obtain⟨f0,f1,f2,f3,f4,f5⟩:=hf b hb
 exact⟨f3,f1,f4,f5⟩
theorem Inv.off {b:Addr}{H:Hp}{s:Shared}{h':Heap}(I:Inv X pins σ H s)(f:FpOk X pins H b)(hs:Heap.SameBut b s.heap h'):Inv X pins σ H { s with heap:=h' }:=by
 obtain⟨f0,f1,f2,f3,f4,f5⟩:=f
 exact I.turned (t':=s.toks) (it:=b) (fun c o hb e=>(hs.2 c hb).trans e) f0 f1 f3 f4 f5
end
def CompW (J:It)(nl:Nat)(fr:List Nat)(g:TG)(tt:TT)(te:TE)(σ:St)(D:Addr)(H1:Hp)(Q:VK):Prop:=
 ∃W:Nat→Nat→List V→Hp→Prop,(∃m,W 0 m [] (upd H1 D (.lst [])))∧∀i m ys H2,W i m ys H2→H2 D=some (.lst ys)∧
  ((J.stop i H2∧Q (.ref D) H2)∨(J.go i H2∧∀x H3,J.yld i H2 x H3→g x (σC nl fr σ) H3 fun σ2 H4=>σ2.length=(σC nl fr σ).length∧(∀(i:Nat) v,(σC nl fr σ)[i]?=some (some v)→σ2[i]?=some (some v))∧
   tt σ2 H4 fun b H5=>if b=true then te σ2 H5 fun y H6=>H6 D=some (.lst ys)∧ys.length < sizeLine∧∃m',m' < m∧W (i+1) m' (ys++[y]) (upd H6 D (.lst (ys++[y])))
    else ∃m',m' < m∧W (i+1) m' ys H5))
def tComp (wi:TI)(nl:Nat)(fr:List Nat)(g:TG)(tt:TT)(te:TE):TE:=fun σ H Q=>wi σ H fun J H1=>∀D,H1 D=none→CompW J nl fr g tt te σ D H1 Q
section
variable {X:Cx} {scope:Scope} {cl:List (Str × Addr)} {Nc:List Str} {nl:Nat} {fr:List Nat} {elt tg iter:Expr} {ifs:List Expr} {pos:Pos} {wi:TI} {g:TG} {tt:TT} {te:TE}
theorem comp_run (hc:X.calm=true)(ck:CompOk X scope cl Nc nl fr)(hi:PI X tg iter wi)(hg:∀C s3 H3 fp pins,PG (compCx X scope cl Nc C s3 H3 fp pins) tg g)(ht:∀C s3 H3 fp pins,PIf (compCx X scope cl Nc C s3 H3 fp pins) ifs tt)(he:∀C s3 H3 fp pins,PE (compCx X scope cl Nc C s3 H3 fp pins) elt te){pins:List (Addr × Obj)}{s:Shared}{σ:St}{H:Hp}{Q:VK}(I:Inv X pins σ H s)(h:tComp wi nl fr g tt te σ H Q){RR:Value→Addr→Result→Shared→Prop}(fin:∀D C s',(∃H',(∃m,s'.heap.Ns C m)∧Inv X pins σ H' s'∧FpOk X pins H' C∧Q (.ref D) H')→RR (.ref D) C (.ok .next) s') :
  wpAny (model X.prog X.w) X.A (eval iter X.env) (fun x s₁=>wpAny (model X.prog X.w) X.A (pyIter x) (fun it s₂=>wpAny (model X.prog X.w) X.A (newList []) (fun acc s₃=>
   wpAny (model X.prog X.w) X.A (newFunctionEnv scope X.env.globals cl [] X.env.qual none .none (some X.env)) (fun cenv s₄=>
    codeAny (model X.prog X.w) X.A (.compStart (.ListComp elt [⟨tg,iter,ifs,0⟩] scope pos) 0 it acc { cenv with scope:=relabel scope X.env }) (RR acc cenv.locals) s₄) X.xe s₃) X.xe s₂) X.xe s₁) X.xe s:=by
 refine thn (hi pins s σ H _ I h) fun v s1 h1=>thn h1 fun itv s2 h2=>?_
 obtain⟨it,fp,tn,J,H2,e,I2,T,st2,f2,hD⟩:=h2
 subst e
 have hn2:H2 s2.heap.objs.size=none:=I2.hok.fresh (Nat.le_refl _)
 obtain⟨W,⟨m0,w0⟩,turn⟩:=hD s2.heap.objs.size hn2
 refine wpAny_newObj_type (wpAny_newFunctionEnv ck.cell (by intro y hy;simp at hy) (fun h4 hns hsb=>?_) ck.kind)
 dsimp only at hns hsb ⊢
 have I3:Inv X pins σ (upd H2 s2.heap.objs.size (.lst [])) { s2 with heap:=s2.heap.push { cls:=.type "list",dict:=none,data:=.seq ([]:List Value).toArray } }:=
  I2.laid (t':=s2.toks) (fun b u e=>Heap.get?_push_of_some _ e) (Nat.le_refl _) ⟨Nat.zero_le _,[],0,.nil,Heap.get?_push_size _ rfl⟩
 have hfs:∀b∈fp,b < s2.heap.objs.size:=fun b hb=>by
  obtain⟨o,e,_⟩:=T.obj 0 _ st2 b hb
  exact Heap.lt_size e
 have f3:∀b∈fp,FpOk X pins (upd H2 s2.heap.objs.size (.lst [])) b:=fun b hb=>⟨by rw[upd_ne (Nat.ne_of_lt (hfs b hb))];exact(f2 b hb).1,(f2 b hb).2⟩
 generalize hH3:upd H2 s2.heap.objs.size (.lst [])=H3 at *
 generalize hs3:({ s2 with heap:=s2.heap.push { cls:=.type "list",dict:=none,data:=.seq ([]:List Value).toArray } }:Shared)=s3 at *
 have z3:s3.heap=s2.heap.push { cls:=.type "list",dict:=none,data:=.seq ([]:List Value).toArray }:=by rw[← hs3]
 have hsz3:s3.heap.objs.size=s2.heap.objs.size+1:=by rw[z3,Heap.size_push]
 rw[← z3] at hns hsb ⊢
 have hk4:∀b o,s3.heap.get? b=some o→h4.get? b=some o:=fun b o e=>hsb.extBut b o (Nat.ne_of_lt (Heap.lt_size e)) (Heap.get?_push_of_some _ e)
 have hfs3:∀b∈fp,b < s3.heap.objs.size:=fun b hb=>Nat.lt_of_lt_of_le (hfs b hb) (by rw[hsz3];exact Nat.le_succ _)
 have hns':h4.Ns s3.heap.objs.size fun _=>none:=by simpa using hns
 have K0:=fun tk=>comp_start (tk:=tk) ck I3 f3 hfs3 hns' hk4
 have stat:∀{H':Hp},(∀b∈fp,H' b=none)→∀b∈fp,FpOk (compCx X scope cl Nc s3.heap.objs.size s3 H3 fp pins) [] H' b:=fun {H'} hn b hb=>by
  obtain⟨f0,g1,g2,g3,g4,g5⟩:=f3 b hb
  refine⟨hn b hb,Nat.ne_of_lt (hfs3 b hb),fun z=>?_,.inl hb,fun x c e=>g4 x c (ck.sub x c e),fun p hp=>g5 p (by simpa using hp)⟩
  exact(List.mem_cons.mp (I3.stkSub b z)).elim g1 g2
 have st4:tn 0 h4:=T.keep 0 _ _ st2 fun b hb o e=>hk4 b o (by rw[z3];exact Heap.get?_push_of_some _ e)
 have loop:∀tk,codeAny (model X.prog X.w) X.A (.compLoop (.ListComp elt [⟨tg,iter,ifs,0⟩] scope pos) 0 (.ref it) (.ref s2.heap.objs.size) (compEnvC scope cl s3.heap.objs.size X.env)) (RR (.ref s2.heap.objs.size) s3.heap.objs.size) { s3 with heap:=h4,toks:=tk }:=by
  intro tk
  refine comp_loop (fun n s'=>∃i ys H',Inv (compCx X scope cl Nc s3.heap.objs.size s3 H3 fp pins) [] (σC nl fr σ) H' s'∧tn i s'.heap∧(∀b∈fp,H' b=none)∧W i n ys H') ?_ m0 ⟨0,[],H3,K0 tk,st4,fun b hb=>(f3 b hb).1,w0⟩
  rintro n s5 ⟨i,ys,H5,I5,st5,fr5,w5⟩
  obtain⟨hl5,q5⟩:=turn i n ys H5 w5
  rcases q5 with ⟨stop,qn⟩ | ⟨go,step⟩
  ·refine wpAny_mono (T.done (compCx X scope cl Nc s3.heap.objs.size s3 H3 fp pins) rfl rfl rfl hc i [] s5 (σC nl fr σ) H5 (fun _ _=>False) I5 (stat fr5) st5 stop) (fun r s6 h6=>?_) fun _ _ z=>z
   obtain⟨hr,I6⟩:=h6
   subst hr
   obtain⟨z1,z2⟩:=comp_end I3 f3 I6
   refine fin _ _ _ ⟨H5,?_,z1,z2,qn⟩
   obtain⟨m,hm,_⟩:=I6.loc
   exact⟨m,hm⟩
  ·refine wpAny_mono (T.item (compCx X scope cl Nc s3.heap.objs.size s3 H3 fp pins) rfl rfl rfl hc i [] s5 (σC nl fr σ) H5 (fun _ _=>False) I5 (stat fr5) st5 go) (fun r s6 h6=>?_) fun _ _ z=>z
   obtain⟨u,hr,h6⟩:=h6
   subst hr
   refine wpAny_mono h6 (fun _ s7 h7=>?_) fun _ _ z=>z
   obtain⟨x,H7,I7,r7,y7,st7,fr7⟩:=h7
   have I7':=I7.pinned (stat fr7) (T.obj _ _ st7)
   refine wpAny_mono (hg s3.heap.objs.size s3 H3 fp pins _ s7 _ H7 x u _ I7' r7 (step x H7 y7)) (fun _ s8 h8=>?_) fun _ _ z=>z
   obtain⟨σ8,H8,I8,l8,k8,q8⟩:=h8
   refine wpAny_mono (ht s3.heap.objs.size s3 H3 fp pins _ s8 σ8 H8 _ I8 q8) (fun b s9 h9=>?_) fun _ _ z=>z
   obtain⟨H9,I9,q9⟩:=h9
   have again:∀{ys':List V} {H':Hp} {s':Shared} {m':Nat},Inv (compCx X scope cl Nc s3.heap.objs.size s3 H3 fp pins) ([]++pinsAt fp s7.heap) σ8 H' s'→m' < n→W (i+1) m' ys' H'→
     ∃m,m < n∧∃i ys H',Inv (compCx X scope cl Nc s3.heap.objs.size s3 H3 fp pins) [] (σC nl fr σ) H' s'∧tn i s'.heap∧(∀b∈fp,H' b=none)∧W i m ys H':=fun {ys' H' s' m'} I' hm w'=>by
    refine⟨m',hm,i+1,ys',H',I'.unpinned.weak l8.symm k8,T.keep _ _ _ st7 fun b hb o e=>(I'.pin (b,o) (List.mem_append_right _ (List.mem_append_right _ (mem_pinsAt hb e)))).1,fun b hb=>?_,w'⟩
    obtain⟨o,e,d⟩:=T.obj _ _ st7 b hb
    exact(I'.pin (b,o) (List.mem_append_right _ (List.mem_append_right _ (mem_pinsAt hb e)))).2.1
   cases b with
   |false=>
    rw[if_neg Bool.false_ne_true] at q9 ⊢
    obtain⟨m',hm,w9⟩:=q9
    exact again I9 hm w9
   |true=>
    rw[if_pos rfl] at q9 ⊢
    refine wpAny_mono (he s3.heap.objs.size s3 H3 fp pins _ s9 σ8 H9 _ I9 q9) (fun yv s10 h10=>?_) fun _ _ z=>z
    obtain⟨y,H10,I10,r10,hl10,hz10,m',hm,w10⟩:=h10
    refine wpAny_mono (mt_append (X:=compCx X scope cl Nc s3.heap.objs.size s3 H3 fp pins) _ s10 σ8 H10 (.ref s2.heap.objs.size) [y] _ [yv] (fun v H'=>H'=upd H10 s2.heap.objs.size (.lst (ys++[y]))) I10 rfl (.cons r10 .nil) ⟨_,ys,y,rfl,rfl,hl10,hz10,rfl⟩) (fun _ s11 h11=>?_) fun _ _ z=>z
    obtain⟨_,H11,I11,_,e11⟩:=h11
    subst e11
    exact again I11 hm w10
 have L:=loop (s2.toks+([]:List (Str × Value)).length)
 rw[show s3.gens=s2.gens by rw[← hs3],show s3.drawn=s2.drawn by rw[← hs3],show s3.os=s2.os by rw[← hs3]] at L
 exact codeAny_compStart_list L (T.self _ 0 _ _ _ st4 L)
theorem pe_comp (hc:X.calm=true)(ck:CompOk X scope cl Nc nl fr)(hi:PI X tg iter wi)(hg:∀C s3 H3 fp pins,PG (compCx X scope cl Nc C s3 H3 fp pins) tg g)(ht:∀C s3 H3 fp pins,PIf (compCx X scope cl Nc C s3 H3 fp pins) ifs tt)(he:∀C s3 H3 fp pins,PE (compCx X scope cl Nc C s3 H3 fp pins) elt te)(hs:∀x,foldedSetIterable iter X.env x=pure x:=by intro _;rfl):PE X (.ListComp elt [⟨tg,iter,ifs,0⟩] scope pos) (tComp wi nl fr g tt te):=by
 intro pins s σ H Q I h
 rw[eval_ListComp]
 refine wpAny_comprehension_free (use:=none) rfl hs ck.clos ck.kind ck.names (comp_run (RR:=fun acc C=>compPost (model X.prog X.w) X.A X.xe none (EP X pins σ Q) acc C) hc ck hi hg ht he I h fun D C s' hh=>?_)
 obtain⟨H',⟨m,hm⟩,hI,hF,q⟩:=hh
 exact⟨m,hm,fun h' hs'=>⟨.ref D,H',hI.off hF hs',rfl,q⟩⟩
theorem ps_setC {i:Nat}{y:Str}{py spos:Pos}(hN:X.N.Nodup)(hiy:X.N[i]?=some y)(hy:X.env.scope.names.lookup y=some .local)(hc:X.calm=true)(ck:CompOk X scope cl Nc nl fr)(hi:PI X tg iter wi)(hg:∀C s3 H3 fp pins,PG (compCx X scope cl Nc C s3 H3 fp pins) tg g)(ht:∀C s3 H3 fp pins,PIf (compCx X scope cl Nc C s3 H3 fp pins) ifs tt)(he:∀C s3 H3 fp pins,PE (compCx X scope cl Nc C s3 H3 fp pins) elt te)(hsw:swapsWith (.ListComp elt [⟨tg,iter,ifs,0⟩] scope pos) (some (.Name y py)) spos.line X.env=pure true)(hs:∀x,foldedSetIterable iter X.env x=pure x:=by intro _;rfl):PS X (.Assign [.Name y py] (.ListComp elt [⟨tg,iter,ifs,0⟩] scope pos) spos) (tAsg (tComp wi nl fr g tt te) (gName i)):=by
 intro pins s σ H D I h
 rw[exec_Assign_Name_used _ _ _ _ hsw]
 refine wpAny_bind (wpAny_standAt (wpAny_bind ?_))
 show wpAny _ X.A (do let _ ← comprehension (.ListComp elt [⟨tg,iter,ifs,0⟩] scope pos) scope X.env _ (newList []) false (eval iter X.env) (some (assign (.Name y py) X.env))) _ _ s
 refine wpAny_bind (wpAny_mono (wpAny_comprehension_free (use:=some (assign (.Name y py) X.env)) (Q:=fun _ s'=>SP X pins D .next s') rfl hs ck.clos ck.kind ck.names
  (comp_run (RR:=fun acc C=>compPost (model X.prog X.w) X.A X.xe (some (assign (.Name y py) X.env)) (fun _ s'=>SP X pins D .next s') acc C) hc ck hi hg ht he I h fun Dd C s' hh=>?_)) (fun _ s' hq=>wpAny_pure (wpAny_pure hq)) fun _ _ e=>e)
 obtain⟨H',⟨m,hm⟩,hI,hF,q⟩:=hh
 show wpAny _ X.A (assign (.Name y py) X.env (.ref Dd)) _ _ _
 refine wpAny_assign_Name (store_ok2 hI hN hiy (.inl hy) (v:=.ref Dd) rfl (fun s2 I2 hsb=>?_) (.inr hy))
 obtain⟨a,sb,ha⟩:=hsb
 have hCa:C≠a:=by
  rcases ha with z | z
  ·rw[z];exact hF.2.1
  ·exact Ne.symm (hF.2.2.2.2.1 y a z)
 refine⟨m,hm.sameBut sb hCa,fun h' hs'=>⟨_,H',I2.off hF hs',q⟩⟩
end
end L2
set_option maxHeartbeats 1000000
namespace Mq
abbrev Q2:=Int × Int
def gc (a b:Int):Int:=(Int.gcd a b:Nat)
theorem gc_step (a b:Int):gc b (Int.fmod a b)=gc a b:=by
 unfold gc
 rw[Int.fmod_def,Int.gcd_comm a b,Int.sub_eq_add_neg,← Int.mul_neg,Int.gcd_add_mul_left_right]
theorem fmod_less {a b:Int}(h:b≠0):(Int.fmod a b).natAbs < b.natAbs:=by
 rcases (by omega:0 < b∨b < 0) with h1 | h1
 ·have:=Int.fmod_nonneg_of_pos a h1
  have:=Int.fmod_lt_of_pos a h1
  omega
 ·have h2:0 < -b:=by omega
  have e:Int.fmod a b=- Int.fmod (-a) (-b):=by
   rw[Int.neg_fmod_neg];omega
  have:=Int.fmod_nonneg_of_pos (-a) h2
  have:=Int.fmod_lt_of_pos (-a) h2
  omega
theorem gc_zero (a:Int):gc a 0=if a < 0 then -a else a:=by
 unfold gc
 rw[Int.gcd_zero]
 split<;>omega
theorem gc_pos {a b:Int}(h:b≠0):0 < gc a b:=by
 have:=Int.gcd_pos_of_ne_zero_right a h
 unfold gc;omega
structure Low (p:Q2):Prop where
 pos:1≤p.2
 one:gc p.1 p.2=1
def dvr (t b:Int):Int:=if b < 0 then -gc t b else gc t b
def red (t b:Int):Q2:=(Int.fdiv t (dvr t b),Int.fdiv b (dvr t b))
theorem dvr_ne {t b:Int}(h:b≠0):dvr t b≠0:=by
 have:=gc_pos (a:=t) h
 unfold dvr;split<;>omega
theorem fdiv_exact {a g k:Int}(hg:g≠0)(h:a=g*k):Int.fdiv a g=k:=by
 rw[h,Int.mul_fdiv_cancel_left _ hg]
theorem dvr_dvd (t b:Int):dvr t b ∣ t∧dvr t b ∣ b:=by
 have h1:gc t b ∣ t:=Int.gcd_dvd_left t b
 have h2:gc t b ∣ b:=Int.gcd_dvd_right t b
 unfold dvr;split
 ·exact⟨Int.neg_dvd.mpr h1,Int.neg_dvd.mpr h2⟩
 ·exact⟨h1,h2⟩
theorem red_parts {t b:Int}(h:b≠0):t=dvr t b*(red t b).1∧b=dvr t b*(red t b).2:=by
 obtain⟨⟨x,hx⟩,⟨y,hy⟩⟩:=dvr_dvd t b
 have hg:=dvr_ne (t:=t) h
 have e1:(red t b).1=x:=fdiv_exact hg hx
 have e2:(red t b).2=y:=fdiv_exact hg hy
 rw[e1,e2];exact⟨hx,hy⟩
theorem red_low {t b:Int}(h:b≠0):Low (red t b):=by
 obtain⟨h1,h2⟩:=red_parts (t:=t) h
 have hg:=dvr_ne (t:=t) h
 have hp:=gc_pos (a:=t) h
 have nd:(dvr t b).natAbs=(gc t b).natAbs:=by unfold dvr;split<;>simp
 have e:Int.gcd t b=(dvr t b).natAbs*Int.gcd (red t b).1 (red t b).2:=by
  rw[← Int.gcd_mul_left,← h1,← h2]
 have e2:(gc t b).natAbs=Int.gcd t b:=by unfold gc;simp
 rw[nd,e2] at e
 have hp':0 < Int.gcd t b:=by unfold gc at hp;omega
 have one:Int.gcd (red t b).1 (red t b).2=1:=by
  have:Int.gcd t b*Int.gcd (red t b).1 (red t b).2=Int.gcd t b*1:=by omega
  exact Nat.eq_of_mul_eq_mul_left hp' this
 refine⟨?_,by unfold gc;rw[one];rfl⟩
 have sgn:0 < (red t b).2:=by
  by_cases hb:b < 0
  ·have hd:dvr t b < 0:=by unfold dvr;rw[if_pos hb];omega
   have hq:¬(red t b).2≤0:=fun q=>by
    have:=Int.mul_nonneg_of_nonpos_of_nonpos (Int.le_of_lt hd) q
    omega
   omega
  ·have hd:0 < dvr t b:=by unfold dvr;rw[if_neg hb];omega
   have hq:¬(red t b).2≤0:=fun q=>by
    have:=Int.mul_nonpos_of_nonneg_of_nonpos (Int.le_of_lt hd) q
    omega
   omega
 omega
theorem red_cross {t b:Int}(h:b≠0):(red t b).1*b=t*(red t b).2:=by
 obtain⟨h1,h2⟩:=red_parts (t:=t) h
 generalize (red t b).1=x at *
 generalize (red t b).2=y at *
 generalize dvr t b=g at *
 subst h1 h2;grind
theorem natAbs_fdiv_le {a g k:Int}(hg:g≠0)(h:a=g*k):k.natAbs≤a.natAbs:=by
 rw[h,Int.natAbs_mul]
 exact Nat.le_mul_of_pos_left _ (by omega)
theorem red_le {t b:Int}(h:b≠0):(red t b).1.natAbs≤t.natAbs∧(red t b).2.natAbs≤b.natAbs:=by
 obtain⟨h1,h2⟩:=red_parts (t:=t) h
 exact⟨natAbs_fdiv_le (dvr_ne h) h1,natAbs_fdiv_le (dvr_ne h) h2⟩
theorem dvr_le {t b:Int}(h:b≠0):(dvr t b).natAbs≤b.natAbs:=by
 have e:(dvr t b).natAbs=Int.gcd t b:=by unfold dvr gc;split<;>simp
 rw[e];exact Int.gcd_le_natAbs_right t h
theorem low_same {p q:Q2}(hp:Low p)(hq:Low q)(h:p.1*q.2=q.1*p.2):p=q:=by
 have gp:Int.gcd p.2 p.1=1:=by have:=hp.one;rw[Int.gcd_comm];unfold gc at this;omega
 have gq:Int.gcd q.2 q.1=1:=by have:=hq.one;rw[Int.gcd_comm];unfold gc at this;omega
 have d1:p.2 ∣ q.2:=by
  have:p.2 ∣ p.1*q.2:=⟨q.1,by rw[h,Int.mul_comm]⟩
  have:=Int.dvd_gcd_mul_iff_dvd_mul.mpr this
  rw[gp] at this
  simpa using this
 have d2:q.2 ∣ p.2:=by
  have:q.2 ∣ q.1*p.2:=⟨p.1,by rw[← h,Int.mul_comm]⟩
  have:=Int.dvd_gcd_mul_iff_dvd_mul.mpr this
  rw[gq] at this
  simpa using this
 have l1:=Int.le_of_dvd (by have:=hq.pos;omega) d1
 have l2:=Int.le_of_dvd (by have:=hp.pos;omega) d2
 have e2:p.2=q.2:=by omega
 have e1:p.1=q.1:=by
  rw[e2] at h
  exact Int.eq_of_mul_eq_mul_right (by have:=hq.pos;omega) h
 exact Prod.ext e1 e2
def plus (p q:Q2):Q2:=red (p.1*q.2+q.1*p.2) (p.2*q.2)
def minus (p q:Q2):Q2:=red (p.1*q.2 - q.1*p.2) (p.2*q.2)
def over (p q:Q2):Q2:=red (p.1*q.2) (p.2*q.1)
theorem mul_ne {a b:Int}(ha:1≤a)(hb:1≤b):a*b≠0:=by
 have:=Int.mul_pos (show 0 < a by omega) (show 0 < b by omega)
 omega
theorem plus_low {p q:Q2}(hp:1≤p.2)(hq:1≤q.2):Low (plus p q):=red_low (mul_ne hp hq)
def B (n:Nat)(i:Int):Prop:=i.natAbs < 2 ^ n
structure Bd (n:Nat) (p:Q2):Prop where
 a:B n p.1
 b:B n p.2
theorem B.mono {n m:Nat}{i:Int}(h:B n i)(l:n≤m):B m i:=Nat.lt_of_lt_of_le h (Nat.pow_le_pow_right (by decide) l)
theorem B.mul {n m:Nat}{i j:Int}(h:B n i)(q:B m j):B (n+m) (i*j):=by
 unfold B at *
 rw[Int.natAbs_mul,Nat.pow_add]
 exact Nat.mul_lt_mul'' h q
theorem B.add {n:Nat}{i j:Int}(h:B n i)(q:B n j):B (n+1) (i+j):=by
 unfold B at *
 have:=Int.natAbs_add_le i j
 rw[Nat.pow_succ];omega
theorem B.neg {n:Nat}{i:Int}(h:B n i):B n (-i):=by unfold B at *;omega
theorem B.sub {n:Nat}{i j:Int}(h:B n i)(q:B n j):B (n+1) (i - j):=by
 rw[Int.sub_eq_add_neg];exact h.add q.neg
theorem B.le {n:Nat}{i j:Int}(h:B n i)(l:j.natAbs≤i.natAbs):B n j:=Nat.lt_of_le_of_lt l h
theorem Bd.mono {n m:Nat}{p:Q2}(h:Bd n p)(l:n≤m):Bd m p:=⟨h.a.mono l,h.b.mono l⟩
theorem plus_bd {n m:Nat}{p q:Q2}(h:Bd n p)(g:Bd m q)(hp:1≤p.2)(hq:1≤q.2):Bd (n+m+1) (plus p q):=by
 have k:=red_le (t:=p.1*q.2+q.1*p.2) (mul_ne hp hq)
 have a2:B (n+m) (q.1*p.2):=by rw[Nat.add_comm];exact g.a.mul h.b
 exact⟨((h.a.mul g.b).add a2).le k.1,((h.b.mul g.b).mono (Nat.le_succ _)).le k.2⟩
def Pos (l:List Q2):Prop:=∀f∈l,1≤f.2
end Mq
namespace L2
open PySem PySem.Spec PyProof.Rows
structure FunD (K:PySem.W.Frag) (x qual:Str) (st:Stmt) (dV:Value) (f:Addr) (fd:FuncData):Prop where
 ex:∃(oc:Value) (od:Option Addr) (kV doc pm:Value) (an:Option Addr) (cdv ct:Value) (osl:Array (Option Value)),
  fd=PySem.W.fnOf x qual (defArgs st) (defBody st) (defScope st) dV kV doc pm an cdv ct∧K.lookup f=some ⟨oc,od,.func fd,osl⟩∧PySem.W.codeIn K cdv qual=true
 kp:PySem.W.keepIn K (.ref f)=true
section
variable {P:Program} {w:World} {K:PySem.W.Frag} {mg:Str→Option Value} {base:Heap} {CX:CXT}
theorem FunD.okX {x qual:Str}{st:Stmt}{dV:Value}{f:Addr}{fd:FuncData}{N ps:List Str}{k:Nat}{sp:Sp}(F:FunD K x qual st dV f fd)(S:FnScope N ps (defScope st))(len:∀vs H Q E,sp vs H Q E→vs.length=ps.length)(hbody:∀(cdv:Value) (A:Around) (outer:List Env) (s:Shared) (H:Hp) (vs:List V) (Q:VK) (E:XK),Room k (A.deeper (envOfC qual (defScope st) s.heap.objs.size f cdv))→sp vs H Q E→
   ∃t,PSs (cxOf CX P w K mg base N qual (defScope st) f cdv A outer s H E) (defBody st) t∧t { nx:=fun _ H'=>Q .non H',rt:=Q } (start N vs) H):FnOk P w K mg base CX (k+1) f fd ps sp:=by
 obtain⟨oc,od,kV,doc,pm,an,cdv,ct,osl,rfl,lk,hcd⟩:=F.ex
 exact fn_of lk hcd S len fun A outer s H vs Q E hr hsp=>hbody cdv A outer s H vs Q E hr hsp
theorem FunD.ok {x qual:Str}{st:Stmt}{dV:Value}{f:Addr}{fd:FuncData}{N ps:List Str}{k:Nat}{sp:Sp}(F:FunD K x qual st dV f fd)(S:FnScope N ps (defScope st))(len:∀vs H Q E,sp vs H Q E→vs.length=ps.length)(hbody:∀(cdv:Value) (A:Around) (outer:List Env) (s:Shared) (H:Hp) (vs:List V) (Q:VK) (E:XK),Room k (A.deeper (envOfC qual (defScope st) s.heap.objs.size f cdv))→sp vs H Q E→
   ∃t,PSs (cxOf CX P w K mg base N qual (defScope st) f cdv A outer s H E).nox (defBody st) t∧t { nx:=fun _ H'=>Q .non H',rt:=Q } (start N vs) H):FnOk P w K mg base CX (k+1) f fd ps sp:=
 F.okX S len fun cdv A outer s H vs Q E hr hsp=>by
  obtain⟨t,h,q⟩:=hbody cdv A outer s H vs Q E hr hsp
  exact⟨t,h.nox,q⟩
theorem FunD.binds {x qual:Str}{st:Stmt}{dV:Value}{f:Addr}{fd:FuncData}{ps:List Str}(F:FunD K x qual st dV f fd)(h:∀(kV doc pm:Value) (an:Option Addr) (cdv ct:Value) (us:List Value),us.length=ps.length→bindArgs (PySem.W.fnOf x qual (defArgs st) (defBody st) (defScope st) dV kV doc pm an cdv ct) ⟨us,[]⟩=pure (ps.zip us)):Binds K fd ps []:=by
 obtain⟨oc,od,kV,doc,pm,an,cdv,ct,osl,rfl,lk,hcd⟩:=F.ex
 exact .all (h kV doc pm an cdv ct)
theorem fund_mk {x qual:Str}{st:Stmt}{dV:Value}{f:Addr}{oc:Value}{od an:Option Addr}{osl:Array (Option Value)}{kV doc pm cdv ct:Value}(l:K.lookup f=some ⟨oc,od,.func (PySem.W.fnOf x qual (defArgs st) (defBody st) (defScope st) dV kV doc pm an cdv ct),osl⟩)(c:PySem.W.codeIn K cdv qual=true)(k:PySem.W.keepIn K (.ref f)=true):FunD K x qual st dV f (PySem.W.fnOf x qual (defArgs st) (defBody st) (defScope st) dV kV doc pm an cdv ct):=⟨⟨oc,od,kV,doc,pm,an,cdv,ct,osl,rfl,l,c⟩,k⟩
end
abbrev fT (p:Mq.Q2):HO:=.tup [.int p.1,.int p.2]
def Fq (K:PySem.W.Frag)(H:Hp)(a:Addr)(p:Mq.Q2):Prop:=SqT K H a [.int p.1,.int p.2]
theorem Same.seqT {K:PySem.W.Frag}{H H':Hp}{a:Addr}{xs:List V}(e:Same H H')(h:SqT K H a xs):SqT K H' a xs:=by
 rcases h with (h | ⟨o,h⟩) | h
 ·exact .inl (.inl (e _ _ h))
 ·exact .inl (.inr ⟨o,e _ _ h⟩)
 ·exact .inr h
theorem same_new {H:Hp}{p:Addr}(h:H p=none)(o:HO):Same H (upd H p o):=fun b u q=>by rw[upd_ne (ne_of_none q h)];exact q
theorem Same.fq {K:PySem.W.Frag}{H H':Hp}{a:Addr}{p:Mq.Q2}(e:Same H H')(h:Fq K H a p):Fq K H' a p:=e.seqT h
theorem Fq.of {K:PySem.W.Frag}{H:Hp}{a:Addr}{p:Mq.Q2}(h:H a=some (fT p)):Fq K H a p:=SqT.of h
theorem rd_ix0 {K:PySem.W.Frag}{σ:St}{H:Hp}{i:Nat}{a:Addr}{p:Mq.Q2}{Q:VK}(hv:σ[i]?=some (some (.ref a)))(h:Fq K H a p)(q:Q (.int p.1) H):tOp (rIxT K) (tVar i) (tC (.int 0)) σ H Q:=
 ⟨_,hv,a,_,_,_,rfl,rfl,h,rfl,q⟩
theorem rd_ix1 {K:PySem.W.Frag}{σ:St}{H:Hp}{i:Nat}{a:Addr}{p:Mq.Q2}{Q:VK}(hv:σ[i]?=some (some (.ref a)))(h:Fq K H a p)(q:Q (.int p.2) H):tOp (rIxT K) (tVar i) (tC (.int 1)) σ H Q:=
 ⟨_,hv,a,_,_,_,rfl,rfl,h,rfl,q⟩
theorem rd_mulB {H:Hp}{n m:Nat}{i j:Int}{Q:VK}(h1:Mq.B n i)(h2:Mq.B m j)(h3:n≤1048576)(h4:m≤1048576)(q:Q (.int (i*j)) H):rI CBig (fun i j=>.int (i*j)) (.int i) (.int j) H Q:=
 ⟨_,_,rfl,rfl,⟨n,m,h1,h2,h3,h4⟩,q⟩
theorem rd_fdivB {H:Hp}{n:Nat}{i j:Int}{Q:VK}(h1:j≠0)(h2:Mq.B n j)(h3:n≤9000)(q:Q (.int (i.fdiv j)) H):rI CDivB (fun i j=>.int (i.fdiv j)) (.int i) (.int j) H Q:=
 ⟨_,_,rfl,rfl,⟨h1,n,h2,h3⟩,q⟩
structure Bl (mg:Str→Option Value):Prop where
 isi:mg "isinstance"=none
 int:mg "int"=none
 bool:mg "bool"=none
 abs:mg "abs"=none
def NotWhole (t:Value):Prop:=t=.type "bool"∨t=.type "str"∨t=.type "NoneType"∨t=.type "tuple"∨t=.type "list"
def spWhole (K:PySem.W.Frag):Sp:=fun vs H Q _=>∃x,vs=[x]∧((∃i,x=.int i∧Q (.bl true) H)∨(∃t,TyOf K H x t∧NotWhole t∧Q (.bl false) H))
def spGc:Sp:=fun vs H Q _=>∃a b:Int,vs=[.int a,.int b]∧Q (.int (Mq.gc a b)) H
def NewF (H:Hp)(Q:VK)(p:Mq.Q2):Prop:=∀a H',Same H H'→H' a=some (fT p)→Q (.ref a) H'
def spFrac:Sp:=fun vs H Q _=>∃(t b:Int) (n:Nat),vs=[.int t,.int b]∧b≠0∧Mq.B n b∧n≤9000∧NewF H Q (Mq.red t b)
def spTwo (K:PySem.W.Frag)(f:Mq.Q2→Mq.Q2→Mq.Q2):Sp:=fun vs H Q _=>∃(a b:Addr) (p q:Mq.Q2) (n m:Nat),vs=[.ref a,.ref b]∧Fq K H a p∧Fq K H b q∧1≤p.2∧1≤q.2∧Mq.Bd n p∧Mq.Bd m q∧n+m+1≤9000∧NewF H Q (f p q)
inductive Fqs (K:PySem.W.Frag) (H:Hp):List V→List Mq.Q2→Prop where
 |nil:Fqs K H [] []
 |cons {a:Addr} {p:Mq.Q2} {xs:List V} {ps:List Mq.Q2} (h:Fq K H a p) (q:Fqs K H xs ps):Fqs K H (.ref a :: xs) (p :: ps)
theorem Fqs.same {K:PySem.W.Frag}{H H':Hp}(e:Same H H'):∀{xs:List V} {ps:List Mq.Q2},Fqs K H xs ps→Fqs K H' xs ps
 |_,_,.nil=>.nil
 |_,_,.cons h q=>.cons (e.fq h) (Fqs.same e q)
theorem Fqs.length {K:PySem.W.Frag}{H:Hp}:∀{xs:List V} {ps:List Mq.Q2},Fqs K H xs ps→xs.length=ps.length
 |_,_,.nil=>rfl
 |_,_,.cons _ q=>by simp[Fqs.length q]
theorem Fqs.get {K:PySem.W.Frag}{H:Hp}:∀{xs:List V} {ps:List Mq.Q2} {i:Nat} {x:V},Fqs K H xs ps→xs[i]?=some x→∃a p,x=.ref a∧ps[i]?=some p∧Fq K H a p
 |_,_,_,_,.nil,h=>by simp at h
 |_,_,0,_,.cons h _,e=>by simp at e;exact⟨_,_,e.symm,rfl,h⟩
 |_,_,i+1,_,.cons _ q,e=>by simpa using Fqs.get q (by simpa using e)
theorem Fqs.app {K:PySem.W.Frag}{H:Hp}:∀{xs ys:List V} {ps qs:List Mq.Q2},Fqs K H xs ps→Fqs K H ys qs→Fqs K H (xs++ys) (ps++qs)
 |_,_,_,_,.nil,r=>r
 |_,_,_,_,.cons h q,r=>.cons h (Fqs.app q r)
theorem Fqs.take {K:PySem.W.Frag}{H:Hp}:∀{xs:List V} {ps:List Mq.Q2} (n:Nat),Fqs K H xs ps→Fqs K H (xs.take n) (ps.take n)
 |_,_,_,.nil=>by simp;exact .nil
 |_,_,0,.cons _ _=>.nil
 |_,_,n+1,.cons h q=>.cons h (Fqs.take n q)
theorem Fq.upd {K:PySem.W.Frag}{H:Hp}{a l:Addr}{p:Mq.Q2}{xs:List V}{o:HO}(h:Fq K H a p)(hl:H l=some (.lst xs)):Fq K (L2.upd H l o) a p:=by
 rcases h with (h | ⟨u,h⟩) | h
 ·exact .inl (.inl (by rw[upd_ne (ne_of h hl (fun z=>by cases z))];exact h))
 ·exact .inl (.inr ⟨u,by rw[upd_ne (ne_of h hl (fun z=>by cases z))];exact h⟩)
 ·exact .inr h
theorem Fqs.upd {K:PySem.W.Frag}{H:Hp}{l:Addr}{ys:List V}{o:HO}(hl:H l=some (.lst ys)):∀{xs:List V} {ps:List Mq.Q2},Fqs K H xs ps→Fqs K (L2.upd H l o) xs ps
 |_,_,.nil=>.nil
 |_,_,.cons h q=>.cons (h.upd hl) (Fqs.upd hl q)
theorem Same.change {H H':Hp}{l:Addr}{o:HO}(s:Same H H')(h:H l=none):Same H (L2.upd H' l o):=fun b u q=>by
 rw[upd_ne (ne_of_none q h)];exact s b u q
def qd (p:Mq.Q2):PyData:=.tuple [.int p.1,.int p.2]
theorem Fq.dat {K:PySem.W.Frag}{H:Hp}{a:Addr}{p:Mq.Q2}(h:Fq K H a p):DatV K H (.ref a) (qd p):=.tup h (.cons (.int _) (.cons (.int _) .nil))
theorem Fqs.dat {K:PySem.W.Frag}{H:Hp}:∀{xs:List V} {ps:List Mq.Q2},Fqs K H xs ps→DatVs K H xs (ps.map qd)
 |_,_,.nil=>.nil
 |_,_,.cons h q=>.cons h.dat (Fqs.dat q)
theorem qd_lay (p:Mq.Q2):(qd p).canLay0=true:=rfl
theorem qds_lay:∀ps:List Mq.Q2,PyData.canLayAll0 (ps.map qd)=true
 | []=>rfl
 |p :: r=>by
  show ((qd p).canLay0 && PyData.canLayAll0 (r.map qd))=true
  rw[qd_lay,qds_lay r];rfl
theorem qd_depth (p:Mq.Q2):(qd p).depth≤1:=by simp[qd,PyData.depth,PyData.depthAll]
theorem qds_depth:∀ps:List Mq.Q2,PyData.depthAll (ps.map qd)≤1
 | []=>by simp[PyData.depthAll]
 |p :: r=>by
  have a:=qd_depth p
  have b:=qds_depth r
  simp only[List.map_cons,PyData.depthAll]
  omega
theorem list_depth (ps:List Mq.Q2):(PyData.list (ps.map qd)).depth≤2:=by
 have:=qds_depth ps
 simp only[PyData.depth];omega
theorem qd_eqv (p q:Mq.Q2):PyData.eqv (qd p) (qd q)=decide (p=q):=by
 unfold qd
 simp only[PyData.eqv,PyData.eqvAll]
 by_cases h:p=q
 ·subst h;simp
 ·rw[decide_eq_false h]
  by_cases h1:p.1=q.1
  ·have h2:p.2≠q.2:=fun z=>h (Prod.ext h1 z)
   simp[h2]
  ·simp[h1]
theorem rd_eqF {K:PySem.W.Frag}{H:Hp}{a b:Addr}{p q:Mq.Q2}{neg:Bool}{Q:VK}(h1:Fq K H a p)(h2:Fq K H b q)(z:Q (.bl (if neg then !decide (p=q) else decide (p=q))) H):rDat K neg (.ref a) (.ref b) H Q:=by
 refine⟨_,_,h1.dat,h2.dat,qd_lay p,qd_lay q,?_,?_⟩
 ·have:=qd_depth p;omega
 ·rw[qd_eqv];exact z
theorem rd_eqL {K:PySem.W.Frag}{H:Hp}{a b:Addr}{xs ys:List V}{ps:List Mq.Q2}{neg:Bool}{Q:VK}(h1:SqL K H a xs)(h2:SqL K H b ys)(f1:Fqs K H xs ps)(f2:Fqs K H ys ps)(z:Q (.bl (!neg)) H):rDat K neg (.ref a) (.ref b) H Q:=by
 refine⟨_,_,.lst h1 f1.dat,.lst h2 f2.dat,?_,?_,?_,?_⟩
 ·exact qds_lay ps
 ·exact qds_lay ps
 ·have:=list_depth ps;omega
 ·have e:PyData.eqv (.list (ps.map qd)) (.list (ps.map qd))=true:=PySem.SeqAt.eqv_refl _ (qds_lay ps)
  rw[e]
  cases neg<;>exact z
end L2
set_option maxHeartbeats 2000000
namespace L2
open PySem PySem.Spec PyProof.Rows
abbrev CompT (nl:Nat)(fr:List Nat)(g:TG)(tt:TT)(te:TE)(σ:St)(D:Addr)(Pv:Nat→List V→Hp→Prop)(i:Nat)(ys:List V)(x:V)(H:Hp):Prop:=
 g x (σC nl fr σ) H fun σ2 H4=>σ2.length=(σC nl fr σ).length∧(∀(i:Nat) v,(σC nl fr σ)[i]?=some (some v)→σ2[i]?=some (some v))∧
  tt σ2 H4 fun b H5=>if b=true then te σ2 H5 fun y H6=>H6 D=some (.lst ys)∧ys.length < sizeLine∧Pv (i+1) (ys++[y]) (upd H6 D (.lst (ys++[y]))) else Pv (i+1) ys H5
section
variable {nl:Nat} {fr:List Nat} {g:TG} {tt:TT} {te:TE} {σ:St} {D:Addr} {H1:Hp} {Q:VK}
theorem comp_range {lo:Int}{n:Nat}(Pv:Nat→List V→Hp→Prop)(h0:Pv 0 [] (upd H1 D (.lst [])))(hl:∀i ys H,Pv i ys H→H D=some (.lst ys))(hs:∀i ys H,i < n→Pv i ys H→∀(C:Nat→List V→Hp→Prop),(∀ys H,Pv (i+1) ys H→C (i+1) ys H)→CompT nl fr g tt te σ D C i ys (.int (lo+i)) H)(hd:∀ys H,Pv n ys H→Q (.ref D) H) :
  CompW (Itr lo n) nl fr g tt te σ D H1 Q:=by
 refine⟨fun i m ys H=>m=n - i∧i≤n∧Pv i ys H,⟨n,by simp,Nat.zero_le _,h0⟩,?_⟩
 rintro i m ys H ⟨rfl,hi,p⟩
 refine⟨hl i ys H p,?_⟩
 by_cases hlt:i < n
 ·refine .inr ⟨hlt,fun x H' y=>?_⟩
  obtain⟨e,y⟩:=y
  subst e y
  exact hs i ys _ hlt p (fun j zs Hz=>∃m',m' < n - i∧m'=n - j∧j≤n∧Pv j zs Hz) fun zs Hz z=>⟨n - (i+1),by omega,rfl,hlt,z⟩
 ·have e:i=n:=by omega
  subst e
  exact .inl ⟨Nat.le_refl _,hd ys H p⟩
theorem comp_list {K:PySem.W.Frag}{a:Addr}{xs:List V}(Pv:Nat→List V→Hp→Prop)(h0:Pv 0 [] (upd H1 D (.lst [])))(hl:∀i ys H,Pv i ys H→H D=some (.lst ys))(hx:∀i ys H,i≤xs.length→Pv i ys H→SqL K H a xs)(hs:∀i ys x H,xs[i]?=some x→Pv i ys H→∀(C:Nat→List V→Hp→Prop),(∀ys H,Pv (i+1) ys H→C (i+1) ys H)→CompT nl fr g tt te σ D C i ys x H)(hd:∀ys H,Pv xs.length ys H→Q (.ref D) H) :
  CompW (Itl K a) nl fr g tt te σ D H1 Q:=by
 refine⟨fun i m ys H=>m=xs.length - i∧i≤xs.length∧Pv i ys H,⟨xs.length,by simp,Nat.zero_le _,h0⟩,?_⟩
 rintro i m ys H ⟨rfl,hi,p⟩
 refine⟨hl i ys H p,?_⟩
 have q:=hx i ys H hi p
 by_cases hlt:i < xs.length
 ·refine .inr ⟨⟨xs,xs[i],q,by simp[hlt]⟩,fun x H' y=>?_⟩
  obtain⟨e,y⟩:=y
  subst e
  exact hs i ys x _ (y xs q) p (fun j zs Hz=>∃m',m' < xs.length - i∧m'=xs.length - j∧j≤xs.length∧Pv j zs Hz) fun zs Hz z=>⟨xs.length - (i+1),by omega,rfl,hlt,z⟩
 ·have e:i=xs.length:=by omega
  subst e
  exact .inl ⟨⟨xs,q,Nat.le_refl _⟩,hd ys H p⟩
end
theorem keep1 {fr:List Nat}{σ:St}{x:V}:((σC 1 fr σ).set 0 (some x)).length=(σC 1 fr σ).length∧∀(i:Nat) v,(σC 1 fr σ)[i]?=some (some v)→((σC 1 fr σ).set 0 (some x))[i]?=some (some v):=by
 refine⟨by simp,fun i v h=>?_⟩
 match i with
 |0=>unfold σC at h;simp at h
 |k+1=>rw[List.getElem?_set_ne (by omega)];exact h
theorem has_of {names:List (Str × NameKind)}{cl:List (Str × Addr)}(h:names.all (fun y=>!(y.2 == .cell || y.2 == .free) || (cl.lookup y.1).isSome)=true)(x:Str)(hx:names.lookup x=some .cell∨names.lookup x=some .free):∃c,cl.lookup x=some c:=by
 have key:∀k,(k=NameKind.cell∨k=NameKind.free)→names.lookup x=some k→∃c,cl.lookup x=some c:=fun k hk e=>by
  have m:=List.all_eq_true.mp h _ (PySem.mem_of_lookup e)
  have:(k == NameKind.cell || k == NameKind.free)=true:=by rcases hk with rfl | rfl<;>rfl
  simp only[this,Bool.not_true,Bool.false_or] at m
  exact Option.isSome_iff_exists.mp m
 rcases hx with e | e
 ·exact key _ (.inl rfl) e
 ·exact key _ (.inr rfl) e
section
variable {X:Cx} {pins:List (Addr × Obj)} {σ:St} {H:Hp} {s:Shared} {h':Heap}
theorem Inv.turnedL {t':Nat}{fp:List Addr}(I:Inv X pins σ H s)(k:∀b o,b∉fp→s.heap.get? b=some o→h'.get? b=some o)(hf:∀b∈fp,FpOk X pins H b):Inv X pins σ H { s with heap:=h',toks:=t' }:=by
 have nit:∀b u,H b=some u→b∉fp:=fun b u e z=>by rw[(hf b z).1] at e;cases e
 have nL:X.env.locals∉fp:=fun z=>(hf _ z).2.1 rfl
 refine I.step (g':=s.gens) (d':=s.drawn) (ch:=fp) (fun b hb=>?_) (fun b o _ _ hc e _=>k b o hc e) (fun b o _ _ hc e _=>⟨o.slots,k b o hc e⟩) (fun _ _ _ _ n=>n)
  (fun b o hc e=>⟨o,k b o hc e⟩) (fun _ _ e=>e) (fun _ _ _ e=>e) (fun b ps e=>⟨#[],by rw[e];simp⟩) (fun m hm=>?_) (fun b u e=>?_) I.bare
 ·obtain⟨f0,f1,f2,f3,f4,f5⟩:=hf b hb
  exact⟨f3,f1,f4,f5⟩
 ·obtain⟨o,es,ep,ho,r⟩:=hm
  exact⟨o,es,ep,k _ o nL ho,r⟩
 ·refine(I.hok b u e).stay (fun c v hc q=>k c v ?_ q) (fun _ q=>q) fun _ _ q=>q
  rcases hc with z | z
  ·rw[z];exact nit b u e
  ·exact nit c _ z
end
def Itz (K : PySem.W.Frag)(a b : Addr) : It :=
  ⟨fun i H => ∃ xs ys x y, SqL K H a xs ∧ SqL K H b ys ∧ xs[i]? = some x ∧ ys[i]? = some y,
   fun i H v H' => ∃ T x y, v = .ref T ∧ H T = none ∧ H' = upd H T (.tup [x, y]) ∧ ∀ xs ys, SqL K H a xs → SqL K H b ys → xs[i]? = some x ∧ ys[i]? = some y,
   fun i H => ∃ xs ys, SqL K H a xs ∧ SqL K H b ys ∧ (xs.length ≤ i ∨ ys.length ≤ i)⟩
def ZipTn (z TI TO i1 i2 l1 l2:Addr)(i:Nat)(h:Heap):Prop:=
 ZipApart z TI TO i1 i2 l1 l2∧IsZip h z TI TO .none∧IsPair h TI (.ref i1) (.ref i2)∧(∃a b,IsPair h TO a b)∧h.IsListIter i1 l1 i∧h.IsListIter i2 l2 i
theorem turn_zip {P:Program}{w:World}{K:PySem.W.Frag}{elts:List Expr}{kk:Nat}{tpos:Pos}(z TI TO i1 i2 l1 l2:Addr) :
  Turn P w K (.Tuple elts kk tpos) (Itz K l1 l2) [z,TI,TO,i1,i2] z (ZipTn z TI TO i1 i2 l1 l2) where
 mem:=by simp
 obj:=fun i h st b hb=>by
  obtain⟨ap,hz,hi,⟨a,c,ho⟩,⟨o1,e1,c1,d1⟩,⟨o2,e2,c2,d2⟩⟩:=st
  simp only[List.mem_cons,List.not_mem_nil,or_false] at hb
  rcases hb with rfl | rfl | rfl | rfl | rfl
  ·exact⟨_,hz,fun v q=>by cases q⟩
  ·exact⟨_,hi,fun v q=>by cases q⟩
  ·exact⟨_,ho,fun v q=>by cases q⟩
  ·exact⟨o1,e1,fun v q=>by rw[d1] at q;cases q⟩
  ·exact⟨o2,e2,fun v q=>by rw[d2] at q;cases q⟩
 keep:=fun i h h' st k=>by
  obtain⟨ap,hz,hi,⟨a,c,ho⟩,⟨o1,e1,c1,d1⟩,⟨o2,e2,c2,d2⟩⟩:=st
  exact⟨ap,k _ (by simp) _ hz,k _ (by simp) _ hi,⟨a,c,k _ (by simp) _ ho⟩,⟨o1,k _ (by simp) _ e1,c1,d1⟩,⟨o2,k _ (by simp) _ e2,c2,d2⟩⟩
 item:=by
  intro X hP hw hK hc i pins s σ H E I hf st hg
  subst hP hw hK
  obtain⟨ap,hz,hi,⟨a,c,ho⟩,t1,t2⟩:=st
  obtain⟨xs,ys,x,y,hx,hy,ex,ey⟩:=hg
  obtain⟨its1,rv1,p1,z1⟩:=I.list hx
  obtain⟨its2,rv2,p2,z2⟩:=I.list hy
  obtain⟨u1,hu1,ru1⟩:=rv1.get ex
  obtain⟨u2,hu2,ru2⟩:=rv2.get ey
  refine wpAny_pyNext_zip_item ap hz hi ho t1 t2 p1.isList p2.isList (x:=u1) (y:=u2) (by simpa using hu1) (by simpa using hu2) fun h' g1 g2 g3 g4 g5 g6 kk'=>?_
  have hn:H s.heap.objs.size=none:=I.hok.fresh (Nat.le_refl _)
  have lt:∀b∈[z,TI,TO,i1,i2],b < s.heap.objs.size:=fun b hb=>by
   simp only[List.mem_cons,List.not_mem_nil,or_false] at hb
   obtain⟨o1,e1,_⟩:=t1
   obtain⟨o2,e2,_⟩:=t2
   rcases hb with rfl | rfl | rfl | rfl | rfl
   ·exact Heap.lt_size hz
   ·exact Heap.lt_size hi
   ·exact Heap.lt_size ho
   ·exact Heap.lt_size e1
   ·exact Heap.lt_size e2
  have I1:Inv X pins σ (upd H s.heap.objs.size (.tup [x,y])) { s with heap:=s.heap.push { cls:=.type "tuple",data:=.seq #[u1,u2] } }:=
   I.laid (t':=s.toks) (fun b o e=>Heap.get?_push_of_some _ e) (Nat.le_refl _) (show ObjOk X.prog X.w _ _ _ (.tup [x,y]) from ⟨by show 2≤sizeLine;decide,[u1,u2],.cons ru1 (.cons ru2 .nil),IsTup.new _ _⟩)
  have hf1:∀b∈[z,TI,TO,i1,i2],FpOk X pins (upd H s.heap.objs.size (.tup [x,y])) b:=fun b hb=>⟨by rw[upd_ne (Nat.ne_of_lt (lt b hb))];exact(hf b hb).1,(hf b hb).2⟩
  have k1:∀b o,b∉[z,TI,TO,i1,i2]→(s.heap.push { cls:=.type "tuple",data:=.seq #[u1,u2] }).get? b=some o→h'.get? b=some o:=fun b o nb e=>by
   simp only[List.mem_cons,List.not_mem_nil,or_false,not_or] at nb
   by_cases hb:b=s.heap.objs.size
   ·subst hb
    rw[Heap.get?_push_size _ rfl] at e
    cases e
    exact g5
   ·have e0:s.heap.get? b=some o:=by rw[Heap.get?_push_ne _ _ _ hb] at e;exact e
    exact kk' b o nb.1 nb.2.2.1 nb.2.2.2.1 nb.2.2.2.2 e0
  have I2:Inv X pins σ (upd H s.heap.objs.size (.tup [x,y])) { s with heap:=h',toks:=s.toks }:=I1.turnedL (t':=s.toks) k1 hf1
  refine⟨_,rfl,wpAny_letOwnedTupleGo_zip (s:={ s with heap:=h' }) g1 fun h2 q1 q2=>?_⟩
  have kz:∀b o,b≠z→h'.get? b=some o→h2.get? b=some o:=fun b o nb e=>(q2.2 b nb).trans e
  have I3:Inv X pins σ (upd H s.heap.objs.size (.tup [x,y])) { s with heap:=h2,toks:=s.toks }:=Inv.turnedL (s:={ s with heap:=h',toks:=s.toks }) (t':=s.toks) (fp:=[z]) I2 (fun b o nb e=>kz b o (by simpa using nb) e) fun b hb=>hf1 b (by simp at hb;simp[hb])
  have hTI:h'.get? TI=some { cls:=.type "tuple",data:=.seq #[.ref i1,.ref i2] }:=kk' TI _ ap.TIz ap.TITO ap.TIi1 ap.TIi2 hi
  obtain⟨o3,e3,c3,d3⟩:=g3
  obtain⟨o4,e4,c4,d4⟩:=g4
  refine⟨.ref s.heap.objs.size,_,I3,rfl,⟨_,x,y,rfl,hn,rfl,fun xs' ys' h1 h2=>?_⟩,⟨ap,q1,kz _ _ ap.TIz hTI,⟨_,_,kz _ _ ap.TOz g2⟩,⟨o3,kz _ _ ap.i1z e3,c3,d3⟩,⟨o4,kz _ _ ap.i2z e4,c4,d4⟩⟩,fun b hb=>(hf1 b hb).1⟩
  rw[I.list_inj h1 hx,I.list_inj h2 hy]
  exact⟨ex,ey⟩
 done:=by
  intro X hP hw hK hc i pins s σ H E I hf st hg
  subst hP hw hK
  obtain⟨ap,hz,hi,⟨a,c,ho⟩,t1,t2⟩:=st
  obtain⟨xs,ys,hx,hy,hor⟩:=hg
  obtain⟨its1,rv1,p1,z1⟩:=I.list hx
  obtain⟨its2,rv2,p2,z2⟩:=I.list hy
  have l1':=rv1.length
  have l2':=rv2.length
  refine wpAny_pyNext_zip_end (I.ok.hd hc) ap hz hi ho t1 t2 p1.isList p2.isList (by rcases hor with h | h;left;simp;omega;right;simp;omega) fun h' kk'=>⟨rfl,?_⟩
  refine I.turnedL (t':=s.toks) (fun b o nb e=>?_) hf
  simp only[List.mem_cons,List.not_mem_nil,or_false,not_or] at nb
  exact kk' b o nb.1 nb.2.2.1 nb.2.2.2.1 nb.2.2.2.2 e
 self:=fun A i s Q E st h=>by
  obtain⟨ap,hz,hi,⟨a,c,ho⟩,t1,t2⟩:=st
  exact wpAny_pyIter_zip hz h
section
variable {X:Cx}
def iZip (K:PySem.W.Frag)(ta:TA):TI:=fun σ H R=>ta σ H fun vs H1=>∃a b,vs=[.ref a,.ref b]∧(∃xs,SqL K H1 a xs)∧(∃ys,SqL K H1 b ys)∧R (Itz K a b) H1
theorem pi_zip {e1 e2:Expr}{ta:TA}{p pos:Pos}{elts:List Expr}{kk:Nat}{tpos:Pos}(hg:Gl X "zip")(hm:X.mg "zip"=none)(hv:bootBuiltins "zip"=some (.type "zip"))(ha:PA X [e1,e2] ta)(hs:starEach [e1,e2] X.env=(false,eval e1 X.env) :: starEach [e2] X.env:=by rfl)(hpl:(backTo pos (starEach [e2] X.env)).any (·.1)=false:=by rfl):PI X (.Tuple elts kk tpos) (.Call (.Name "zip" p) [e1,e2] [] pos) (iZip X.K ta):=by
 intro pins s σ H R I h
 refine Call_ (ld_blt I hg hm hv (PyProof.Rows.callWith_type1 (thn (ha pos pins s σ H _ I h) fun us s1 ⟨vs,H1,I1,r1,q1⟩=>?_) hs hpl))
 obtain⟨a,b,rfl,⟨xs,hx⟩,⟨ys,hy⟩,q⟩:=q1
 obtain⟨u,w',rfl,ra,rb⟩:=vals2 r1
 cases (show u=Value.ref a from ra)
 cases (show w'=Value.ref b from rb)
 obtain⟨its1,rv1,p1,z1⟩:=I1.list hx
 obtain⟨its2,rv2,p2,z2⟩:=I1.list hy
 have la:a < s1.heap.objs.size:=by obtain⟨o,e,_⟩:=p1.isList;exact Heap.lt_size e
 have lb:b < s1.heap.objs.size:=by obtain⟨o,e,_⟩:=p2.isList;exact Heap.lt_size e
 refine call_zip_2 p1.isList p2.isList fun h' g1 g2 g3 g4 g5 g6 kk'=>?_
 refine wpAny_pyIter_zip g1 ?_
 have ne:∀i j:Nat,i≠j→s1.heap.objs.size+i≠s1.heap.objs.size+j:=fun i j n e=>n (Nat.add_left_cancel e)
 have nl:∀(c:Addr) (i:Nat),c < s1.heap.objs.size→c≠s1.heap.objs.size+i:=fun c i l e=>absurd (Nat.lt_of_lt_of_le l (Nat.le_add_right _ i)) (by rw[← e];exact Nat.lt_irrefl _)
 have n0:∀j:Nat,j≠0→s1.heap.objs.size+j≠s1.heap.objs.size:=fun j n e=>n (Nat.add_left_cancel (e.trans (Nat.add_zero _).symm))
 refine⟨s1.heap.objs.size+4,[s1.heap.objs.size+4,s1.heap.objs.size+2,s1.heap.objs.size+3,s1.heap.objs.size,s1.heap.objs.size+1],_,Itz X.K a b,H1,rfl,I1.kept (t':=s1.toks) kk',turn_zip _ _ _ _ _ a b,⟨?_,g1,g2,⟨_,_,g3⟩,g4,g5⟩,fun c hc=>?_,q⟩
 ·exact⟨ne 2 4 (by decide),ne 3 4 (by decide),(n0 4 (by decide)).symm,ne 1 4 (by decide),ne 2 3 (by decide),n0 2 (by decide),ne 2 1 (by decide),n0 3 (by decide),ne 3 1 (by decide),(n0 1 (by decide)).symm,
   nl a 4 la,nl a 3 la,Nat.ne_of_lt la,nl a 1 la,nl b 4 lb,nl b 3 lb,Nat.ne_of_lt lb,nl b 1 lb⟩
 ·have hle:s1.heap.objs.size≤c:=by
   simp only[List.mem_cons,List.not_mem_nil,or_false] at hc
   rcases hc with rfl | rfl | rfl | rfl | rfl<;>first | exact Nat.le_add_right _ _ | exact Nat.le_refl _
  exact I1.fpOk hle (I1.hok.fresh hle)
theorem comp_zip {K:PySem.W.Frag}{a b:Addr}{xs ys:List V}{nl:Nat}{fr:List Nat}{g:TG}{tt:TT}{te:TE}{σ:St}{D:Addr}{H1:Hp}{Q:VK}(Pv:Nat→List V→Hp→Prop)(h0:Pv 0 [] (upd H1 D (.lst [])))(hl:∀i zs H,Pv i zs H→H D=some (.lst zs))(hx:∀i zs H,i≤min xs.length ys.length→Pv i zs H→SqL K H a xs∧SqL K H b ys)(hs:∀i zs x y H T,xs[i]?=some x→ys[i]?=some y→Pv i zs H→H T=none→∀(C:Nat→List V→Hp→Prop),(∀zs H,Pv (i+1) zs H→C (i+1) zs H)→CompT nl fr g tt te σ D C i zs (.ref T) (upd H T (.tup [x,y])))(hd:∀zs H,Pv (min xs.length ys.length) zs H→Q (.ref D) H) :
  CompW (Itz K a b) nl fr g tt te σ D H1 Q:=by
 refine⟨fun i m zs H=>m=min xs.length ys.length - i∧i≤min xs.length ys.length∧Pv i zs H,⟨_,rfl,Nat.zero_le _,h0⟩,?_⟩
 rintro i m zs H ⟨rfl,hi,p⟩
 refine⟨hl i zs H p,?_⟩
 obtain⟨qx,qy⟩:=hx i zs H hi p
 by_cases hlt:i < min xs.length ys.length
 ·have hx':i < xs.length:=by omega
  have hy':i < ys.length:=by omega
  refine .inr ⟨⟨xs,ys,xs[i],ys[i],qx,qy,by simp[hx'],by simp[hy']⟩,fun v H' z=>?_⟩
  obtain⟨T,x,y,rfl,hT,rfl,hh⟩:=z
  obtain⟨ex,ey⟩:=hh xs ys qx qy
  exact hs i zs x y H T ex ey p hT (fun j zs Hz=>∃m',m' < min xs.length ys.length - i∧m'=min xs.length ys.length - j∧j≤min xs.length ys.length∧Pv j zs Hz) fun zs Hz z=>⟨min xs.length ys.length - (i+1),by omega,rfl,hlt,z⟩
 ·have e:i=min xs.length ys.length:=by omega
  subst e
  exact .inl ⟨⟨xs,ys,qx,qy,by omega⟩,hd zs H p⟩
end
end L2
set_option maxHeartbeats 1000000
namespace L2
open PySem PySem.Spec PyProof.Rows
def Tb (h0:Heap)(H:Hp)(h:Heap)(a:Addr)(v:Value):Prop:=
 v=.none∨∃T oT ts,v=.ref T∧T≠a∧h0.get? T=none∧H T=none∧h.get? T=some oT∧oT.data=.fields ts∧ts[3]?=some .none
structure Fl (h0:Heap) (H:Hp) (h:Heap) (a:Addr) (C:Value) (d:Option Addr):Prop where
 new:h0.get? a=none
 free:H a=none
 at_:∃oe vs v,h.get? a=some oe∧oe.cls=C∧oe.dict=d∧oe.data=.fields vs∧vs[1]?=some v∧Tb h0 H h a v
theorem Fl.older {h0 h1:Heap}{H:Hp}{h:Heap}{a:Addr}{C:Value}{d:Option Addr}(F:Fl h0 H h a C d)(k:∀b,h0.get? b=none→h1.get? b=none):Fl h1 H h a C d:=by
 obtain⟨n,f,oe,vs,v,e1,e2,e3,e4,e5,t⟩:=F
 refine⟨k _ n,f,oe,vs,v,e1,e2,e3,e4,e5,?_⟩
 rcases t with t | ⟨T,oT,ts,t1,t2,t3,t4⟩
 ·exact .inl t
 ·exact .inr ⟨T,oT,ts,t1,t2,k _ t3,t4⟩
theorem dict_mapFields (f:Array Value→Array Value)(o:Obj):(o.mapFields f).dict=o.dict:=by
 obtain⟨c,d,dt,sl⟩:=o
 cases dt<;>rfl
section
variable {M:Model} {A:Around} {E:Value→Shared→Prop} {s:Shared}
theorem entry_raw {base:Heap}{env:Env}{outer:List Env}{L e:Addr}{oe:Obj}{vs:Array Value}{head:Value}{hadNext:Bool}{Q:Unit→Shared→Prop}(hfr:A.frames=some (env :: outer))(hl:s.heap.FunFrames base (env :: outer))(hf:env.frame=some L)(he:s.heap.get? e=some oe)(hd:oe.data=.fields vs)(hsz:1 < vs.size)(h:∀h' T oT ts,s.heap.objs.size≤T→(∀b o,b∉frs (env :: outer)→b≠e→s.heap.get? b=some o→h'.get? b=some o)→(∀b o,b∈frs (env :: outer)→s.heap.get? b=some o→∃sl,h'.get? b=some { o with slots:=sl })→
   h'.get? e=some (oe.mapFields (·.setIfInBounds 1 (.ref T)))→h'.get? T=some oT→oT.data=.fields ts→ts[3]?=some .none→T≠e→Q () { s with heap:=h' }) :
  wpAny M A (do let a ← frameOf env;let pl ← entryPlaceOf L hadNext;let b ← EntryCells.newEntry head a .none (rawInt L) .none pl;setField (.ref e) 1 b) (fun _ s'=>wpAny M A (setFlight (.ref e) none) Q E s') E s:=by
 have hene:e∉frs (env :: outer):=fun hm=>by
  obtain⟨_,o,ho,hnf⟩:=hl.mem hm
  rw[he] at ho;injection ho with ho;subst ho;exact hnf vs hd
 refine wpAny_bind (wpAny_frameOf_fun hfr hl hf fun h₁ hs₁=>?_)
 refine wpAny_bind (wpAny_entryPlaceOf fun pl hpl=>?_)
 unfold EntryCells.newEntry newFields
 refine wpAny_bind (wpAny_newObj_type ?_ (hpl.sizeOk5 _ _ _ _ _))
 have he₁:h₁.get? e=some oe:=(hs₁.2.1 e hene).trans he
 have he₂:=Heap.get?_push_of_some (h:=h₁) { cls:=.type "traceback",dict:=none,data:=.fields ([head,.ref L,.none,rawInt L,.none]++(if pl.isEmpty then List.replicate 6 Value.none else pl)).toArray } he₁
 refine wpAny_setField he₂ hd hsz ?_
 have hTe:h₁.objs.size≠e:=Nat.ne_of_gt (Heap.lt_size he₁)
 have hd₃:=Obj.data_mapFields hd (·.setIfInBounds 1 (Value.ref h₁.objs.size))
 have he₃:=Heap.get?_update_self (Obj.mapFields (·.setIfInBounds 1 (Value.ref h₁.objs.size))) he₂ (Obj.isFreed_of_fields hd₃)
 have hT₃:=(Heap.get?_update_other (h₁.push { cls:=.type "traceback",dict:=none,data:=.fields ([head,.ref L,.none,rawInt L,.none]++(if pl.isEmpty then List.replicate 6 Value.none else pl)).toArray })
  (Obj.mapFields (·.setIfInBounds 1 (Value.ref h₁.objs.size))) (Ne.symm hTe)).trans (Heap.get?_push_size h₁ rfl)
 unfold setFlight
 refine wpAny_bind (wpAny_field he₃ hd₃ (x:=.ref h₁.objs.size) (by simp[hsz]) ?_)
 rw[if_pos (show (Value.ref h₁.objs.size != Value.none)=true from by simp)]
 have keep:∀b o,b≠e→h₁.get? b=some o→
   (((h₁.push { cls:=.type "traceback",dict:=none,data:=.fields ([head,.ref L,.none,rawInt L,.none]++(if pl.isEmpty then List.replicate 6 Value.none else pl)).toArray }).update e (Obj.mapFields (·.setIfInBounds 1 (Value.ref h₁.objs.size)))).update h₁.objs.size
    (Obj.mapFields (·.setIfInBounds 3 ((none:Option Addr).elim Value.none fun f=>rawInt f)))).get? b=some o:=fun b o hbe hb=>by
  have hbT:h₁.objs.size≠b:=Nat.ne_of_gt (Heap.lt_size hb)
  rw[Heap.get?_update_other _ _ hbT,Heap.get?_update_other _ _ (Ne.symm hbe)]
  exact Heap.get?_push_of_some _ hb
 refine wpAny_setField hT₃ rfl (by simp only[List.size_toArray,List.length_append,List.length_cons,List.length_nil]<;>omega) (h _ h₁.objs.size _ _ (Nat.le_of_eq hs₁.1.symm) ?_ ?_ ?_
  (Heap.get?_update_self _ hT₃ (Obj.isFreed_of_fields (Obj.data_mapFields rfl _))) (Obj.data_mapFields rfl _) ?_ hTe)
 ·exact fun b o hb hbe q=>keep b o hbe ((hs₁.2.1 b hb).trans q)
 ·intro b o hb q
  obtain⟨sl,e1⟩:=hs₁.2.2 b o q
  exact⟨sl,keep b _ (fun z=>hene (z ▸ hb)) e1⟩
 ·rw[Heap.get?_update_other _ _ hTe];exact he₃
 ·first | (simp;done) | (rcases hpl with rfl | ⟨_,_,_,_,_,_,_,rfl⟩<;>simp)
theorem note_raw {base h0:Heap}{H:Hp}{env:Env}{outer:List Env}{L e:Addr}{C:Value}{d:Option Addr}{Q:Unit→Shared→Prop}(hfr:A.frames=some (env :: outer))(hl:s.heap.FunFrames base (env :: outer))(hf:env.frame=some L)(F:Fl h0 H s.heap e C d)(hnew:∀b,s.heap.objs.size≤b→h0.get? b=none∧H b=none)(h:∀(h':Heap) (ch:List Addr),(∀b∈ch,h0.get? b=none∧H b=none∧∃o vs,s.heap.get? b=some o∧o.data=.fields vs)→(∀b o,b∉frs (env :: outer)→b∉ch→s.heap.get? b=some o→h'.get? b=some o)→
   (∀b o,b∈frs (env :: outer)→s.heap.get? b=some o→∃sl,h'.get? b=some { o with slots:=sl })→Fl h0 H h' e C d→Q () { s with heap:=h' }) :
  wpAny M A (noteFrame (.ref e) env) (fun _ s'=>wpAny M A (setFlight (.ref e) none) Q E s') E s:=by
 obtain⟨n,f,oe,vs,v,e1,e2,e3,e4,e5,t⟩:=F
 have hsz:1 < vs.size:=(Array.getElem?_eq_some_iff.mp e5).1
 have fin:∀{h':Heap} {T:Addr} {oT:Obj} {ts:Array Value},s.heap.objs.size≤T→h'.get? e=some (oe.mapFields (·.setIfInBounds 1 (.ref T)))→h'.get? T=some oT→oT.data=.fields ts→ts[3]?=some .none→T≠e→Fl h0 H h' e C d:=by
  intro h' T oT ts z he hT hd h3 hTe
  refine⟨n,f,_,_,.ref T,he,?_,?_,Obj.data_mapFields e4 _,by simp[hsz],.inr ⟨T,oT,ts,rfl,hTe,(hnew T z).1,(hnew T z).2,hT,hd,h3⟩⟩
  ·rw[Obj.cls_mapFields];exact e2
  ·rw[dict_mapFields];exact e3
 rcases t with rfl | ⟨T,oT,ts,rfl,t2,t3,t4,t5,t6,t7⟩
 ·unfold noteFrame
  simp only[hf]
  refine wpAny_bind (wpAny_field e1 e4 e5 ?_)
  rw[if_neg (by decide)]
  refine entry_raw hfr hl hf e1 e4 hsz fun h' T oT ts z k1 k2 he hT hd h3 hTe=>?_
  refine h h' [e] (fun b hb=>?_) (fun b o h1 h2 q=>k1 b o h1 (fun w=>h2 (by simp[w])) q) k2 (fin z he hT hd h3 hTe)
  have hb:b=e:=by simpa using hb
  subst hb
  exact⟨n,f,_,_,e1,e4⟩
 ·unfold noteFrame
  simp only[hf]
  refine wpAny_bind (wpAny_field e1 e4 e5 ?_)
  rw[if_pos (show (Value.ref T != Value.none)=true from by simp)]
  refine wpAny_bind (wpAny_field t5 t6 t7 ?_)
  rw[if_neg (show ¬((Value.none == rawInt L)=true) from by simp[rawInt])]
  refine wpAny_bind (wpAny_setField t5 t6 (Array.getElem?_eq_some_iff.mp t7).1 ?_)
  have other:∀b,b≠T→(s.heap.update T (Obj.mapFields (·.setIfInBounds 3 Value.none))).get? b=s.heap.get? b:=fun b hb=>Heap.get?_update_other _ _ (Ne.symm hb)
  have noRecord:∀b o,s.heap.get? b=some o→(∀vs,o.data≠.fields vs)→b≠T:=fun b o hb hnf q=>by
   rw[q,t5] at hb;injection hb with hb;subst hb;exact hnf ts t6
  have nofr:∀b,b∈frs (env :: outer)→b≠T:=fun b hb=>by
   obtain⟨_,o,ho,hnf⟩:=hl.mem hb
   exact noRecord b o ho hnf
  refine entry_raw (s:={ s with heap:=s.heap.update T (Obj.mapFields (·.setIfInBounds 3 Value.none)) }) (base:=base) hfr (hl.of_keeps fun b o hb hnf=>⟨o,(other b (noRecord b o hb hnf)).trans hb,rfl⟩) hf ((other e (Ne.symm t2)).trans e1) e4 hsz
   fun h' T' oT' ts' z k1 k2 he hT hd h3 hTe=>?_
  have z':s.heap.objs.size≤T':=by
   have:=Heap.size_after_update s.heap T (Obj.mapFields (·.setIfInBounds 3 Value.none))
   exact Nat.le_trans (Nat.le_of_eq this.symm) z
  refine h h' [e,T] (fun b hb=>?_) (fun b o h1 h2 q=>?_) (fun b o hb q=>?_) (fin z' he hT hd h3 hTe)
  ·rcases List.mem_cons.mp hb with hb | hb
   ·subst hb;exact⟨n,f,_,_,e1,e4⟩
   ·have hb:b=T:=by simpa using hb
    subst hb;exact⟨t3,t4,_,_,t5,t6⟩
  ·exact k1 b o h1 (fun w=>h2 (by simp[w])) ((other b fun w=>h2 (by simp[w])).trans q)
  ·exact k2 b o hb ((other b (nofr b hb)).trans q)
end
section
variable {X:Cx} {pins:List (Addr × Obj)} {σ:List (Option V)} {H H':Hp} {s:Shared} {h':Heap}
theorem ObjOk.ex {P:Program}{w:World}{h:Heap}{a:Addr}{o:HO}(x:ObjOk P w H h a o):∃u,h.get? a=some u:=by
 cases o with
 |lst xs=>obtain⟨_,_,_,_,e⟩:=x;exact⟨_,e⟩
 |tup xs=>obtain⟨_,_,_,o,e,_⟩:=x;exact⟨_,e⟩
 |dK kvs=>obtain⟨_,_,_,_,o,_,_,e,_⟩:=x;exact⟨_,e⟩
 |dT kvs=>obtain⟨_,_,_,_,o,_,_,e,_⟩:=x;exact⟨_,e⟩
 |set S n=>obtain⟨o,_,_,_,e,_⟩:=x;exact⟨_,e⟩
 |ins C dx fs=>obtain⟨_,_,_,e,_⟩:=x;exact⟨_,e⟩
 |own y=>obtain⟨_,e⟩:=x;exact⟨_,e⟩
 |xd fs=>obtain⟨_,⟨_,_,_,e,_⟩,_⟩:=x;exact⟨_,e⟩
 |rng lo hi=>obtain⟨_,_,_,e⟩:=x;exact⟨_,e⟩
 |frz ob u=>obtain⟨e,_⟩:=x;exact⟨_,e⟩
 |tbl ps=>exact⟨_,(show h.get? a=some _ from x)⟩
 |met f y=>exact⟨_,(show h.get? a=some _ from x)⟩
 |ext φ=>obtain⟨_,⟨_,e⟩,_⟩:=x;exact⟨_,e⟩
theorem HOk.none_of {P:Program}{w:World}{h:Heap}{a:Addr}(x:HOk P w H h)(e:h.get? a=none):H a=none:=by
 cases q:H a with
 |none=>rfl
 |some o=>
  obtain⟨u,hu⟩:=(x a o q).ex
  rw[e] at hu;cases hu
theorem Inv.stepN {g':Array GenState}{t':Nat}{d':Drawn}{ch:List Addr}(I:Inv X pins σ H s)(hch:∀b∈ch,X.s₀.heap.get? b=none∧b≠X.env.locals∧(∀x c,X.env.cells.lookup x=some c→c≠b)∧∀p∈X.pn++pins,p.1≠b)(keep:∀b o,b≠X.env.locals→b∉X.fs→b∉ch→s.heap.get? b=some o→H b=none→h'.get? b=some o)(slot:∀b o,b≠X.env.locals→b∈X.fs→b∉ch→s.heap.get? b=some o→H b=none→∃sl,h'.get? b=some { o with slots:=sl })(there:∀b o,b∉ch→s.heap.get? b=some o→∃o',h'.get? b=some o')(ns:∀m,s.heap.Ns X.env.locals m→h'.Ns X.env.locals m)(hok:HOk X.prog X.w H h')(hg:AllBare g') :
  Inv X pins σ H { s with heap:=h',gens:=g',drawn:=d',toks:=t' }:=by
 have neL:∀b o,X.s₀.heap.get? b=some o→b≠X.env.locals:=fun b o e=>Nat.ne_of_lt (Nat.lt_of_lt_of_le (Heap.lt_size e) I.ok.above)
 have neC:∀b o,X.s₀.heap.get? b=some o→b∉ch:=fun b o e hb=>by rw[(hch b hb).1] at e;cases e
 have cellK:∀x c,X.env.cells.lookup x=some c→∀v,s.heap.IsCell c v→h'.IsCell c v:=fun x c e v ⟨o,ho,hd⟩=>by
  have nch:c∉ch:=fun z=>(hch c z).2.2.1 x c e rfl
  by_cases hc:c∈X.fs
  ·obtain⟨sl,q⟩:=slot c o (I.cne x c e) hc nch ho (I.freeC x c e)
   exact⟨_,q,hd⟩
  ·exact⟨o,keep c o (I.cne x c e) hc nch ho (I.freeC x c e),hd⟩
 refine⟨I.ok,I.os,hg,⟨fun b o e n hb hx=>?_,fun b o e n hb hx=>?_,fun b o e n hx=>?_,fun b o e hx=>?_,fun b xs e=>I.base.tups b xs e,fun b o xs e=>I.base.frzs b o xs e,fun b ps e=>I.base.tbls b ps e⟩,?_,fun x c e=>?_,I.free,I.freeC,fun p hp=>?_,hok,I.len⟩
 ·exact keep b o (neL b o e) hb (neC b o e) (I.base.keep b o e n hb hx) (I.base.free b o e n hx)
 ·obtain⟨sl,e1⟩:=I.base.slot b o e n hb hx
  obtain⟨sl',e2⟩:=slot b _ (neL b o e) hb (neC b o e) e1 (I.base.free b o e n hx)
  exact⟨sl',e2⟩
 ·exact I.base.free b o e n hx
 ·obtain⟨o',e1⟩:=I.base.there b o e hx
  exact there b o' (neC b o e) e1
 ·obtain⟨m,hn,hl⟩:=I.loc
  refine⟨m,ns m hn,fun i x v e1 e2 e3=>?_⟩
  obtain⟨u,r,l⟩:=hl i x v e1 e2 e3
  refine⟨u,r,?_⟩
  rcases l with l | ⟨k,c,e,z⟩
  ·exact .inl l
  ·exact .inr ⟨k,c,e,cellK x c e _ z⟩
 ·obtain⟨v,z⟩:=I.cell x c e
  exact⟨v,cellK x c e v z⟩
 ·obtain⟨e,n,ne,nf,d⟩:=I.pin p hp
  have nch:p.1∉ch:=fun z=>(hch p.1 z).2.2.2 p hp rfl
  exact⟨keep p.1 p.2 ne nf nch e n,n,ne,nf,d⟩
structure Frm (X:Cx):Prop where
 ex:X.ex=[]
 st:X.stack=X.env :: X.outer
 fr:X.env.frame=some X.env.locals
def Lies (X:Cx)(pins:List (Addr × Obj))(σ:List (Option V))(H:Hp)(s:Shared)(a:Addr)(C:Value)(d:Option Addr):Prop:=
 Inv X pins σ H s∧∃h0:Heap,(∀p∈X.pn++pins,h0.get? p.1≠none)∧(∀b o,X.s₀.heap.get? b=some o→∃o',h0.get? b=some o')∧(∀b o,h0.get? b=some o→∃o',s.heap.get? b=some o')∧Fl h0 H s.heap a C d
theorem none_back {h1 h2:Heap}(k:∀b o,h1.get? b=some o→∃o',h2.get? b=some o')(b:Addr)(e:h2.get? b=none):h1.get? b=none:=by
 cases q:h1.get? b with
 |none=>rfl
 |some o=>obtain⟨o',z⟩:=k b o q;rw[e] at z;cases z
theorem none_le {h:Heap}{b:Addr}(e:h.objs.size≤b):h.get? b=none:=Heap.get?_none_of_le e
theorem fields_ne {h:Heap}{b c:Addr}{o:Obj}{vs:Array Value}(e:h.get? b=some o)(hd:o.data=.fields vs){o':Obj}(e':h.get? c=some o')(hd':∀vs,o'.data≠.fields vs):b≠c:=by
 intro z;subst z;rw[e] at e';cases e';exact hd' vs hd
theorem lies_ch {a:Addr}{C:Value}{d:Option Addr}{h0:Heap}(I:Inv X pins σ H s)(hp:∀p∈X.pn++pins,h0.get? p.1≠none)(hs:∀b o,X.s₀.heap.get? b=some o→∃o',h0.get? b=some o'){b:Addr}(hb:h0.get? b=none∧H b=none∧∃o vs,s.heap.get? b=some o∧o.data=.fields vs) :
  X.s₀.heap.get? b=none∧b≠X.env.locals∧(∀x c,X.env.cells.lookup x=some c→c≠b)∧∀p∈X.pn++pins,p.1≠b:=by
 obtain⟨h1,h2,o,vs,h3,h4⟩:=hb
 refine⟨none_back hs b h1,?_,fun x c e=>?_,fun p hq z=>hp p hq (by rw[z];exact h1)⟩
 ·obtain⟨m,⟨o',es,ep,ho',hd',_⟩,_⟩:=I.loc
  exact fields_ne h3 h4 ho' fun vs z=>by rw[hd'] at z;cases z
 ·obtain⟨v,o',ho',hd'⟩:=I.cell x c e
  exact Ne.symm (fields_ne h3 h4 ho' fun vs z=>by rw[hd'] at z;cases z)
theorem note_ok {A':Around}{E:Value→Shared→Prop}{a:Addr}{C:Value}{d:Option Addr}{Q:Unit→Shared→Prop}(hA:A'.frames=some X.stack)(fm:Frm X)(L:Lies X pins σ H s a C d)(h:∀s',Lies X pins σ H s' a C d→Q () s') :
  wpAny (model X.prog X.w) A' (noteFrame (.ref a) X.env) (fun _ s2=>wpAny (model X.prog X.w) A' (setFlight (.ref a) none) Q E s2) E s:=by
 obtain⟨I,h0,hp,hs,ht,F⟩:=L
 have hstk:=I.stack
 have hfree:=I.stkFree
 rw[fm.st] at hA hstk hfree
 have hfrs:frs (X.env :: X.outer)=X.env.locals :: X.fs:=by unfold frs;rw[List.filterMap_cons,fm.fr];rfl
 refine note_raw (base:=X.base) hA hstk fm.fr F (fun b hb=>⟨none_back ht b (none_le hb),I.hok.fresh hb⟩) fun h' ch c1 c2 c3 F'=>?_
 have tr:∀c u,H c=some u→∀v,s.heap.get? c=some v→h'.get? c=some v:=fun c u e v q=>
  c2 c v (fun z=>by rw[hfree c z] at e;cases e) (fun z=>by rw[(c1 c z).2.1] at e;cases e) q
 have th:∀b o,b∉ch→s.heap.get? b=some o→∃o',h'.get? b=some o':=fun b o hb q=>by
  by_cases hf:b∈frs (X.env :: X.outer)
  ·obtain⟨sl,e⟩:=c3 b o hf q;exact⟨_,e⟩
  ·exact⟨o,c2 b o hf hb q⟩
 have J:Inv X pins σ H { s with heap:=h',gens:=s.gens,drawn:=s.drawn,toks:=s.toks }:=by
  refine I.stepN (ch:=ch) (fun b hb=>lies_ch (a:=a) (C:=C) (d:=d) I hp hs (c1 b hb)) (fun b o h1 h2 h3 e _=>c2 b o (by rw[hfrs];intro z;rcases List.mem_cons.mp z with z | z;exact h1 z;exact h2 z) h3 e)
   (fun b o _ h2 _ e _=>c3 b o (by rw[hfrs];exact List.mem_cons_of_mem _ h2) e) th (fun m hm=>?_) (fun b u e=>?_) I.bare
  ·obtain⟨o,es,ep,ho,r⟩:=hm
   obtain⟨sl,e⟩:=c3 _ o (by rw[hfrs];exact List.mem_cons_self) ho
   exact⟨_,es,ep,e,r⟩
  ·refine(I.hok b u e).stay (fun c v hc q=>?_) (fun _ q=>q) fun _ _ q=>q
   rcases hc with rfl | hc
   ·exact tr c u e v q
   ·exact tr c _ hc v q
 refine h _ ⟨J,h0,hp,hs,fun b o e=>?_,F'⟩
 obtain⟨o',e'⟩:=ht b o e
 exact th b o' (fun z=>by rw[(c1 b z).1] at e;cases e) e'
theorem land_ok {A':Around}{E:Value→Shared→Prop}{a:Addr}{C:Value}{d:Option Addr}{Q:Unit→Shared→Prop}(L:Lies X pins σ H s a C d)(h:∀s',Lies X pins σ H s' a C d→Q () s'):wpAny (model X.prog X.w) A' (setFlight (.ref a) none) Q E s:=by
 have L':=L
 obtain⟨I,h0,hp,hs,ht,F⟩:=L'
 obtain⟨n,f,oe,vs,v,e1,e2,e3,e4,e5,t⟩:=F
 unfold setFlight
 refine wpAny_bind (wpAny_field e1 e4 e5 ?_)
 rcases t with rfl | ⟨T,oT,ts,rfl,t2,t3,t4,t5,t6,t7⟩
 ·rw[if_neg (by decide)]
  exact wpAny_pure (h s L)
 ·rw[if_pos (show (Value.ref T != Value.none)=true from by simp)]
  have hsz3:3 < ts.size:=(Array.getElem?_eq_some_iff.mp t7).1
  have other:∀b,b≠T→(s.heap.update T (Obj.mapFields (·.setIfInBounds 3 ((none:Option Addr).elim Value.none fun f=>rawInt f)))).get? b=s.heap.get? b:=fun b hb=>Heap.get?_update_other _ _ (Ne.symm hb)
  have hT':=Heap.get?_update_self (Obj.mapFields (·.setIfInBounds 3 ((none:Option Addr).elim Value.none fun f=>rawInt f))) t5 (Obj.isFreed_of_fields (Obj.data_mapFields t6 _))
  refine wpAny_setField t5 t6 hsz3 ?_
  have c1:∀b∈[T],h0.get? b=none∧H b=none∧∃o vs,s.heap.get? b=some o∧o.data=.fields vs:=fun b hb=>by
   have hb:b=T:=by simpa using hb
   subst hb;exact⟨t3,t4,_,_,t5,t6⟩
  have nT:∀b,b∉[T]→b≠T:=fun b hb z=>hb (by simp[z])
  have J:Inv X pins σ H { s with heap:=(s.heap.update T (Obj.mapFields (·.setIfInBounds 3 ((none:Option Addr).elim Value.none fun f=>rawInt f)))),gens:=s.gens,drawn:=s.drawn,toks:=s.toks }:=by
   refine I.stepN (ch:=[T]) (fun b hb=>lies_ch (a:=a) (C:=C) (d:=d) I hp hs (c1 b hb)) (fun b o _ _ h3 e _=>(other b (nT b h3)).trans e) (fun b o _ _ h3 e _=>⟨o.slots,(other b (nT b h3)).trans e⟩)
    (fun b o h3 e=>⟨o,(other b (nT b h3)).trans e⟩) (fun m hm=>?_) (fun b u e=>?_) I.bare
   ·obtain⟨o,es,ep,ho,hd,r⟩:=hm
    exact⟨o,es,ep,(other _ (Ne.symm (fields_ne t5 t6 ho fun vs z=>by rw[hd] at z;cases z))).trans ho,hd,r⟩
   ·refine(I.hok b u e).stay (fun c v hc q=>(other c ?_).trans q) (fun _ q=>q) fun _ _ q=>q
    rintro rfl
    rcases hc with rfl | hc
    ·rw[t4] at e;cases e
    ·rw[t4] at hc;cases hc
  refine h _ ⟨J,h0,hp,hs,fun b o e=>?_,⟨n,f,oe,vs,.ref T,(other a (Ne.symm t2)).trans e1,e2,e3,e4,e5,.inr ⟨T,_,_,rfl,t2,t3,t4,hT',Obj.data_mapFields t6 _,by simp[hsz3]⟩⟩⟩
  obtain⟨o',e'⟩:=ht b o e
  exact⟨o',(other b (fun z=>by rw[z,t3] at e;cases e)).trans e'⟩
end
def CX1 (P:Program)(w:World):CXT:=fun outer H s E e s'=>∃a C d H',e=.ref a∧s'.os=s.os∧AllBare s'.gens∧Un (frs outer) [] H H' s.heap s'.heap∧HOk P w H' s'.heap∧Fl s.heap H' s'.heap a C d∧E C d H'
def XeOk (X:Cx)(E:XK):Prop:=∀(pins:List (Addr × Obj)) (σ:St) (H:Hp) (s:Shared) (a:Addr) (C:Value) (d:Option Addr),Lies X pins σ H s a C d→E C d H→X.xe (.ref a) s
section
variable {X:Cx} {pins:List (Addr × Obj)} {σ:List (Option V)} {H:Hp} {s s':Shared} {E:XK} {e:Value}
theorem lies_of_call (fm:Frm X)(I:Inv X pins σ H s)(hcx:CX1 X.prog X.w X.stack H s E e s'):∃a C d H',e=.ref a∧Lies X pins σ H' s' a C d∧E C d H':=by
 obtain⟨a,C,d,H',rfl,os,bare,un,hok,F,q⟩:=hcx
 refine⟨a,C,d,H',rfl,⟨I.call' (ch:=[]) os un hok bare (fun b z=>absurd z (by simp)),s.heap,fun p hp z=>?_,fun b o e=>I.base.there b o e (by rw[fm.ex];simp),fun b o e=>un.there b o e (by simp),F⟩,q⟩
 rw[(I.pin p hp).1] at z;cases z
theorem passes_cx (fm:Frm X)(xo:XeOk X E):Passes (CX1 X.prog X.w) X E:=fun pins σ H s e s' I hcx=>by
 obtain⟨a,C,d,H',rfl,L,q⟩:=lies_of_call fm I hcx
 exact xo pins σ H' s' a C d L q
end
theorem frm_cxOf {CX:CXT}{P:Program}{w:World}{K:PySem.W.Frag}{mg:Str→Option Value}{base:Heap}{N:List Str}{qual:Str}{scope:Scope}{f:Addr}{cd:Value}{A:Around}{outer:List Env}{s:Shared}{H:Hp}{E:XK} :
  Frm (cxOf CX P w K mg base N qual scope f cd A outer s H E):=⟨rfl,rfl,rfl⟩
theorem xe_cxOf {P:Program}{w:World}{K:PySem.W.Frag}{mg:Str→Option Value}{base:Heap}{N:List Str}{qual:Str}{scope:Scope}{f:Addr}{cd:Value}{A:Around}{outer:List Env}{s:Shared}{H:Hp}{E:XK} :
  XeOk (cxOf (CX1 P w) P w K mg base N qual scope f cd A outer s H E) E:=by
 intro pins σ H' s' a C d L q
 show wpAny (model P w) (A.deeper (envOfC qual scope s.heap.objs.size f cd)) (leaving (envOfC qual scope s.heap.objs.size f cd) (.ref a)) (fun _ s''=>CX1 P w outer H s E (.ref a) s'') (fun e' s''=>CX1 P w outer H s E e' s'') s'
 unfold leaving
 refine wpAny_bind (note_ok (X:=cxOf (CX1 P w) P w K mg base N qual scope f cd A outer s H E) L.1.ok.frames frm_cxOf L fun s'' L''=>?_)
 obtain⟨J,h0,hp,hs0,hth,F⟩:=L''
 exact⟨a,C,d,H',rfl,J.os,J.bare,J.base,J.hok,F.older fun b z=>none_back hs0 b z,q⟩
abbrev bmVE:List Value:=[.type "ValueError",.type "Exception",.type "BaseException",.type "object"]
def ExcC (K:PySem.W.Frag)(C:Addr):Prop:=PySem.W.excIn K C bmVE "ValueError.__new__"=true
theorem exc_of {K:PySem.W.Frag}{h:Heap}{C:Addr}{bmB:List Value}{newId:String}(X:K.In h)(q:PySem.W.excIn K C bmB newId=true) :
  ∃bm N nm qn bs hdct sn sub ab col dd k0 k1 k2 k3 k5 mN,h.get? C=some (excClassObj nm qn C N bs bm hdct sn sub ab col dd k0 k1 k2 k3 k5 newId)∧h.Ns N mN∧mN "__init__"=none∧OwnTail h bmB bm:=by
 unfold PySem.W.excIn at q
 split at q
 ·rename_i dd cd sl ho
  split at q
  ·rename_i C' bm k0 k1 k2 k3 n k5 hm hs
   simp only[Bool.and_eq_true,beq_iff_eq,Bool.not_eq_true'] at q
   obtain⟨⟨⟨⟨⟨rfl,rfl⟩,hdel⟩,ht⟩,hok⟩,hni⟩:=q
   obtain⟨nm,bs,mro,ns,qn,hd,sn,sub,ab,col,del⟩:=cd
   dsimp only at hm hdel hok hni
   subst hm hdel
   have hsl:sl=#[k0,k1,k2,k3,some (.builtin n),k5]:=by
    obtain⟨l⟩:=sl
    simp only at hs
    rw[hs]
   subst hsl
   exact⟨bm,ns,nm,qn,bs,hd,sn,sub,ab,col,dd,k0,k1,k2,k3,k5,_,X _ _ ho,.of_isNs (PySem.W.isNs_of_in X hok),PySem.W.nsMap_none_of_in X hok hni,PySem.W.tail_of_in X ht⟩
  ·cases q
 ·cases q
section
variable {X:Cx} {pins:List (Addr × Obj)} {σ:List (Option V)} {H:Hp} {s:Shared}
def tRaise (C:Addr)(E:XK)(ta:TA):TS:=fun _ σ H=>ta σ H fun vs H1=>vs.length≤sizeLine∧E (.ref C) none H1
theorem ps_raise {E:XK}{x:Str}{C:Addr}{np cpos pos:Pos}{e₀:Expr}{es:List Expr}{ta:TA}(fm:Frm X)(xo:XeOk X E)(hc:X.calm=true)(hg:Gl X x)(hm:X.mg x=some (.ref C))(q:ExcC X.K C)(ha:PA X (e₀ :: es) ta)(hdb:(x == ("__debug__":Str))=false:=by decide)(he:starEach (e₀ :: es) X.env=(false,eval e₀ X.env) :: starEach es X.env:=by rfl)(hpl:(backTo cpos (starEach es X.env)).any (·.1)=false:=by rfl) :
  PS X (.Raise (some (.Call (.Name x np) (e₀ :: es) [] cpos)) none pos) (tRaise C E ta):=by
 intro pins s σ H D I h
 obtain⟨tl,N,nm,qn,bs,hdct,sn,sub,ab,col,dd,k0,k1,k2,k3,k5,mN,hC,hN,hni,T⟩:=exc_of I.mod.kin q
 have FB:=PySem.F.excBase_ValueError
 refine wpAny_Raise_call_subU (C:=C) (nm:=nm) (q:=qn) (N:=N) (bs:=bs) (bm:=tl) (hdct:=hdct) (sn:=sn) (sub:=sub) (ab:=ab) (col:=col) (dd:=dd) (k0:=k0) (k1:=k1) (k2:=k2) (k3:=k3) (k5:=k5)
  FB (by decide) FB (mN:=mN) (T.hasType FB.hasBase) (I.ok.hd hc) (by rw[he];show (false || (backTo cpos (starEach es X.env)).any (·.1))=false;rw[hpl];rfl) hni (ld_glob I hg hm ⟨rfl,?_⟩ hdb)
 have ha':=ha cpos pins s σ H _ I h
 rw[he] at ha' ⊢
 refine Calls.evalArgs_plain (wpAny_mono ha' (fun vs s2 h2=>?_) fun _ _ y=>y)
 obtain⟨xs,H1,I1,r,hz,q1⟩:=h2
 refine⟨rfl,by rw[← r.length];exact hz,I1.bk _ _ hC,hN.keeps I1.bk,T.keeps I1.bk,fun h' e hx=>?_⟩
 obtain⟨t,he1,htn,ht⟩:=hx.there
 refine xo pins σ H1 _ e (.ref C) none ⟨I1.kept (t':=s2.toks) hx.keeps,s2.heap,fun p hp z=>?_,fun b o e=>I1.base.there b o e (by rw[fm.ex];simp),fun b o z=>⟨o,hx.keeps b o z⟩,⟨hx.new,I1.hok.none_of hx.new,_,_,.none,he1,rfl,rfl,rfl,rfl,.inl rfl⟩⟩ q1
 rw[(I1.pin p hp).1] at z;cases z
end
abbrev TEX:=St→Hp→VK→XK→Prop
abbrev TSX:=Ends→(St→XK)→St→Hp→Prop
def XP (X:Cx)(pins:List (Addr × Obj))(E:St→XK)(e:Value)(s':Shared):Prop:=∃a C d σ' H',e=.ref a∧Lies X pins σ' H' s' a C d∧E σ' C d H'
def PX (X:Cx)(e:Expr)(t:TEX):Prop:=
 ∀(pins:List (Addr × Obj)) (s:Shared) (σ:St) (H:Hp) (Q:VK) (E:XK),Inv X pins σ H s→t σ H Q E→wpAny (model X.prog X.w) X.A (eval e X.env) (EP X pins σ Q) (XP X pins fun σ' C d H'=>σ'=σ∧E C d H') s
def PSX (X:Cx)(st:Stmt)(t:TSX):Prop:=
 ∀(pins:List (Addr × Obj)) (s:Shared) (σ:St) (H:Hp) (D:Ends) (E:St→XK),Inv X pins σ H s→t D E σ H→wpAny (model X.prog X.w) X.A (exec st X.env) (SP X pins D) (XP X pins E) s
def PSXs (X:Cx)(st:List Stmt)(t:TSX):Prop:=
 ∀(pins:List (Addr × Obj)) (s:Shared) (σ:St) (H:Hp) (D:Ends) (E:St→XK),Inv X pins σ H s→t D E σ H→wpAny (model X.prog X.w) X.A (execs st X.env) (SP X pins D) (XP X pins E) s
theorem XP.at {X:Cx}{pins:List (Addr × Obj)}{σ:St}{E:St→XK}{e:Value}{s':Shared}(h:XP X pins (fun σ' C d H'=>σ'=σ∧E σ C d H') e s'):XP X pins E e s':=by
 obtain⟨a,C,d,σ',H',rfl,L,rfl,q⟩:=h
 exact⟨a,C,d,σ',H',rfl,L,q⟩
section
variable {X:Cx} {k:Nat} {f C:Addr} {fd:FuncData} {ps:List Str} {sp:Sp} {dvs:List V} {ds:List Value} {x m:Str} {p pos apos:Pos} {e o:Expr} {es:List Expr} {ta:TE} {t:TA}
theorem run_x {pins:List (Addr × Obj)}{σ:St}{H:Hp}{s:Shared}{Q:VK}{E:XK}{us:List Value}{vs:List V}(F:FnOk X.prog X.w X.K X.mg X.base (CX1 X.prog X.w) k f fd ps sp)(fm:Frm X)(hr:Room k X.A)(hb:Binds X.K fd ps ds)(hd:Vals dvs ds)(I:Inv X pins σ H s)(r:Vals vs us)(h:sp (vs++dvs) H Q E):wpAny (model X.prog X.w) X.A (call (.ref f) us) (EP X pins σ Q) (XP X pins fun σ' C d H'=>σ'=σ∧E C d H') s:=by
 have r2:Vals (vs++dvs) (us++ds):=r.append hd
 have hl:(us++ds).length=ps.length:=by rw[← r2.length];exact F.len _ _ _ _ h
 refine wpAny_call (codeAny_mono (F.run X.A X.stack s H ⟨us,[]⟩ (us++ds) (vs++dvs) Q E hr I.env0 (hb s us I.kIn hl) r2 h) fun r s' hq=>?_)
 cases r with
 |error e=>
  obtain⟨a,C,d,H',rfl,L,q⟩:=lies_of_call fm I hq
  exact⟨a,C,d,σ,H',rfl,L,rfl,q⟩
 |ok fl=>
  cases fl with
  |ret u=>exact I.after hq
  |next=>exact False.elim hq
  |brk=>exact False.elim hq
  |cont=>exact False.elim hq
def xMeth (C:Addr)(m:Str)(sp:Sp)(dvs:List V)(ta:TE)(t:TA):TEX:=fun σ H Q E=>ta σ H fun x H1=>∃a dx fs,x=.ref a∧H1 a=some (.ins C dx fs)∧fs.lookup m=none∧t σ H1 fun vs H2=>sp (x :: (vs++dvs)) H2 Q E
def xExpr (te:TEX):TSX:=fun D E σ H=>te σ H (fun _ H1=>D.nx σ H1) (E σ)
theorem psx_expr (he:PX X e te)(hs:swapsWith e none pos.line X.env=pure false:=by rfl):PSX X (.Expr e pos) (xExpr te):=by
 intro pins s σ H D E I h
 exact wpAny_Expr_any (wpAny_mono (he pins s σ H _ _ I h) (fun v s1 ⟨x,H1,I1,r1,q1⟩=>⟨σ,H1,I1,q1⟩) fun _ _ z=>XP.at z) I.quiet hs
theorem psxs_one {st:Stmt}{t:TSX}(h1:PSX X st t):PSXs X [st] t:=by
 intro pins s σ H D E I h
 refine wpAny_execs_cons (wpAny_mono (h1 pins s σ H D E I h) (fun f s1 q=>?_) fun _ _ z=>z)
 cases f with
 |next=>exact wpAny_execs_nil q
 |ret v=>exact q
 |brk=>exact q
 |cont=>exact q
end
abbrev Cx.sup (X:Cx)(a:Addr):Cx:={ X with A:=X.A.mark (some (.ref a)),calm:=false,xe:=fun _ _=>False }
section
variable {X:Cx} {pins:List (Addr × Obj)} {σ:List (Option V)} {H:Hp} {s:Shared} {a:Addr}
theorem Cx.Ok.sup (ok:X.Ok)(a:Addr):(X.sup a).Ok:=
 ⟨ok.mod,ok.kind,ok.glob,ok.blt,ok.above,ok.inj,ok.has,ok.cab,fun z=>Bool.noConfusion z,ok.frames,ok.stk,ok.exf,ok.bs,ok.bsz,ok.noex,ok.exfs,ok.funs,ok.frf⟩
theorem Inv.sup (I:Inv X pins σ H s)(a:Addr):Inv (X.sup a) pins σ H s:=⟨I.ok.sup a,I.os,I.bare,I.base,I.loc,I.cell,I.free,I.freeC,I.pin,I.hok,I.len⟩
theorem Inv.unsup (ok:X.Ok)(I:Inv (X.sup a) pins σ H s):Inv X pins σ H s:=⟨ok,I.os,I.bare,I.base,I.loc,I.cell,I.free,I.freeC,I.pin,I.hok,I.len⟩
def excO (a:Addr)(C:Value)(d:Option Addr):HO:=.ext fun h=>∃o vs,h.get? a=some o∧o.cls=C∧o.dict=d∧o.data=.fields vs
theorem Lies.track {C:Value}{d:Option Addr}(L:Lies X pins σ H s a C d)(fm:Frm X):Inv X pins σ (upd H a (excO a C d)) s:=by
 obtain⟨I,h0,hp,hs,ht,F⟩:=L
 obtain⟨n,f,oe,vs,v,e1,e2,e3,e4,e5,t⟩:=F
 obtain⟨c1,c2,c3,c4⟩:=lies_ch (a:=a) (C:=C) (d:=d) I hp hs (b:=a) ⟨n,f,_,_,e1,e4⟩
 have tr:∀b u,H b=some u→upd H a (excO a C d) b=some u:=fun b u e=>by rw[upd_ne (ne_of_none e f)];exact e
 refine⟨I.ok,I.os,I.bare,⟨I.base.keep,I.base.slot,fun b o e n' hx=>?_,I.base.there,fun b xs e=>tr _ _ (I.base.tups b xs e),fun b o u e=>tr _ _ (I.base.frzs b o u e),fun b ps e=>?_⟩,I.loc,I.cell,?_,fun x c e=>?_,fun p hp'=>?_,fun b o e=>?_,I.len⟩
 ·have:b≠a:=fun z=>by rw[z,c1] at e;cases e
  rw[upd_ne this];exact I.base.free b o e n' hx
 ·obtain⟨more,z⟩:=I.base.tbls b ps e
  exact⟨more,tr _ _ z⟩
 ·rw[upd_ne (Ne.symm c2)];exact I.free
 ·rw[upd_ne (c3 x c e)];exact I.freeC x c e
 ·obtain⟨z1,z2,z3⟩:=I.pin p hp'
  exact⟨z1,by rw[upd_ne (c4 p hp')];exact z2,z3⟩
 ·by_cases hb:b=a
  ·subst hb
   rw[upd_same] at e;cases e
   refine⟨⟨oe,vs,e1,e2,e3,e4⟩,⟨oe,e1⟩,fun h1 h2 p k=>?_⟩
   obtain⟨o,vs',z1,z2⟩:=p
   exact⟨o,vs',k o z1,z2⟩
  ·rw[upd_ne hb] at e
   exact(I.hok b o e).stay (fun _ _ _ q=>q) (fun c q=>tr _ _ q) fun c xs q=>tr _ _ q
theorem forget_ok {A':Around}{E:Value→Shared→Prop}{j:Nat}{n:Str}{pos:Pos}{Q:Unit→Shared→Prop}(I:Inv X pins σ H s)(hN:X.N.Nodup)(hj:X.N[j]?=some n)(hl:X.env.scope.names.lookup n=some .local)(h:∀s',Inv X pins (σ.set j none) H s'→Q () s'):wpAny (model X.prog X.w) A' (do bindName X.env n .none;unbindBehindTheSuite X.env n pos) Q E s:=by
 obtain⟨m,hn,hlk⟩:=id I.loc
 have hcls:(X.env.scope.kind == .class || (X.env.scope.kind == .module && X.env.locals != X.env.globals))=false:=by rw[I.ok.kind];rfl
 have hiσ:j < σ.length:=by rw[I.len];exact(List.getElem?_eq_some_iff.mp hj).1
 have cne:=I.cne
 refine wpAny_nameGoes_keeps hl hn hcls fun h' v hn' hs=>?_
 obtain⟨oL,_,_,hoL,_⟩:=id hn
 refine h _ ⟨I.ok,I.os,I.bare,⟨fun b o e n hb hx=>?_,fun b o e n hb hx=>?_,I.base.free,fun b o e hx=>?_,I.base.tups,I.base.frzs,I.base.tbls⟩,⟨_,hn',fun i y v' e1 e2 e3=>?_⟩,fun y c e=>?_,I.free,I.freeC,fun p hp=>?_,fun b ob e=>?_,by simpa using I.len⟩
 ·exact(hs.2 b (Nat.ne_of_lt (Nat.lt_of_lt_of_le (Heap.lt_size e) I.ok.above))).trans (I.base.keep b o e n hb hx)
 ·obtain⟨sl,e1⟩:=I.base.slot b o e n hb hx
  exact⟨sl,(hs.2 b (Nat.ne_of_lt (Nat.lt_of_lt_of_le (Heap.lt_size e) I.ok.above))).trans e1⟩
 ·obtain⟨o',e1⟩:=I.base.there b o e hx
  exact⟨o',(hs.2 b (Nat.ne_of_lt (Nat.lt_of_lt_of_le (Heap.lt_size e) I.ok.above))).trans e1⟩
 ·by_cases hij:i=j
  ·subst hij
   rw[List.getElem?_set_self hiσ] at e2
   cases e2
  ·rw[List.getElem?_set_ne (Ne.symm hij)] at e2
   obtain⟨u',r',q⟩:=hlk i y v' e1 e2 e3
   refine⟨u',r',?_⟩
   rcases q with ⟨k,e⟩ | ⟨k,c,e,z⟩
   ·refine .inl ⟨k,?_⟩
    have:y≠n:=fun e=>hij (nodup_ix hN e1 (e ▸ hj))
    simp[this,e]
   ·exact .inr ⟨k,c,e,z.sameBut hs (cne y c e)⟩
 ·obtain⟨w',z⟩:=I.cell y c e
  exact⟨w',z.sameBut hs (cne y c e)⟩
 ·obtain⟨e,n,ne,nf,d⟩:=I.pin p hp
  exact⟨(hs.2 p.1 ne).trans e,n,ne,nf,d⟩
 ·refine(I.hok b ob e).stay (fun c w' hc q=>(hs.2 c ?_).trans q) (fun _ q=>q) fun _ _ q=>q
  rintro rfl
  rcases hc with rfl | hc
  ·rw[I.free] at e;cases e
  ·rw[I.free] at hc;cases hc
end
abbrev TH:=Addr→Value→Option Addr→Ends→St→Hp→Prop
def PH (X:Cx)(hs:List ExceptHandler)(t:TH):Prop:=
 ∀(pins:List (Addr × Obj)) (s:Shared) (σ:St) (H:Hp) (D:Ends) (a:Addr) (C:Value) (d:Option Addr),Lies X pins σ H s a C d→t a C d D σ H→wpAny (model X.prog X.w) X.A (handleBy (.ref a) X.env hs) (SP X pins D) X.xe s
section
variable {X:Cx} {pos np:Pos} {T:Str} {tc:Value} {b₀:Stmt} {suite:List Stmt} {rest:List ExceptHandler} {ts:TS} {tr:TH}
def hNever:TH:=fun _ _ _ _ _ _=>False
theorem ph_never {hs:List ExceptHandler}:PH X hs hNever:=fun _ _ _ _ _ _ _ _ _ h=>h.elim
def NameC (X:Cx)(T:Str)(c:Value):Prop:=X.mg T=some c∨(X.mg T=none∧bootBuiltins T=some c∧T≠"__name__")
theorem ld_cls {E:Value→Shared→Prop}{pins:List (Addr × Obj)}{s:Shared}{σ:St}{H:Hp}{Q:Value→Shared→Prop}(I:Inv X pins σ H s)(hg:Gl X T)(hc:NameC X T tc)(h:Q tc s)(hd:(T == ("__debug__":Str))=false:=by decide):wpAny (model X.prog X.w) X.A (eval (.Name T np) X.env) Q E s:=by
 rcases hc with e | ⟨e,hv,hn⟩
 ·exact ld_glob I hg e h hd
 ·exact ld_blt I hg e hv h hn hd
theorem Lies.ty {M:Model}{pins:List (Addr × Obj)}{s:Shared}{σ:St}{H:Hp}{a:Addr}{C:Value}{d:Option Addr}(L:Lies X pins σ H s a C d):PySem.W.Looks M s.heap (typeOf (.ref a)) C:=by
 obtain⟨I,h0,hp,hs,ht,n,f,oe,vs,v,e1,e2,_⟩:=L
 subst e2
 exact(PySem.W.Looks.ld e1).andThen .now
def hTestAs (K:PySem.W.Frag)(tc:Value)(j:Nat)(ts:TS)(tr:TH):TH:=fun a C d D σ H=>∃b,PySem.W.exmOne K C tc=some b∧
 if b=true then ts { nx:=fun σ' H'=>D.nx (σ'.set j none) H',rt:=D.rt,bk:=fun σ' H'=>D.bk (σ'.set j none) H',ct:=fun σ' H'=>D.ct (σ'.set j none) H' } (σ.set j (some (.ref a))) (upd H a (excO a C d)) else tr a C d D σ H
theorem ph_as {j:Nat}{n:Str}(fm:Frm X)(hN:X.N.Nodup)(hj:X.N[j]?=some n)(hl:X.env.scope.names.lookup n=some .local)(hg:Gl X T)(hc:NameC X T tc)(hs:∀a,PSs (X.sup a) (b₀ :: suite) ts)(hr:PH X rest tr)(hd:(T == ("__debug__":Str))=false:=by decide) :
  PH X (.ExceptHandler (some (.Name T np)) (some n) (b₀ :: suite) pos :: rest) (hTestAs X.K tc j ts tr):=by
 intro pins s σ H D a C d L h
 obtain⟨b,hb,h⟩:=h
 have I:=L.1
 refine wpAny_handleBy_cons (codeAny_handlers_test (ld_cls (X:=X.sup a) (I.sup a) hg hc ((PySem.W.exm_one I.kIn L.ty hb).here ?_) hd)) (by intro q;cases q)
 cases b with
 |false=>
  rw[if_neg Bool.false_ne_true] at h
  exact hr pins s σ H D a C d L h
 |true=>
  rw[if_pos rfl] at h
  refine codeAny_handlers_suite_as (land_ok (X:=X) L fun s' L'=>?_)
  refine store_ok (X:=X.sup a) ((L'.track fm).sup a) hN hj (.inl hl) (v:=.ref a) rfl (fun s2 I2=>?_) (.inr hl)
  refine wpAny_mono (hs a pins s2 _ _ _ I2 h) (fun f s3 q=>?_) fun _ _ z=>False.elim z
  cases f with
  |next=>
   obtain⟨σ',H',J,q⟩:=q
   exact forget_ok (J.unsup I.ok) hN hj hl fun s4 J4=>⟨_,H',J4,q⟩
  |brk=>
   obtain⟨σ',H',J,q⟩:=q
   exact forget_ok (J.unsup I.ok) hN hj hl fun s4 J4=>⟨_,H',J4,q⟩
  |cont=>
   obtain⟨σ',H',J,q⟩:=q
   exact forget_ok (J.unsup I.ok) hN hj hl fun s4 J4=>⟨_,H',J4,q⟩
  |ret u=>
   obtain⟨v,σ',H',J,r,q⟩:=q
   exact forget_ok (J.unsup I.ok) hN hj hl fun s4 J4=>⟨v,_,H',J4,r,q⟩
def tTry (tb:TSX)(to:TS)(th:TH):TS:=fun D σ H=>tb { D with nx:=to D } (fun σ' C d H'=>∀a,H' a=none→th a C d D σ' H') σ H
theorem ps_try {body orelse:List Stmt}{h₀:ExceptHandler}{hs:List ExceptHandler}{tb:TSX}{to:TS}{th:TH}(fm:Frm X)(hb:PSXs X body tb)(ho:PSs X orelse to)(hh:PH X (h₀ :: hs) th):PS X (.Try body (h₀ :: hs) orelse [] pos) (tTry tb to th):=by
 intro pins s σ H D I h
 refine wpAny_Try_except (wpAny_mono (hb pins s σ H _ _ I h) (fun f s1 q=>?_) fun e s1 q=>?_)
 ·cases f with
  |next=>
   obtain⟨σ',H',I',q⟩:=q
   exact ho pins s1 σ' H' D I' q
  |ret v=>exact q
  |brk=>exact q
  |cont=>exact q
 ·obtain⟨a,C,d,σ',H',rfl,L,q⟩:=q
  refine note_ok I.ok.frames fm L fun s2 L2=>?_
  exact hh pins s2 σ' H' D a C d L2 (q a L2.2.choose_spec.2.2.2.free)
end
structure ExcK (K:PySem.W.Frag) (C:Addr):Prop where
 ga:PySem.W.findIn K (.ref C) "__getattribute__"=some (some (.builtin "BaseException.__getattribute__"))
 gn:PySem.W.findIn K (.ref C) "__getattr__"=some none
 bx:PySem.W.mroIn K C (.type "BaseException")=some true
 ob:PySem.W.mroIn K C (.type "object")=some true
 ca:PySem.W.findIn K (.ref C) "__class__"=some (some (.builtin "object.__class__"))
 hn:PySem.W.specialIn K (.builtin "object.__class__") "__get__"=some (some (.builtin "getset_descriptor.__get__"))
 tk:PySem.W.takesIn K (.builtin "object.__class__")=some true
 cl:(PySem.W.clsIn K C).isSome=true
section
variable {prog:Program} {w:World} {A:Around} {E:Value→Shared→Prop} {s:Shared} {K:PySem.W.Frag} {x D:Addr} {ox:Obj} {odo:Option Obj} {name:Str}
theorem exc_check {nameV:Value}{Q:Unit→Shared→Prop}(k:ExcK K D)(X:K.In s.heap)(I:PySem.W.InstAt s.heap x ox D odo)(h:Q () s) :
  wpAny (model prog w) A (checkBuiltinCall "BaseException.__getattribute__" ⟨[.ref x,nameV],[]⟩) Q E s:=by
 have hk:builtinKind "BaseException.__getattribute__"=some .slot:=by decide +kernel
 have hsplit:splitId "BaseException.__getattribute__"=some ("BaseException","__getattribute__"):=by decide +kernel
 obtain⟨hh,g,d,t,os⟩:=s
 have L0:=I.type (M:=model prog w)
 have L1:=PySem.W.looks_mroIn (M:=model prog w) X k.bx
 have LI:PySem.W.Looks (model prog w) hh (isInstance (.ref x) (.type "BaseException")) true:=L0.andThen L1
 have ha:=PySem.F.args_bexc_ga (.ref x) nameV
 simp only[checkBuiltinCall,hk,hsplit]
 refine wpAny_bind (LI.at ?_)
 repeat (first | lk | wp_step)
 exact h
theorem exc_by {v:Value}{tk:Tok}{fill expr:Bool}{P:Value→Shared→Prop}(k:ExcK K D)(X:K.In s.heap)(I:PySem.W.InstAt s.heap x ox D odo)(hv:PySem.W.handedIn v=true)(hf:PySem.W.findObj K D odo name=some (.value v)∨∃g a,PySem.W.findObj K D odo name=some (.bind g a)∧∀(A':Around) (R:Result→Shared→Prop),R (.ok (.ret v)) s→codeAny (model prog w) A' (.call g ⟨[a,.ref x,.ref D],[]⟩) R s)(h:P v s) :
  wpAny (model prog w) A (getAttrBy (.ref x) (.str name tk) fill expr) P E s:=by
 obtain⟨hh,g,d,t,os⟩:=s
 have L0:=I.type (M:=model prog w)
 have L1:=PySem.W.looks_findIn (M:=model prog w) X k.ga
 have L2:=PySem.W.looks_findIn (M:=model prog w) X k.gn
 unfold getAttrBy
 refine wpAny_holding (wpAny_bind (L0.at (wpAny_bind (L1.at ?_))))
 show wpAny _ _ (getAttrByItsOwn (.ref x) (.str name tk) (.ref D) (.builtin "BaseException.__getattribute__") fill expr) _ _ _
 unfold getAttrByItsOwn hookBefore
 have f3:=PySem.F.attr_ValueError.ga.bind (.ref x)
 refine wpAny_bind (L2.at ?_)
 refine wpAny_bind (wpAny_attempt (wpAny_holding ?_))
 unfold callGetattribute boundAndCalled
 rw[if_neg (by cases expr<;>decide)]
 refine wpAny_bind (wpAny_of_eq f3 ?_)
 refine wpAny_call (codeAny_call_builtin PySem.F.attr_ValueError.ga.plain PySem.F.entry_bexc_ga (exc_check k X I ?_))
 unfold Builtin.«object.__getattribute__»
 refine wpAny_bind (wpAny_pure ?_)
 refine wpAny_bind (wpAny_pure ?_)
 refine wpAny_bind (L0.at ?_)
 rcases hf with hf | ⟨gg,a,hf,hc⟩
 ·refine wpAny_bind ((PySem.W.looks_find (M:=model prog w) X I hf).at ?_)
  refine wpAny_pure ?_
  show wpAny _ _ (handedOut v) _ _ _
  rw[PySem.W.handedOut_of hv]
  exact wpAny_pure h
 ·refine wpAny_bind ((PySem.W.looks_find (M:=model prog w) X I hf).at ?_)
  show wpAny _ _ (Builtin.ObjectAttr.bindTo gg a (.ref x) (.ref D)) _ _ _
  show wpAny _ _ (holding [a] (call gg [a,.ref x,.ref D]) >>= ret) _ _ _
  refine wpAny_bind (wpAny_holding (wpAny_call (hc _ _ ?_)))
  refine wpAny_pure ?_
  show wpAny _ _ (handedOut v) _ _ _
  rw[PySem.W.handedOut_of hv]
  exact wpAny_pure h
theorem exc_class {Q:Option Value→Shared→Prop}(k:ExcK K D)(X:K.In s.heap)(I:PySem.W.InstAt s.heap x ox D odo)(h:Q (some (.ref D)) { s with toks:=s.toks+1 }) :
  wpAny (model prog w) A (getAttr? (.ref x) "__class__") Q E s:=by
 have hf:PySem.W.findObj K D odo "__class__"=some (.bind (.builtin "getset_descriptor.__get__") (.builtin "object.__class__")):=by
  obtain⟨cd,hc⟩:=Option.isSome_iff_exists.mp k.cl
  unfold PySem.W.findObj
  rw[hc,Option.bind_some,k.ca,Option.bind_some]
  simp[k.hn,k.tk]
 unfold getAttr? getAttrBy?
 refine wpAny_bind (wpAny_mkText (wpAny_bind (wpAny_attempt (exc_by (s:={ s with toks:=s.toks+1 }) k X I rfl (.inr ⟨_,_,hf,fun A' R q=>PySem.W.class_get (s:={ s with toks:=s.toks+1 }) X I k.ob q⟩) ?_))))
 exact wpAny_pure h
theorem kitx_exc (k:ExcK K D):PySem.W.KitX K (.ref x) (.ref D) (fun h=>PySem.W.InstAt h x ox D odo) where
 ty:=fun _ _ _ I=>I.type
 it:=fun _ _ X _=>by
  obtain⟨cdD,hcD⟩:=Option.isSome_iff_exists.mp k.cl
  unfold PySem.W.clsIn at hcD
  split at hcD
  ·rename_i c' d' cd' sl' ho
   intro A' Q' E' s' kk q
   unfold isType loadHead
   exact wpAny_bind (wpAny_loadPart (kk _ _ (X _ _ ho)) (wpAny_pure q))
  ·cases hcD
 ne:=fun h tp dd its n sl X htp=>by
  obtain⟨cdD,hcD⟩:=Option.isSome_iff_exists.mp k.cl
  refine Bool.eq_false_iff.mpr fun q=>?_
  have e:D=tp:=Value.ref.inj (beq_iff_eq.mp q)
  subst e
  unfold PySem.W.clsIn at hcD
  split at hcD
  ·rename_i c' d' cd' sl' ho
   have z:=(X _ _ ho).symm.trans htp
   cases z
  ·cases hcD
 ca:=fun X I h=>exc_class k X I h
end
section
variable {X:Cx}
theorem exc_inst {pins:List (Addr × Obj)}{σ:St}{H:Hp}{s:Shared}{a C:Addr}(I:Inv X pins σ H s)(e:H a=some (excO a (.ref C) none)):∃ox,PySem.W.InstAt s.heap a ox C none:=by
 obtain⟨⟨o,vs,h1,h2,h3,h4⟩,_⟩:=(show ObjOk X.prog X.w H s.heap a (excO a (.ref C) none) from I.hok a _ e)
 refine⟨o,h1,h2,?_,?_⟩
 ·unfold PySem.W.notCls;rw[h4]
 ·rw[h3];trivial
theorem call_isiX:CallR X (.builtin "isinstance") (fun xs H Q=>∃a C c cv b,xs=[.ref a,c]∧H a=some (excO a (.ref C) none)∧ExcK X.K C∧RelV c cv∧(∀u,RelV c u→u=cv)∧PySem.W.kitOne X.K (.ref C) cv=some b∧Q (.bl b) H):=by
 intro pins s σ H xs us Q I r h
 obtain⟨a,C,c,cv,b,rfl,ha,k,rc,ru,e,q⟩:=h
 obtain⟨u,w',rfl,rx,rn⟩:=vals2 r
 cases (show u=Value.ref a from rx)
 cases ru w' rn
 obtain⟨ox,hi⟩:=exc_inst I ha
 exact PySem.W.kia_one (kitx_exc (ox:=ox) (odo:=none) k) I.kIn hi e (fun z=>nomatch z) fun tk=>⟨.bl b,H,I.tok tk,rfl,q⟩
theorem pe_cls {x:Str}{C:Addr}{pos:Pos}(hg:Gl X x)(hm:X.mg x=some (.ref C))(hd:(x == ("__debug__":Str))=false:=by decide):PE X (.Name x pos) (tC (.ref C)):=pe_glob hg hm rfl hd
end
end L2
namespace Mq
theorem minus_low {p q:Q2}(hp:1≤p.2)(hq:1≤q.2):Low (minus p q):=red_low (mul_ne hp hq)
theorem over_ne {p q:Q2}(hp:1≤p.2)(hq:q.1≠0):p.2*q.1≠0:=Int.mul_ne_zero (by omega) hq
theorem over_low {p q:Q2}(hp:1≤p.2)(hq:q.1≠0):Low (over p q):=red_low (over_ne hp hq)
theorem minus_bd {n m:Nat}{p q:Q2}(h:Bd n p)(g:Bd m q)(hp:1≤p.2)(hq:1≤q.2):Bd (n+m+1) (minus p q):=by
 have k:=red_le (t:=p.1*q.2 - q.1*p.2) (mul_ne hp hq)
 have a2:B (n+m) (q.1*p.2):=by rw[Nat.add_comm];exact g.a.mul h.b
 exact⟨((h.a.mul g.b).sub a2).le k.1,((h.b.mul g.b).mono (Nat.le_succ _)).le k.2⟩
theorem over_bd {n m:Nat}{p q:Q2}(h:Bd n p)(g:Bd m q)(hp:1≤p.2)(hq:q.1≠0):Bd (n+m) (over p q):=by
 have k:=red_le (t:=p.1*q.2) (over_ne hp hq)
 exact⟨(h.a.mul g.b).le k.1,(h.b.mul g.a).le k.2⟩
end Mq
namespace L2
open PySem PySem.Spec PyProof.Rows
def spUnder (K:PySem.W.Frag):Sp:=fun vs H Q _=>∃(a b:Addr) (p q:Mq.Q2) (n m:Nat),vs=[.ref a,.ref b]∧Fq K H a p∧Fq K H b q∧Mq.Bd n p∧Mq.Bd m q∧n+m+1≤9000∧Q (.bl (decide (p.1*q.2 < q.1*p.2))) H
end L2
set_option maxHeartbeats 2000000
namespace L2
open PySem PySem.Spec PyProof.Rows
inductive TyQ (K:PySem.W.Frag) (H:Hp):V→Value→Prop where
 |of {x:V} {t:Value} (h:TyOf K H x t):TyQ K H x t
 |tup {a:Addr} {xs:List V} (h:SqT K H a xs):TyQ K H (.ref a) (.type "tuple")
 |lst {a:Addr} {xs:List V} (h:SqL K H a xs):TyQ K H (.ref a) (.type "list")
section
variable {X:Cx} {pins:List (Addr × Obj)} {σ:St} {H:Hp} {s:Shared} {A:Around} {E:Value→Shared→Prop} {Q:Value→Shared→Prop} {c:Value} {b:Bool}
theorem isinst_okQ {x:V}{u t:Value}(I:Inv X pins σ H s)(rx:RelV x u)(ty:TyQ X.K H x t)(e:PySem.W.kitOne X.K t c=some b)(h:∀tk,Q (.bool b) { s with toks:=tk }) :
  wpAny (model X.prog X.w) A (call (.builtin "isinstance") [u,c]) Q E s:=by
 cases ty with
 |of ty=>exact isinst_ok I rx ty e h
 | @tup a xs ht=>
  cases (show u=Value.ref a from rx)
  obtain⟨its,_,p,_⟩:=I.tuple ht
  obtain⟨o,h1,h2,_⟩:=p
  exact PySem.W.kia_one PySem.W.kitx_tuple I.kIn ⟨o,h1,h2⟩ e (fun z=>nomatch z) h
 | @lst a xs ht=>
  cases (show u=Value.ref a from rx)
  obtain⟨its,_,p,_⟩:=I.list ht
  obtain⟨o,h1,h2,_⟩:=p.isList
  exact PySem.W.kia_one PySem.W.kitx_list I.kIn ⟨_,h1,h2⟩ e (fun z=>nomatch z) h
end
section
variable {X:Cx}
theorem call_isiQ:CallR X (.builtin "isinstance") (fun xs H Q=>∃x n t b,xs=[x,.ty n]∧TyQ X.K H x t∧PySem.W.kitOne X.K t (.type n)=some b∧Q (.bl b) H):=by
 intro pins s σ H vs us Q I rv h
 obtain⟨x,n,t,b,rfl,ty,e,q⟩:=h
 obtain⟨u,u2,rfl,r1,r2⟩:=vals2 rv
 cases (show u2=Value.type n from r2)
 exact isinst_okQ I r1 ty e fun tk=>⟨.bl b,H,I.tok tk,rfl,q⟩
theorem pe_isiQ {i:Nat}{x T:Str}{T':String}{p1 p2 p3 pos:Pos}(hN:X.N[i]?=some x)(hv:Vis X.env.scope x)(b:X.mg "isinstance"=none)(b2:X.mg T=none)(g1:Gl X "isinstance")(g2:Gl X T)(hT:bootBuiltins T=some (.type T'))(hd:(x == ("__debug__":Str))=false:=by decide)(hcd:(x == ("__classdict__":Str))=false:=by decide)(hTn:T≠"__name__":=by decide)(hTd:(T == ("__debug__":Str))=false:=by decide)(he:starEach [.Name x p2,.Name T p3] X.env=(false,eval (.Name x p2) X.env) :: starEach [.Name T p3] X.env:=by rfl)(he2:starEach [.Name T p3] X.env=(false,eval (.Name T p3) X.env) :: starEach [] X.env:=by rfl)(hpl:(backTo pos (starEach [.Name T p3] X.env)).any (·.1)=false:=by rfl) :
  PE X (.Call (.Name "isinstance" p1) [.Name x p2,.Name T p3] [] pos) (fun σ H Q=>∃v t b,σ[i]?=some (some v)∧TyQ X.K H v t∧PySem.W.kitOne X.K t (.type T')=some b∧Q (.bl b) H):=by
 have h:=pe_callB (X:=X) (pos:=pos) (p:=p1) call_isiQ g1 b PyProof.Rows.boot_isinstance (pa_cons (pe_var (i:=i) (pos:=p2) hN hv hd hcd) (pa_cons (pe_bltn (v:=.ty T') (pos:=p3) g2 b2 hT rfl hTn hTd) pa_nil he2) he) (by decide) (by decide) he hpl
 intro pins s σ H Q I q
 obtain⟨v,t,bb,h1,h2,h3,h4⟩:=q
 exact h pins s σ H Q I ⟨v,h1,v,T',t,bb,rfl,h2,h3,h4⟩
end
theorem SqL.upd {K:PySem.W.Frag}{H:Hp}{a l:Addr}{xs:List V}{o:HO}(h:SqL K H a xs)(ne:a≠l):SqL K (L2.upd H l o) a xs:=by
 rcases h with (h | ⟨u,h⟩) | h
 ·exact .inl (.inl (by rw[upd_ne ne];exact h))
 ·exact .inl (.inr ⟨u,by rw[upd_ne ne];exact h⟩)
 ·exact .inr h
theorem SqT.upd {K:PySem.W.Frag}{H:Hp}{a l:Addr}{xs ys:List V}{o:HO}(h:SqT K H a xs)(hl:H l=some (.lst ys)):SqT K (L2.upd H l o) a xs:=by
 rcases h with (h | ⟨u,h⟩) | h
 ·exact .inl (.inl (by rw[upd_ne (ne_of h hl (fun z=>by cases z))];exact h))
 ·exact .inl (.inr ⟨u,by rw[upd_ne (ne_of h hl (fun z=>by cases z))];exact h⟩)
 ·exact .inr h
theorem ints_dat {K:PySem.W.Frag}{H:Hp}:∀ns:List Int,DatVs K H (ns.map V.int) (ns.map PyData.int)
 | []=>.nil
 |n :: r=>.cons (.int n) (ints_dat r)
theorem ints_lay:∀ns:List Int,PyData.canLayAll0 (ns.map PyData.int)=true
 | []=>rfl
 |n :: r=>by
  show ((PyData.int n).canLay0 && PyData.canLayAll0 (r.map PyData.int))=true
  rw[ints_lay r];rfl
theorem cut_ints (ns:List Int)(lo hi:Option Int):∃ms:List Int,cutV (ns.map V.int) lo hi=ms.map V.int∧ms.length≤ns.length:=by
 refine⟨(ns.drop (HT.sIx (ns.map V.int).length 0 lo)).take (HT.sIx (ns.map V.int).length (ns.map V.int).length hi - HT.sIx (ns.map V.int).length 0 lo),?_,?_⟩
 ·unfold cutV;rw[List.map_take,List.map_drop]
 ·rw[List.length_take,List.length_drop];omega
theorem keep2 {fr:List Nat}{σ:St}{x y:V}:(((σC 2 fr σ).set 0 (some x)).set 1 (some y)).length=(σC 2 fr σ).length∧∀(i:Nat) v,(σC 2 fr σ)[i]?=some (some v)→(((σC 2 fr σ).set 0 (some x)).set 1 (some y))[i]?=some (some v):=by
 refine⟨by simp,fun i v h=>?_⟩
 match i with
 |0=>unfold σC at h;simp at h
 |1=>unfold σC at h;simp at h
 |k+2=>rw[List.getElem?_set_ne (by omega),List.getElem?_set_ne (by omega)];exact h
theorem Fqs.set {K:PySem.W.Frag}{H:Hp}{a:Addr}{p:Mq.Q2}(h:Fq K H a p):∀{xs:List V} {ps:List Mq.Q2} (i:Nat),Fqs K H xs ps→Fqs K H (xs.set i (.ref a)) (ps.set i p)
 |_,_,_,.nil=>.nil
 |_,_,0,.cons _ q=>.cons h q
 |_,_,i+1,.cons g q=>.cons g (Fqs.set h i q)
theorem Fqs.at {K:PySem.W.Frag}{H:Hp}:∀{xs:List V} {ps:List Mq.Q2} {i:Nat} {p:Mq.Q2},Fqs K H xs ps→ps[i]?=some p→∃a,xs[i]?=some (.ref a)∧Fq K H a p
 |_,_,_,_,.nil,h=>by simp at h
 |_,_,0,_,.cons h _,e=>by simp at e;subst e;exact⟨_,rfl,h⟩
 |_,_,i+1,_,.cons _ q,e=>by simpa using Fqs.at q (by simpa using e)
theorem B_of {n:Nat}{i:Int}(lo:-(2 ^ n:Int) < i)(hi:i < 2 ^ n):Mq.B n i:=by
 unfold Mq.B
 have e:((2 ^ n:Nat):Int)=2 ^ n:=by simp
 omega
theorem ixN_nat {n k:Nat}(h:k < n):ixN n (k:Int)=some k:=by
 unfold ixN
 rw[if_pos (by omega),if_pos (by omega)]
 simp
section
variable {X:Cx} {tg:Expr}
def rAll (K:PySem.W.Frag):List V→Hp→VK→Prop:=fun xs H Q=>∃(p:Addr) (bs:List Bool),xs=[.ref p]∧SqL K H p (bs.map V.bl)∧Q (.bl (bs.all id)) H
theorem call_all (hc:X.calm=true):CallR X (.builtin "all") (rAll X.K):=by
 intro pins s σ H xs us Q I r h
 obtain⟨p,bs,rfl,hq,q⟩:=h
 obtain⟨u,rfl,rx⟩:=vals1 r
 cases rx
 obtain⟨its,rv,pl,hz⟩:=I.list hq
 have hlen:its.toArray.size=bs.length:=by rw[List.size_toArray,← rv.length,List.length_map]
 have hne:p≠s.heap.objs.size:=by
  obtain⟨o,e,_⟩:=pl.isList
  exact Nat.ne_of_lt (Heap.lt_size e)
 refine call_all_walk (wpAny_pyIter_list pl.isList ?_)
 refine⟨s.heap.objs.size,_,_,_,_,_,fun i=>bs.getD i false,rfl,Walks.list (by exact I.ok.hd hc) s.heap.objs.size p hne its.toArray,⟨⟨_,Heap.get?_push_size _ rfl,rfl,rfl⟩,?_⟩,?_,?_⟩
 ·obtain⟨o,e,c⟩:=pl.isList
  exact⟨o,Heap.get?_push_of_some _ e,c⟩
 ·intro i v s' Q' E' hv q'
  have hv':its[i]?=some v:=by simpa using hv
  have hi:i < its.length:=(List.getElem?_eq_some_iff.mp hv').1
  have hb:(bs.map V.bl)[i]?=some (.bl (bs.getD i false)):=by
   rw[List.getElem?_map,List.getElem?_eq_getElem (by rw[← hlen];simpa using hi)]
   simp[List.getD,List.getElem?_eq_getElem (show i < bs.length by rw[← hlen];simpa using hi)]
  obtain⟨u,hu,ru⟩:=rv.get hb
  have e:u=v:=by rw[hv'] at hu;cases hu;rfl
  subst e
  cases ru
  exact wpAny_truthy_bool q'
 ·intro h' tk kk
  have e:(List.range its.toArray.size).all (fun i=>bs.getD i false)=bs.all id:=by
   rw[hlen,Bool.eq_iff_iff,List.all_eq_true,List.all_eq_true]
   constructor
   ·intro z b hb
    obtain⟨i,hi,rfl⟩:=List.getElem_of_mem hb
    have:=z i (List.mem_range.mpr hi)
    simpa[List.getD,List.getElem?_eq_getElem hi] using this
   ·intro z i hi
    have hi':=List.mem_range.mp hi
    have:=z bs[i] (List.getElem_mem hi')
    simpa[List.getD,List.getElem?_eq_getElem hi'] using this
  rw[e]
  refine⟨.bl _,H,I.kept (t':=tk) fun b o hb=>?_,rfl,q⟩
  have hb2:b≠s.heap.objs.size:=Nat.ne_of_lt (Heap.lt_size hb)
  exact kk b o (by simpa using hb2) (Heap.get?_push_of_some _ hb)
end
def tMethD {ι:Type}(C:ι→Addr)(m:Str)(sp:ι→Sp)(dvs:List V)(E:XK)(ta:TE)(t:TA):TE:=fun σ H Q=>ta σ H fun x H1=>∃i a dx fs,x=.ref a∧H1 a=some (.ins (C i) dx fs)∧fs.lookup m=none∧
 t σ H1 fun vs H2=>sp i (x :: (vs++dvs)) H2 Q E
section
variable {X:Cx} {ι:Type} {C f:ι→Addr} {fd:ι→FuncData} {sp:ι→Sp} {m:Str} {CX:CXT} {k:Nat} {ps:List Str} {ds:List Value} {dvs:List V} {E:XK} {o e:Expr} {es:List Expr} {ta:TE} {t:TA} {apos pos:Pos}
theorem pe_methD0 {pl:Sem Bool}(he:PE X o ta)(c:∀i,Cls X.K (C i))(hm:∀i,Meth X.K (C i) m (f i))(F:∀i,FnOk X.prog X.w X.K X.mg X.base CX k (f i) (fd i) ps (sp i))(hr:Room k X.A)(hb:∀i,Binds X.K (fd i) ps ds)(hd:Vals dvs ds)(hx:Passes CX X E)(ht:eval (.Call (.Attribute o m apos) [] [] pos) X.env=(do
   let ov ← eval o X.env
   standAt apos.atName
   let (f,first) ← holding [ov] (getMethod ov m pl)
   callWith pos f first (backTo pos (starEach [] X.env)) (backToKw pos (keywordEach [] X.env))):=by rfl) :
  PE X (.Call (.Attribute o m apos) [] [] pos) (tMethD C m sp dvs E ta tNil):=by
 intro pins s σ H Q I h
 refine PySem.W.methodCall_KW (pl:=pl) (thn (he pins s σ H _ I h) fun u s1 ⟨x,H1,I1,rx,i,a,dx,fs,ex,ea,l,q⟩=>?_) ht
 subst ex
 obtain rfl:u=Value.ref a:=rx
 refine getmeth_ok I1 ea (c i) (hm i) l ?_
 exact PySem.W.callWith_K0 (first:=[.ref a]) I1.kIn (hm i).kp (run_fn (us:=[.ref a]) (vs:=[.ref a]) (F i) hr (hb i) hd hx I1 (.cons rfl .nil) q)
end
inductive Kd where
 |pc | pu | ho
 deriving DecidableEq
def Kd.wd:Kd→Str
 | .pc=>"piece"
 | .pu=>"push"
 | .ho=>"hold"
def Kd.cn:Kd→Str
 | .pc=>"Piece"
 | .pu=>"Push"
 | .ho=>"Hold"
theorem Kd.wd_inj {k j:Kd}(h:k.wd=j.wd):k=j:=by
 cases k<;>cases j<;>first | rfl | exact absurd h (by decide +kernel)
theorem fsg:¬(("start":Str) = "goal"):=by decide +kernel
theorem fsz:¬(("start":Str) = "size"):=by decide +kernel
theorem fgz:¬(("goal":Str) = "size"):=by decide +kernel
def rflds (s g z:V):List (Str × V):=putF "size" z (putF "goal" g (putF "start" s []))
theorem rflds_start (s g z:V):(rflds s g z).lookup ("start":Str)=some s:=by
 unfold rflds
 rw[lookup_putF,if_neg fsz,lookup_putF,if_neg fsg,lookup_putF,if_pos rfl]
theorem rflds_goal (s g z:V):(rflds s g z).lookup ("goal":Str)=some g:=by
 unfold rflds
 rw[lookup_putF,if_neg fgz,lookup_putF,if_pos rfl]
theorem rflds_size (s g z:V):(rflds s g z).lookup ("size":Str)=some z:=by
 unfold rflds
 rw[lookup_putF,if_pos rfl]
theorem rflds_no (s g z:V){m:Str}(h1:¬m = "start")(h2:¬m = "goal")(h3:¬m = "size"):(rflds s g z).lookup m=none:=by
 unfold rflds
 rw[lookup_putF,if_neg h3,lookup_putF,if_neg h2,lookup_putF,if_neg h1]
 rfl
def Rw (CK:Kd→Addr)(H:Hp)(x:Addr)(k:Kd)(s g z:V):Prop:=∃dx,H x=some (.ins (CK k) dx (rflds s g z))
theorem Rw.same {CK:Kd→Addr}{H H':Hp}{x:Addr}{k:Kd}{s g z:V}(e:Same H H')(h:Rw CK H x k s g z):Rw CK H' x k s g z:=let ⟨dx,q⟩:=h;⟨dx,e _ _ q⟩
theorem Rw.upd {CK:Kd→Addr}{H:Hp}{x l:Addr}{k:Kd}{s g z:V}{ys:List V}{o:HO}(h:Rw CK H x k s g z)(hl:H l=some (.lst ys)):Rw CK (L2.upd H l o) x k s g z:=let ⟨dx,q⟩:=h;⟨dx,by rw[upd_ne (ne_of q hl (fun z=>by cases z))];exact q⟩
structure RT (K:PySem.W.Frag) (mg:Str→Option Value) (CR:Addr) (CK:Kd→Addr):Prop where
 cl:∀k,Cls K (CK k)
 nS:∀k,NoAttr K (CK k) "start"
 nG:∀k,NoAttr K (CK k) "goal"
 nZ:∀k,NoAttr K (CK k) "size"
 t1:∀k,PySem.W.findIn K (.ref (CK k)) "__class__"=some (some (.builtin "object.__class__"))
 t2:PySem.W.specialIn K (.builtin "object.__class__") "__get__"=some (some (.builtin "getset_descriptor.__get__"))
 t3:PySem.W.takesIn K (.builtin "object.__class__")=some true
 t4:∀k,PySem.W.mroIn K (CK k) (.type "object")=some true
 isR:∀k,PySem.W.kitOne K (.ref (CK k)) (.ref CR)=some true
 isK:∀k j,PySem.W.kitOne K (.ref (CK k)) (.ref (CK j))=some (decide (k=j))
 mR:mg "Row"=some (.ref CR)
 mK:∀k,mg (Kd.cn k)=some (.ref (CK k))
section
variable {K:PySem.W.Frag} {mg:Str→Option Value} {CR:Addr} {CK:Kd→Addr} {H:Hp} {x:Addr} {k:Kd} {s g z:V}
theorem Rw.new {C x dx:Addr}{fs:List (Str × V)}(h1:H x=none)(h2:H dx=none)(ne:dx≠x):Same H (L2.upd (L2.upd H dx (.own x)) x (.ins C dx fs)):=fun b o e=>by
 rw[upd_ne (ne_of_none e h1),upd_ne (ne_of_none e h2)];exact e
end
def spRInit (CK:Kd→Addr):Sp:=fun vs H Q _=>∃(x dx:Addr) (k:Kd) (s g z:V),vs=[.ref x,s,g,z]∧H x=some (.ins (CK k) dx [])∧Q .non (upd H x (.ins (CK k) dx (rflds s g z)))
def spWord (k:Kd):Sp:=fun vs H Q _=>∃x,vs=[x]∧Q (.str k.wd) H
def spJoins (k:Kd):Sp:=fun vs H Q _=>∃x,vs=[x]∧Q (.bl (decide (k≠.pu))) H
def spRTold (CK:Kd→Addr):Sp:=fun vs H Q _=>∃(x:Addr) (k:Kd) (s g z:V),vs=[.ref x]∧Rw CK H x k s g z∧∀t,H t=none→Q (.ref t) (upd H t (.tup [.str k.wd,s,g,z]))
def NewR (CK:Kd→Addr)(H:Hp)(Q:VK)(k:Kd)(s g z:V):Prop:=∀x H',Same H H'→H x=none→Rw CK H' x k s g z→Q (.ref x) H'
theorem rd_eqS {K:PySem.W.Frag}{H:Hp}{x y:V}{d:PyData}{neg:Bool}{Q:VK}(h1:DatV K H x d)(h2:DatV K H y d)(hl:d.canLay0=true)(hd:d.depth≤16)(z:Q (.bl (!neg)) H):rDat K neg x y H Q:=by
 refine⟨d,d,h1,h2,hl,hl,by omega,?_⟩
 have e:PyData.eqv d d=true:=PySem.SeqAt.eqv_refl _ hl
 rw[e]
 cases neg<;>exact z
def rd4 (w:Str)(i j:Int)(p:Mq.Q2):PyData:=.tuple [.str w,.int i,.int j,qd p]
theorem rd4_lay {w:Str}(h:(PyData.str w).canLay0=true)(i j:Int)(p:Mq.Q2):(rd4 w i j p).canLay0=true:=by
 show ((PyData.str w).canLay0 && ((PyData.int i).canLay0 && ((PyData.int j).canLay0 && ((qd p).canLay0 && true))))=true
 rw[h];rfl
theorem Kd.lay (k:Kd):(PyData.str k.wd).canLay0=true:=by cases k<;>decide +kernel
theorem ifT {c:Bool}{A B:Prop}(h:c=true)(x:A):if c=true then A else B:=by rw[if_pos h];exact x
theorem ifF {c:Bool}{A B:Prop}(h:c=false)(x:B):if c=true then A else B:=by rw[if_neg (by rw[h];decide)];exact x
theorem rd4_dat {K:PySem.W.Frag}{H:Hp}{t a:Addr}{w:Str}{i j:Int}{p:Mq.Q2}(h:SqT K H t [.str w,.int i,.int j,.ref a])(f:Fq K H a p):DatV K H (.ref t) (rd4 w i j p):=.tup h (.cons (.str _) (.cons (.int _) (.cons (.int _) (.cons f.dat .nil))))
theorem dec_wd (k j:Kd):decide (V.str k.wd=V.str j.wd)=decide (k=j):=by
 by_cases h:k=j
 ·subst h;simp
 ·rw[decide_eq_false h]
  exact decide_eq_false fun z=>h (Kd.wd_inj (V.str.inj z))
end L2
namespace L2
theorem all3 {p:Kd→Prop}(a:p .pc)(b:p .pu)(c:p .ho):∀k,p k:=fun k=>by cases k<;>assumption
theorem kit_self (K:PySem.W.Frag)(t:PySem.Value):PySem.W.kitOne K t t=some true:=by unfold PySem.W.kitOne;rw[if_pos (beq_self_eq_true _)]
def kd3 {α:Type}(a b c:α):Kd→α
 | .pc=>a
 | .pu=>b
 | .ho=>c
end L2
set_option maxHeartbeats 1000000
namespace L2
open PySem PySem.Spec PyProof.Rows
section
variable {κ:Type} [DecidableEq κ]
def valV (kvs:List (κ × V))(k:κ):Option V:=(kvs.find? fun kv=>decide (kv.1=k)).map (·.2)
def putK (kvs:List (κ × V))(k:κ)(v:V):List (κ × V):=
 if (kvs.any fun kv=>decide (kv.1=k))=true then kvs.map (fun kv=>if kv.1=k then (kv.1,v) else kv) else kvs++[(k,v)]
theorem valV_pos {p:κ × V}{r:List (κ × V)}{k:κ}(e:p.1=k):valV (p :: r) k=some p.2:=by simp[valV,List.find?_cons,e]
theorem valV_neg {p:κ × V}{r:List (κ × V)}{k:κ}(e:¬p.1=k):valV (p :: r) k=valV r k:=by simp[valV,List.find?_cons,e]
theorem length_putK (kvs:List (κ × V))(k:κ)(v:V):(putK kvs k v).length≤kvs.length+1:=by
 unfold putK
 split
 ·rw[List.length_map];omega
 ·rw[List.length_append,List.length_cons,List.length_nil];omega
theorem RelO.isSome_eq {o:Option V}{u:Option Value}(r:RelO o u):o.isSome=u.isSome:=by
 cases o with
 |none=>cases u with
  |none=>rfl
  |some _=>exact(show False from r).elim
 |some _=>cases u with
  |none=>exact(show False from r).elim
  |some _=>rfl
theorem KV.val {kvs:List (κ × V)}{vs:List (κ × Value)}(r:KV kvs vs)(k:κ):RelO (valV kvs k) (valueAt vs k):=by
 unfold KV at r
 induction r with
 |nil=>exact True.intro
 | @cons p q ps qs h t ih=>
  obtain⟨h1,h2⟩:=h
  by_cases e:p.1=k
  ·have e':q.1=k:=h1.symm.trans e
   have b:valueAt (q :: qs) k=some q.2:=by simp[valueAt,List.find?_cons,e']
   rw[valV_pos e,b];exact h2
  ·have e':¬q.1=k:=fun z=>e (h1.trans z)
   have b:valueAt (q :: qs) k=valueAt qs k:=by simp[valueAt,List.find?_cons,e']
   rw[valV_neg e,b];exact ih
theorem KV.any {kvs:List (κ × V)}{vs:List (κ × Value)}(r:KV kvs vs)(k:κ):(kvs.any fun kv=>decide (kv.1=k))=vs.any fun kv=>decide (kv.1=k):=by
 unfold KV at r
 induction r with
 |nil=>rfl
 |cons h t ih=>rw[List.any_cons,List.any_cons,ih,h.1]
theorem KV.repl {kvs:List (κ × V)}{vs:List (κ × Value)}(r:KV kvs vs)(k:κ){y:V}{u:Value}(ry:RelV y u) :
  KV (kvs.map fun kv=>if kv.1=k then (kv.1,y) else kv) (vs.map fun kv=>if kv.1=k then (kv.1,u) else kv):=by
 unfold KV at r ⊢
 induction r with
 |nil=>exact .nil
 | @cons p q ps qs h t ih=>
  rw[List.map_cons,List.map_cons]
  refine .cons ?_ ih
  obtain⟨h1,h2⟩:=h
  by_cases e:p.1=k
  ·rw[if_pos e,if_pos (h1.symm.trans e)];exact⟨h1,ry⟩
  ·rw[if_neg e,if_neg (fun z=>e (h1.trans z))];exact⟨h1,h2⟩
theorem KV.put {kvs:List (κ × V)}{vs:List (κ × Value)}(r:KV kvs vs)(k:κ){y:V}{u:Value}(ry:RelV y u):KV (putK kvs k y) (stored vs k u):=by
 unfold putK stored
 rw[r.any k]
 by_cases e:(vs.any fun kv=>decide (kv.1=k))=true
 ·rw[if_pos e,if_pos e];exact r.repl k ry
 ·rw[if_neg e,if_neg e];exact Paired.snoc r ⟨rfl,ry⟩
theorem KV.length {kvs:List (κ × V)}{vs:List (κ × Value)}(r:KV kvs vs):kvs.length=vs.length:=Paired.length r
end
theorem kV_is {P:Program}{w:World}{k:Key}{u:Value}(r:RelV (kV k) u):(mixKind P w).is k u=true:=by
 cases k with
 |inl i=>obtain⟨t,e⟩:=(show ∃t,u=Value.int i t from r);subst e;exact mixKind_int P w i t
 |inr x=>obtain⟨t,e⟩:=(show ∃t,u=Value.str x t from r);subst e;exact mixKind_str P w x t
theorem items_are {P:Program}{w:World}:∀{ks:List Key} {us:List Value},Vals (ks.map kV) us→ItemsAre (mixKind P w) ks us
 | [],_,r=>by rw[List.map_nil] at r;cases r;exact .nil
 |k :: ks,_,r=>by
  rw[List.map_cons] at r
  cases r with
  |cons h t=>exact .cons (kV_is h) (items_are t)
abbrev KT (H:Hp):List (List Key × V)→List (List Key × Addr × Value)→Prop:=Paired fun p q=>p.1=q.1∧H q.2.1=some (.tup (p.1.map kV))∧RelV p.2 q.2.2
theorem KT.val {H:Hp}{kvs:List (List Key × V)}{xs:List (List Key × Addr × Value)}(r:KT H kvs xs)(k:List Key):RelO (valV kvs k) ((atKey xs k).map (·.2)):=by
 induction r with
 |nil=>exact True.intro
 | @cons p q ps qs h t ih=>
  obtain⟨h1,_,h2⟩:=h
  by_cases e:p.1=k
  ·have e':q.1=k:=h1.symm.trans e
   have b:atKey (q :: qs) k=some q.2:=by simp[atKey,List.find?_cons,e']
   rw[valV_pos e,b];exact h2
  ·have e':¬q.1=k:=fun z=>e (h1.trans z)
   have b:atKey (q :: qs) k=atKey qs k:=by simp[atKey,List.find?_cons,e']
   rw[valV_neg e,b];exact ih
section
variable {P:Program} {w:World} {H:Hp} {h:Heap} {a:Addr}
theorem rd_of {u:HO}(ok:HOk P w H h)(e:Rd H a u):ObjOk P w H h a u:=e.ok ok
theorem dk_rd {kvs:List (Key × V)}(ok:HOk P w H h)(e:Rd H a (.dK kvs)):kvs.length≤sizeLine∧(a == sysModules)=false∧∃vs,KV kvs vs∧h.DictOf (mixKind P w) a vs:=
 show ObjOk P w H h a (.dK kvs) from rd_of ok e
theorem dk_of {kvs:List (Key × V)}(ok:HOk P w H h)(e:H a=some (.dK kvs)):kvs.length≤sizeLine∧(a == sysModules)=false∧∃vs,KV kvs vs∧h.DictOf (mixKind P w) a vs:=dk_rd ok (.inl e)
theorem key_of {ks:List Key}(ok:HOk P w H h)(e:H a=some (.tup (ks.map kV))):(tupleKind (mixKind P w)).is h ks a:=by
 obtain⟨_,its,r,o,h1,h2,n,h3⟩:=(show ObjOk P w H h a (.tup (ks.map kV)) from ok a _ e)
 exact⟨o,its.toArray,n,h1,h2,h3,by simpa using items_are r⟩
theorem dt_rd {kvs:List (List Key × V)}(ok:HOk P w H h)(e:Rd H a (.dT kvs)):kvs.length≤sizeLine∧(a == sysModules)=false∧
  ∃xs,KT H kvs xs∧h.DictOfH (tupleKind (mixKind P w)) a xs:=by
 obtain⟨z,y,xs,r,o,es,ep,h1,h2,h3,h4,h5⟩:=(show ObjOk P w H h a (.dT kvs) from rd_of ok e)
 refine⟨z,y,xs,r,o,es,ep,h1,h2,h3,h4,fun x hx=>?_,h5⟩
 have all:∀{l:List (List Key × V)} {m:List (List Key × Addr × Value)},KT H l m→∀x∈m,(tupleKind (mixKind P w)).is h x.1 x.2.1:=by
  intro l m q
  induction q with
  |nil=>intro x hx;exact nomatch hx
  | @cons p q ps qs hq t ih=>
   intro x hx
   rcases List.mem_cons.mp hx with e | hx
   ·subst e
    exact key_of ok (by rw[← hq.1];exact hq.2.1)
   ·exact ih x hx
 exact all r x hx
end
def DGet (H:Hp)(a:Addr)(y:V)(r:Option V):Prop:=
 (∃kvs k,Rd H a (.dK kvs)∧y=kV k∧r=valV kvs k)∨∃kvs k b,Rd H a (.dT kvs)∧y=.ref b∧H b=some (.tup (k.map kV))∧r=valV kvs k
theorem DGet.k {H:Hp}{a:Addr}{kvs:List (Key × V)}{k:Key}(e:H a=some (.dK kvs)):DGet H a (kV k) (valV kvs k):=.inl ⟨kvs,k,.inl e,rfl,rfl⟩
section
variable {X:Cx} {pins:List (Addr × Obj)} {σ:St} {H:Hp} {s:Shared} {a:Addr} {y v:V} {u r:Value} {o:Option V} {A:Around} {E:Value→Shared→Prop}
theorem Inv.big (I:Inv X pins σ H s):sysModules < s.heap.objs.size:=by
 have h:mainGlobals < s.heap.objs.size:=(I.mod.glob.keeps I.bk).lt
 exact Nat.lt_trans (by decide) h
theorem d_getItem {Q:Value→Shared→Prop}(hu:A.units+1 < cLine)(I:Inv X pins σ H s)(g:DGet H a y (some v))(ry:RelV y u)(h:∀w' s',Inv X pins σ H s'→RelV v w'→Q w' s') :
  wpAny (model X.prog X.w) A (getItem (.ref a) u) Q E s:=by
 rcases g with ⟨kvs,k,e,ey,l⟩ | ⟨kvs,k,b,e,ey,eb,l⟩
 ·subst ey
  obtain⟨z,hd,vs,rel,dd⟩:=dk_rd I.hok e
  obtain⟨w',hw,rw'⟩:=RelO.some_of (v:=v) (o:=valueAt vs k) (by rw[l];exact rel.val k)
  exact wpAny_getItem_of (kV_is ry) dd.mapOf hw (h w' _ (I.tok _) rw')
 ·subst ey
  cases (show u=Value.ref b from ry)
  obtain⟨z,hd,xs,rel,dd⟩:=dt_rd I.hok e
  obtain⟨w',hw,rw'⟩:=RelO.some_of (v:=v) (o:=(atKey xs k).map (·.2)) (by rw[l];exact rel.val k)
  obtain⟨p,hp,hp2⟩:=Option.map_eq_some_iff.mp hw
  refine wpAny_getItem_heap (tupleKind_room_in1 hu) (key_of I.hok eb) dd hp ?_
  rw[hp2]
  exact h w' _ (I.tok _) rw'
theorem d_write {h':Heap}{t':Nat}{ob:HO}(I:Inv X pins σ H s)(mu:Mut (H a))(hs:Heap.SameBut a s.heap h')(he:∃q,h'.get? a=some q)(new:ObjOk X.prog X.w (upd H a ob) h' a ob) :
  Inv X pins σ (upd H a ob) { s with heap:=h',toks:=t' }:=
 I.write (x:=a) (e:=a) mu (.inl rfl) (fun b q hb z=>(hs.2 b hb).trans z) he new
theorem dk_new {P:Program}{w:World}{H':Hp}{h':Heap}{kvs:List (Key × V)}{vs:List (Key × Value)}(z:kvs.length≤sizeLine)(hd:(a == sysModules)=false)(rel:KV kvs vs)(dd:h'.DictOf (mixKind P w) a vs) :
  ObjOk P w H' h' a (.dK kvs):=⟨z,hd,vs,rel,dd⟩
end
def NoSl (i:Expr):Prop:=∀ov iv,subscripted i false ov iv=operate [ov,iv] (getItem ov iv)
theorem subD_of {prog:Program}{w:World}{A:Around}{E:Value→Shared→Prop}{s:Shared}{env:Env}{value slice:Expr}{pos:Pos}{T id:String}{Q:Value→Shared→Prop}(hl:typeLookup (.type T) "__getitem__"=pure (some (.builtin id)))(hs:NoSl slice)(h:wpAny (model prog w) A (eval value env) (fun o s₁=>wpAny (model prog w) A (eval slice env) (fun i s₂=>s₂.TypeIs o T∧wpAny (model prog w) A (getItem o i) Q E s₂) E s₁) E s) :
  wpAny (model prog w) A (eval (.Subscript value slice pos) env) Q E s:=by
 refine Subscript_ (wpAny_mono h (fun o s₁ h₁=>wpAny_mono h₁ (fun i s₂ h₂=>?_) fun _ _ x=>x) fun _ _ x=>x)
 obtain⟨hT,h₂⟩:=h₂
 unfold subscriptTail
 refine wpAny_bind ?_
 rw[getitemInPython_of_ne hT.not_modules]
 refine wpAny_bind (wpAny_specialOf hT hl ?_)
 have fin:wpAny (model prog w) A (subscripted slice false o i) (fun r s₃=>wpAny (model prog w) A (letTemporaryGo value o r >>= fun _=>pure r) Q E s₃) E s₂:=by
  rw[hs o i]
  exact wpAny_operating (wpAny_mono h₂ (fun r s₃ h₃=>wpAny_bind (wpAny_letTemporaryGo (wpAny_pure h₃))) fun _ _ x=>x)
 first
  |exact wpAny_pure (wpAny_bind fin)
  |exact wpAny_bind (wpAny_pure (wpAny_bind fin))
  |exact wpAny_bind fin
theorem dict_typeIs {X:Cx}{pins:List (Addr × Obj)}{σ:St}{H:Hp}{s:Shared}{a:Addr}{y:V}{o:Option V}(I:Inv X pins σ H s)(g:DGet H a y o):s.TypeIs (.ref a) "dict":=by
 rcases g with ⟨kvs,k,e,_,_⟩ | ⟨kvs,k,b,e,_,_,_⟩
 ·obtain⟨_,_,vs,_,dd⟩:=dk_rd I.hok e
  exact dd.typeIs
 ·obtain⟨_,_,xs,_,dd⟩:=dt_rd I.hok e
  exact dd.typeIs
def tDGet (td ty:TE):TE:=fun σ H Q=>td σ H fun x H1=>ty σ H1 fun y H2=>∃a v,x=.ref a∧DGet H2 a y (some v)∧Q v H2
section
variable {X:Cx} {o i e value:Expr} {pos pos' tpos:Pos} {td ty tv:TE}
theorem pe_dget (hu:X.A.units+1 < cLine)(ho:PE X o td)(hi:PE X i ty)(hs:NoSl i):PE X (.Subscript o i pos) (tDGet td ty):=by
 intro pins s σ H Q I h
 refine subD_of PySem.F.slot_dict_getitem.lookup hs (thn (ho pins s σ H _ I h) fun u s1 ⟨x,H1,I1,rx,q1⟩=>thn (hi pins s1 σ H1 _ I1 q1) fun iv s2 ⟨y,H2,I2,ry,a,v,ex,g,q2⟩=>?_)
 subst ex
 obtain rfl:u=Value.ref a:=rx
 exact⟨dict_typeIs I2 g,d_getItem hu I2 g ry fun w' s3 I3 rw'=>⟨v,H2,I3,rw',q2⟩⟩
end
theorem dk_empty {P:Program}{w:World}{H:Hp}(h:Heap)(hb:sysModules < h.objs.size):ObjOk P w H (h.push { cls:=.type "dict",data:=.dict #[] }) h.objs.size (.dK []):=
 ⟨Nat.zero_le _,beq_eq_false_iff_ne.mpr (Ne.symm (Nat.ne_of_lt hb)),[],.nil,Heap.DictOf.new h⟩
def tDNewK:TE:=fun _ H Q=>∀p,H p=none→Q (.ref p) (upd H p (.dK []))
section
variable {X:Cx} {pos:Pos}
theorem pe_dnewK:PE X (.Dict [] [] pos) tDNewK:=fun pins s σ H Q I h=>
 wpAny_Dict_empty ⟨.ref s.heap.objs.size,_,I.laid (a:=s.heap.objs.size) (o:=.dK []) (t':=s.toks) (fun _ _ q=>Heap.get?_push_of_some _ q) (Nat.le_refl _) (dk_empty s.heap I.big),rfl,h _ (I.hok.fresh (Nat.le_refl _))⟩
end
def tPairs:List (TE × TE)→St→Hp→(List (V × V)→Hp→Prop)→Prop
 | [],_,H,Q=>Q [] H
 | (tk,tv) :: r,σ,H,Q=>tk σ H fun x H1=>tv σ H1 fun y H2=>tPairs r σ H2 fun ps H3=>Q ((x,y) :: ps) H3
abbrev VV:List (V × V)→List (Value × Value)→Prop:=Paired fun p q=>RelV p.1 q.1∧RelV p.2 q.2
def PPs (X:Cx)(pos:Pos)(keys:List (Option Expr))(values:List Expr)(trs:List (TE × TE)):Prop:=
 ∀(pins:List (Addr × Obj)) (s:Shared) (σ:St) (H:Hp) (Q:List (V × V)→Hp→Prop),Inv X pins σ H s→tPairs trs σ H Q→
  wpAny (model X.prog X.w) X.A (evalPairs (pairTrees keys values X.env pos)) (fun vs s'=>∃ps H',Inv X pins σ H' s'∧VV ps vs∧Q ps H') X.xe s
theorem pps_nil {X:Cx}{pos:Pos}:PPs X pos [] [] []:=fun pins s σ H Q I h=>pairTrees_nil_walk ⟨[],H,I,.nil,h⟩
theorem pps_cons {X:Cx}{pos:Pos}{k v:Expr}{ks:List (Option Expr)}{vs:List Expr}{tk tv:TE}{trs:List (TE × TE)}(hk:PE X k tk)(hv:PE X v tv)(hr:PPs X pos ks vs trs) :
  PPs X pos (some k :: ks) (v :: vs) ((tk,tv) :: trs):=fun pins s σ H Q I h=>
 pairTrees_cons_walk (thn (hk pins s σ H _ I h) fun u s1 ⟨x,H1,I1,rx,q1⟩=>thn (hv pins s1 σ H1 _ I1 q1) fun w2 s2 ⟨y,H2,I2,ry,q2⟩=>
  thn (hr pins s2 σ H2 _ I2 q2) fun ws s3 ⟨ps,H3,I3,rel,q3⟩=>⟨(x,y) :: ps,H3,I3,.cons ⟨rx,ry⟩ rel,q3⟩)
def mergeK (kvs more:List (Key × V)):List (Key × V):=more.foldl (fun acc kv=>putK acc kv.1 kv.2) kvs
theorem KV.merge:∀{more:List (Key × V)} {rs:List (Key × Value)} {kvs:List (Key × V)} {vs:List (Key × Value)},KV more rs→KV kvs vs→KV (mergeK kvs more) (merged vs rs):=by
 intro more rs kvs vs r
 unfold KV at r
 induction r generalizing kvs vs with
 |nil=>intro q;exact q
 | @cons p q ps qs h t ih=>
  intro r0
  have e:KV (putK kvs p.1 p.2) (stored vs q.1 q.2):=by
   have:=r0.put p.1 h.2
   rw[← h.1];exact this
  exact ih e
theorem length_mergeK:∀(more kvs:List (Key × V)),(mergeK kvs more).length≤kvs.length+more.length
 | [],kvs=>by show kvs.length≤kvs.length+0;omega
 |p :: r,kvs=>by
  have h1:=length_mergeK r (putK kvs p.1 p.2)
  have h2:=length_putK kvs p.1 p.2
  show (mergeK (putK kvs p.1 p.2) r).length≤_
  rw[List.length_cons];omega
theorem carries_of {P:Program}{w:World}:∀{kvs:List (Key × V)} {ws:List (Value × Value)},VV (kvs.map fun kv=>(kV kv.1,kv.2)) ws→∃rs,Carries (mixKind P w) ws rs∧KV kvs rs
 | [],_,r=>by rw[List.map_nil] at r;cases r;exact⟨[],True.intro,.nil⟩
 |p :: kvs,_,r=>by
  rw[List.map_cons] at r
  cases r with
  | @cons a b as bs h t=>
   obtain⟨rs,c,q⟩:=carries_of (P:=P) (w:=w) t
   obtain⟨b1,b2⟩:=b
   exact⟨(p.1,b2) :: rs,⟨kV_is h.1,rfl,c⟩,.cons ⟨rfl,h.2⟩ q⟩
def tDisp (trs:List (TE × TE)):TE:=fun σ H Q=>∀p,H p=none→tPairs trs σ (upd H p (.dK [])) fun ps H2=>H2 p=some (.dK [])∧∃kvs:List (Key × V),ps=kvs.map (fun kv=>(kV kv.1,kv.2))∧kvs.length≤15∧Q (.ref p) (upd H2 p (.dK (mergeK [] kvs)))
theorem pe_disp {X:Cx}{pos:Pos}{keys:List (Option Expr)}{values:List Expr}{trs:List (TE × TE)}(h:PPs X pos keys values trs)(hall:keys.all (·.isSome)=true)(hl:keys.length=values.length)(h0:keys≠[])(h15:keys.length≤15):PE X (.Dict keys values pos) (tDisp trs):=by
 intro pins s σ H Q I q
 have hn:=I.hok.fresh (Nat.le_refl s.heap.objs.size)
 have I1:=I.laid (a:=s.heap.objs.size) (o:=.dK []) (h':=s.heap.push { cls:=.type "dict",data:=.dict #[] }) (t':=s.toks) (fun _ _ q=>Heap.get?_push_of_some _ q) (Nat.le_refl _) (dk_empty s.heap I.big)
 refine wpAny_Dict_walk (knd:=mixKind X.prog X.w) hall hl h0 h15 (thn (h pins _ σ _ _ I1 (q _ hn)) fun ws s2 ⟨ps,H2,I2,rel,e,kvs,ep,lk,q2⟩=>?_)
 subst ep
 obtain⟨rs,c,rk⟩:=carries_of (P:=X.prog) (w:=X.w) rel
 obtain⟨z,hd,vs0,r0,dd⟩:=dk_of I2.hok e
 cases r0
 refine⟨rs,c,dd,fun h' dd' hs=>⟨.ref s.heap.objs.size,_,?_,rfl,q2⟩⟩
 have hz:(mergeK [] kvs).length≤sizeLine:=by
  have h1:=length_mergeK kvs []
  rw[List.length_nil] at h1
  rw[sizeLine_eq];omega
 have he:∃q,h'.get? s.heap.objs.size=some q:=let ⟨q,_,_,hq,_⟩:=dd';⟨q,hq⟩
 exact d_write I2 (by rw[e];exact True.intro) hs he (dk_new hz hd (rk.merge .nil) dd')
structure M2 (X:Cx) (o:Expr) (m:Str) (apos:Pos) (e f:Expr) (cpos:Pos):Prop where
 base:attributeBase o m X.env (eval o X.env)=eval o X.env
 few:((backTo cpos (starEach [e,f] X.env)).all (fun x=>!x.1) && (backToKw cpos (keywordEach [] X.env)).all (fun x=>x.1.isSome)
  && decide (([e,f]:List Expr).length+([]:List Keyword).length+(if ([]:List Keyword).isEmpty then 0 else 1) < 30))=true
 line:(apos.endLine == cpos.line)=true
 trees:backTo cpos (starEach [e,f] X.env)=[(false,eval e X.env),(false,eval f X.env)]
def IsD (H:Hp)(a:Addr):Prop:=(∃kvs,Rd H a (.dK kvs))∨∃kvs,Rd H a (.dT kvs)
theorem isD_at {X:Cx}{pins:List (Addr × Obj)}{σ:St}{H:Hp}{s:Shared}{a:Addr}(I:Inv X pins σ H s)(d:IsD H a) :
  s.TypeIs (.ref a) "dict"∧(∀b,Value.ref a=.ref b→∃ob,s.heap.get? b=some ob∧ob.dict=none)∧(a == sysModules)=false:=by
 rcases d with ⟨kvs,e⟩ | ⟨kvs,e⟩
 ·obtain⟨_,hd,vs,_,dd⟩:=dk_rd I.hok e
  refine⟨dd.typeIs,fun b q=>?_,hd⟩
  cases q
  obtain⟨ob,_,_,h1,h2,_⟩:=dd
  exact⟨ob,h1,h2.2.1⟩
 ·obtain⟨_,hd,xs,_,dd⟩:=dt_rd I.hok e
  refine⟨dd.typeIs,fun b q=>?_,hd⟩
  cases q
  obtain⟨ob,_,_,h1,h2,_⟩:=dd
  exact⟨ob,h1,h2.2.1⟩
end L2
set_option maxHeartbeats 2000000
namespace L2
open PySem PySem.Spec PyProof.Rows
theorem ints_depth:∀ns:List Int,PyData.depthAll (ns.map PyData.int)≤1
 | []=>by simp[PyData.depthAll]
 |n :: r=>by
  have b:=ints_depth r
  simp only[List.map_cons,PyData.depthAll,PyData.depth]
  omega
theorem rd_eqI {K:PySem.W.Frag}{H:Hp}{a b:Addr}{ns:List Int}{neg:Bool}{Q:VK}(h1:SqL K H a (ns.map V.int))(h2:SqL K H b (ns.map V.int))(z:Q (.bl (!neg)) H):rDat K neg (.ref a) (.ref b) H Q:=
 rd_eqS (d:=.list (ns.map PyData.int)) (.lst h1 (ints_dat ns)) (.lst h2 (ints_dat ns)) (ints_lay ns) (by have:=ints_depth ns;simp only[PyData.depth];omega) z
theorem Fq.mod {K:PySem.W.Frag}{a:Addr}{d:Option Addr}{n:Nat}{sl:Array (Option Value)}{i j:Int}{t u:Tok}(l:K.lookup a=some ⟨.type "tuple",d,.seq #[.int i t,.int j u] n,sl⟩)(H:Hp):Fq K H a (i,j):=
 .inr ⟨_,_,_,l,rfl,rfl,(by show 2≤sizeLine;decide),.cons ⟨_,rfl⟩ (.cons ⟨_,rfl⟩ .nil)⟩
abbrev RD:=Kd × Int × Int × Mq.Q2
inductive Rts (K:PySem.W.Frag) (H:Hp):List V→List RD→Prop where
 |nil:Rts K H [] []
 |cons {t z:Addr} {k:Kd} {i j:Int} {p:Mq.Q2} {xs:List V} {ds:List RD} (h:SqT K H t [.str k.wd,.int i,.int j,.ref z]) (f:Fq K H z p) (q:Rts K H xs ds):Rts K H (.ref t :: xs) ((k,i,j,p) :: ds)
section
variable {K:PySem.W.Frag} {H H':Hp}
theorem Rts.same (e:Same H H'):∀{xs:List V} {ds:List RD},Rts K H xs ds→Rts K H' xs ds
 |_,_,.nil=>.nil
 |_,_,.cons h f q=>.cons (e.seqT h) (e.fq f) (Rts.same e q)
theorem Rts.length:∀{xs:List V} {ds:List RD},Rts K H xs ds→xs.length=ds.length
 |_,_,.nil=>rfl
 |_,_,.cons _ _ q=>by simp[Rts.length q]
theorem Rts.app:∀{xs ys:List V} {ds es:List RD},Rts K H xs ds→Rts K H ys es→Rts K H (xs++ys) (ds++es)
 |_,_,_,_,.nil,r=>r
 |_,_,_,_,.cons h f q,r=>.cons h f (Rts.app q r)
theorem Rts.at:∀{xs:List V} {ds:List RD} {q:Nat} {d:RD},Rts K H xs ds→ds[q]?=some d→∃t z,xs[q]?=some (.ref t)∧SqT K H t [.str d.1.wd,.int d.2.1,.int d.2.2.1,.ref z]∧Fq K H z d.2.2.2
 |_,_,_,_,.nil,h=>by simp at h
 |_,_,0,_,.cons h f _,e=>by simp at e;subst e;exact⟨_,_,rfl,h,f⟩
 |_,_,i+1,_,.cons _ _ q,e=>by simpa using Rts.at q (by simpa using e)
theorem Rts.upd {l:Addr}{ys:List V}{o:HO}(hl:H l=some (.lst ys)):∀{xs:List V} {ds:List RD},Rts K H xs ds→Rts K (L2.upd H l o) xs ds
 |_,_,.nil=>.nil
 |_,_,.cons h f q=>.cons (h.upd hl) (f.upd hl) (Rts.upd hl q)
def rdd (d:RD):PyData:=rd4 d.1.wd d.2.1 d.2.2.1 d.2.2.2
theorem Rts.dat:∀{xs:List V} {ds:List RD},Rts K H xs ds→DatVs K H xs (ds.map rdd)
 |_,_,.nil=>.nil
 |_,_,.cons h f q=>.cons (rd4_dat h f) (Rts.dat q)
theorem rdds_lay:∀ds:List RD,PyData.canLayAll0 (ds.map rdd)=true
 | []=>rfl
 |d :: r=>by
  show ((rdd d).canLay0 && PyData.canLayAll0 (r.map rdd))=true
  rw[rdds_lay r,show (rdd d).canLay0=true from rd4_lay (Kd.lay _) _ _ _];rfl
theorem rdds_depth:∀ds:List RD,PyData.depthAll (ds.map rdd)≤3
 | []=>by simp[PyData.depthAll]
 |d :: r=>by
  have b:=rdds_depth r
  have a:(rdd d).depth≤3:=by simp[rdd,rd4,qd,PyData.depth,PyData.depthAll]
  simp only[List.map_cons,PyData.depthAll]
  omega
theorem rd_eqR {a b:Addr}{xs ys:List V}{ds:List RD}{neg:Bool}{Q:VK}(h1:SqL K H a xs)(h2:SqL K H b ys)(f1:Rts K H xs ds)(f2:Rts K H ys ds)(z:Q (.bl (!neg)) H):rDat K neg (.ref a) (.ref b) H Q:=
 rd_eqS (d:=.list (ds.map rdd)) (.lst h1 f1.dat) (.lst h2 f2.dat) (rdds_lay ds) (by have:=rdds_depth ds;simp only[PyData.depth];omega) z
end
def SameX (l:Addr)(H H':Hp):Prop:=∀b o,H b=some o→b≠l→H' b=some o
theorem Same.x {l:Addr}{H H':Hp}(s:Same H H'):SameX l H H':=fun b o h _=>s b o h
theorem SameX.write {l:Addr}{H H1:Hp}{o:HO}(a:SameX l H H1):SameX l H (upd H1 l o):=fun c u h n=>by rw[upd_ne n];exact a c u h n
theorem fpk:¬(("point_count":Str) = "kept"):=by decide +kernel
def nflds (m:Int)(l:Addr):List (Str × V):=putF "kept" (.ref l) (putF "point_count" (.int m) [])
theorem nflds_pc (m:Int)(l:Addr):(nflds m l).lookup ("point_count":Str)=some (.int m):=by
 unfold nflds
 rw[lookup_putF,if_neg fpk,lookup_putF,if_pos rfl]
theorem nflds_kept (m:Int)(l:Addr):(nflds m l).lookup ("kept":Str)=some (.ref l):=by
 unfold nflds
 rw[lookup_putF,if_pos rfl]
theorem nflds_no (m:Int)(l:Addr){x:Str}(h1:¬x = "point_count")(h2:¬x = "kept"):(nflds m l).lookup x=none:=by
 unfold nflds
 rw[lookup_putF,if_neg h2,lookup_putF,if_neg h1]
 rfl
def RdOk (m:Int)(d:RD):Prop:=0≤d.2.1∧d.2.1 < m∧0≤d.2.2.1∧d.2.2.1 < m∧Mq.Low d.2.2.2∧(d.1=.pc→0 < d.2.2.2.1)∧Mq.Bd 100 d.2.2.2
structure NetAt (CN:Addr) (K:PySem.W.Frag) (H:Hp) (n l:Addr) (m:Int) (ds:List RD):Prop where
 ob:∃dx,H n=some (.ins CN dx (nflds m l))
 ls:∃ts,H l=some (.lst ts)∧Rts K H ts ds
theorem NetAt.same {CN:Addr}{K:PySem.W.Frag}{H H':Hp}{n l:Addr}{m:Int}{ds:List RD}(e:Same H H')(h:NetAt CN K H n l m ds):NetAt CN K H' n l m ds:=
 let ⟨⟨dx,a⟩,ts,b,c⟩:=h;⟨⟨dx,e _ _ a⟩,ts,e _ _ b,c.same e⟩
structure NT (K:PySem.W.Frag) (mg:Str→Option Value) (CN:Addr):Prop where
 cl:Cls K CN
 nP:NoAttr K CN "point_count"
 nK:NoAttr K CN "kept"
 t1:PySem.W.findIn K (.ref CN) "__class__"=some (some (.builtin "object.__class__"))
 t2:PySem.W.specialIn K (.builtin "object.__class__") "__get__"=some (some (.builtin "getset_descriptor.__get__"))
 t3:PySem.W.takesIn K (.builtin "object.__class__")=some true
 t4:PySem.W.mroIn K CN (.type "object")=some true
 mN:mg "Net"=some (.ref CN)
def spRowOfG (K:PySem.W.Frag)(CK:Kd→Addr):Sp:=fun vs H Q _=>∃(t:Addr) (v s g z:V),vs=[.ref t]∧SqT K H t [v,s,g,z]∧∃k:Kd,v=.str k.wd∧NewR CK H Q k s g z
def spIsF (K:PySem.W.Frag):Sp:=fun vs H Q _=>∃(a:Addr) (p:Mq.Q2),vs=[.ref a]∧Fq K H a p∧Mq.Low p∧Q (.bl true) H
def spPS (K:PySem.W.Frag):Sp:=fun vs H Q _=>∃(a:Addr) (p:Mq.Q2) (n:Nat),vs=[.ref a]∧Fq K H a p∧Mq.Low p∧0 < p.1∧Mq.Bd n p∧n≤8000∧Q (.bl true) H
def spNB:Sp:=fun vs H Q _=>∃i b:Int,vs=[.int i,.int b]∧0≤i∧i < b∧Q (.bl true) H
def spRS (K:PySem.W.Frag):Sp:=fun vs H Q _=>∃(k:Kd) (z:Addr) (p:Mq.Q2),vs=[.str k.wd,.ref z]∧Fq K H z p∧Mq.Low p∧(k=.pc→0 < p.1)∧Mq.Bd 100 p∧Q .non H
def spNInit (CN:Addr):Sp:=fun vs H Q _=>∃(n dx:Addr) (m:Int),vs=[.ref n,.int m]∧H n=some (.ins CN dx [])∧1≤m∧m≤20∧∀l H',H l=none→(∀b o,H b=some o→b≠n→H' b=some o)→H' n=some (.ins CN dx (nflds m l))→H' l=some (.lst [])→Q .non H'
def spMany (CN:Addr)(K:PySem.W.Frag):Sp:=fun vs H Q _=>∃(n l:Addr) (m:Int) (ds:List RD),vs=[.ref n]∧NetAt CN K H n l m ds∧Q (.int m) H
def spCount (CN:Addr)(K:PySem.W.Frag):Sp:=fun vs H Q _=>∃(n l:Addr) (m:Int) (ds:List RD),vs=[.ref n]∧NetAt CN K H n l m ds∧Q (.int ds.length) H
def spNTold (CN:Addr)(K:PySem.W.Frag):Sp:=fun vs H Q _=>∃(n l:Addr) (m:Int) (ds:List RD),vs=[.ref n]∧NetAt CN K H n l m ds∧∀a ts H',Same H H'→H a=none→H' a=some (.lst ts)→Rts K H' ts ds→Q (.ref a) H'
theorem cut1 {a1 u:TS}{D:Ends}{σ:St}{H:Hp}(P:St→Hp→Prop)(h1:∀X:St→Hp→Prop,(∀σ' H',P σ' H'→X σ' H')→(a1) { D with nx:=X } σ H)(h2:∀σ' H',P σ' H'→u D σ' H'):(tSeq a1 (u)) D σ H:=h1 _ h2
theorem cut2 {a1 a2 u:TS}{D:Ends}{σ:St}{H:Hp}(P:St→Hp→Prop)(h1:∀X:St→Hp→Prop,(∀σ' H',P σ' H'→X σ' H')→(tSeq a1 (a2)) { D with nx:=X } σ H)(h2:∀σ' H',P σ' H'→u D σ' H'):(tSeq a1 (tSeq a2 (u))) D σ H:=h1 _ h2
theorem cut3 {a1 a2 a3 u:TS}{D:Ends}{σ:St}{H:Hp}(P:St→Hp→Prop)(h1:∀X:St→Hp→Prop,(∀σ' H',P σ' H'→X σ' H')→(tSeq a1 (tSeq a2 (a3))) { D with nx:=X } σ H)(h2:∀σ' H',P σ' H'→u D σ' H'):(tSeq a1 (tSeq a2 (tSeq a3 (u)))) D σ H:=h1 _ h2
theorem cut4 {a1 a2 a3 a4 u:TS}{D:Ends}{σ:St}{H:Hp}(P:St→Hp→Prop)(h1:∀X:St→Hp→Prop,(∀σ' H',P σ' H'→X σ' H')→(tSeq a1 (tSeq a2 (tSeq a3 (a4)))) { D with nx:=X } σ H)(h2:∀σ' H',P σ' H'→u D σ' H'):(tSeq a1 (tSeq a2 (tSeq a3 (tSeq a4 (u))))) D σ H:=h1 _ h2
end L2
namespace Mq
def val (p:Q2):Rat:=(p.1:Rat) / (p.2:Rat)
theorem cast_ne {b:Int}(h:b≠0):(b:Rat)≠0:=fun e=>h (Rat.intCast_inj.mp (by simpa using e))
theorem val_eq_div {p:Q2}{t b:Int}(hp:p.2≠0)(hb:b≠0)(h:p.1*b=t*p.2):val p=(t:Rat) / (b:Rat):=by
 unfold val
 have h1:=cast_ne hp
 have h2:=cast_ne hb
 have h3:(p.1:Rat)*(b:Rat)=(t:Rat)*(p.2:Rat):=by rw[← Rat.intCast_mul,← Rat.intCast_mul,h]
 grind
theorem val_red {t b:Int}(hb:b≠0):val (red t b)=(t:Rat) / (b:Rat):=by
 have:=(red_low (t:=t) hb).pos
 exact val_eq_div (by omega) hb (red_cross hb)
theorem low_ext {p q:Q2}(hp:Low p)(hq:Low q)(h:val p=val q):p=q:=by
 refine low_same hp hq ?_
 have p1:=cast_ne (show p.2≠0 by have:=hp.pos;omega)
 have q1:=cast_ne (show q.2≠0 by have:=hq.pos;omega)
 unfold val at h
 have:(p.1:Rat)*(q.2:Rat)=(q.1:Rat)*(p.2:Rat):=by grind
 rw[← Rat.intCast_mul,← Rat.intCast_mul] at this
 exact Rat.intCast_inj.mp this
theorem val_plus {p q:Q2}(hp:1≤p.2)(hq:1≤q.2):val (plus p q)=val p+val q:=by
 have p1:=cast_ne (show p.2≠0 by omega)
 have q1:=cast_ne (show q.2≠0 by omega)
 unfold plus
 rw[val_red (mul_ne hp hq),Rat.intCast_add,Rat.intCast_mul,Rat.intCast_mul,Rat.intCast_mul]
 unfold val
 grind
theorem val_minus {p q:Q2}(hp:1≤p.2)(hq:1≤q.2):val (minus p q)=val p - val q:=by
 have p1:=cast_ne (show p.2≠0 by omega)
 have q1:=cast_ne (show q.2≠0 by omega)
 unfold minus
 rw[val_red (mul_ne hp hq),Rat.intCast_sub,Rat.intCast_mul,Rat.intCast_mul,Rat.intCast_mul]
 unfold val
 grind
theorem val_over {p q:Q2}(hp:1≤p.2)(hq:1≤q.2)(h0:q.1≠0):val (over p q)=val p / val q:=by
 have p1:=cast_ne (show p.2≠0 by omega)
 have q1:=cast_ne (show q.2≠0 by omega)
 have q2:=cast_ne h0
 unfold over
 rw[val_red (over_ne hp h0),Rat.intCast_mul,Rat.intCast_mul]
 unfold val
 grind
theorem val01:val (0,1)=0:=by unfold val;simp;grind
theorem val11:val (1,1)=1:=by unfold val;simp;grind
structure Ps (p:Q2):Prop where
 low:Low p
 pos:0 < p.1
theorem Ps.b {p:Q2}(h:Ps p):1≤p.2:=h.low.pos
theorem Ps.ne {p:Q2}(h:Ps p):p.1≠0:=by have:=h.pos;omega
theorem red_pos {t b:Int}(ht:0 < t)(hb:0 < b):0 < (red t b).1:=by
 have h1:=red_cross (t:=t) (b:=b) (by omega)
 have h2:=(red_low (t:=t) (b:=b) (by omega)).pos
 have h3:0 < t*(red t b).2:=Int.mul_pos ht (by omega)
 rw[← h1] at h3
 exact Int.pos_of_mul_pos_left h3 (by omega)
theorem red_ps {t b:Int}(ht:0 < t)(hb:0 < b):Ps (red t b):=⟨red_low (by omega),red_pos ht hb⟩
abbrev z0:Q2:=(0,1)
def inv (p:Q2):Q2:=(p.2,p.1)
theorem inv_ps {p:Q2}(h:Ps p):Ps (inv p):=⟨⟨h.pos,by
 have:=h.low.one
 unfold inv
 unfold gc at *
 rw[Int.gcd_comm]
 exact this⟩,by have:=h.b;show 0 < p.2;omega⟩
abbrev Row:=Nat × Nat × Q2
def lcmS (L b:Int):Int:=Int.fdiv L (gc L b)*b
theorem lcmS_parts {L b:Int}(hL:1≤L)(hb:1≤b):1≤lcmS L b∧(∃j,lcmS L b=L*j)∧(∃k,lcmS L b=k*b∧1≤k)∧lcmS L b≤L*b:=by
 have gp:0 < gc L b:=gc_pos (by omega)
 have d1:gc L b ∣ L:=by unfold gc;exact Int.gcd_dvd_left ..
 have d2:gc L b ∣ b:=by unfold gc;exact Int.gcd_dvd_right ..
 obtain⟨k,hk⟩:=d1
 obtain⟨j,hj⟩:=d2
 have ek:Int.fdiv L (gc L b)=k:=fdiv_exact (by omega) hk
 have k1:1≤k:=by
  have:0 < gc L b*k:=by omega
  have:=Int.pos_of_mul_pos_right this (by omega)
  omega
 unfold lcmS
 rw[ek]
 refine⟨?_,⟨j,?_⟩,⟨k,rfl,k1⟩,?_⟩
 ·have:0 < k*b:=Int.mul_pos (by omega) (by omega)
  omega
 ·generalize gc L b=g at *
  rw[hk,hj];grind
 ·have:k≤L:=by
   rw[hk]
   have:=Int.mul_le_mul_of_nonneg_right (show 1≤gc L b by omega) (show 0≤k by omega)
   omega
  exact Int.mul_le_mul_of_nonneg_right this (by omega)
def lcmB (ps:List Q2):Int:=ps.foldl (fun L p=>lcmS L p.2) 1
theorem lcmB_snoc (ps:List Q2)(p:Q2):lcmB (ps++[p])=lcmS (lcmB ps) p.2:=by unfold lcmB;rw[List.foldl_append];rfl
theorem lcmB_take {ps:List Q2}{i:Nat}{p:Q2}(h:ps[i]?=some p):lcmB (ps.take (i+1))=lcmS (lcmB (ps.take i)) p.2:=by
 rw[List.take_add_one,h];exact lcmB_snoc _ _
theorem lcmB_facts {ps:List Q2}(hp:Pos ps){n:Nat}(hb:∀p∈ps,Bd n p):∀i,i≤ps.length→1≤lcmB (ps.take i)∧B (1+n*i) (lcmB (ps.take i))∧∀p∈ps.take i,∃k,lcmB (ps.take i)=k*p.2
 |0,_=>⟨by show (1:Int)≤1;omega,show (1:Nat) < 2 ^ (1+n*0) by simp,fun p h=>by simp at h⟩
 |i+1,hi=>by
  obtain⟨h1,h2,h3⟩:=lcmB_facts hp hb i (by omega)
  have e:ps[i]?=some ps[i]:=List.getElem?_eq_getElem (by omega)
  have mem:ps[i]∈ps:=List.getElem_mem _
  rw[lcmB_take e]
  obtain⟨l1,⟨j,l2⟩,⟨k,l3,l4⟩,l5⟩:=lcmS_parts h1 (hp _ mem)
  refine⟨l1,?_,fun p hpp=>?_⟩
  ·have:=h2.mul (hb _ mem).b
   refine B.mono (n:=1+n*i+n) (this.le ?_) (by rw[Nat.mul_succ];omega)
   have h0:1≤ps[i].2:=hp _ mem
   have:0≤lcmB (ps.take i)*ps[i].2:=Int.mul_nonneg (by omega) (by omega)
   omega
  ·rw[List.take_add_one,e] at hpp
   rcases List.mem_append.mp hpp with z | z
   ·obtain⟨q,hq⟩:=h3 p z
    exact⟨q*j,by rw[l2,hq];grind⟩
   ·have:p=ps[i]:=by simpa using z
    rw[this];exact⟨k,l3⟩
def iwOf (L:Int)(p:Q2):Int:=p.1*Int.fdiv L p.2
def iw (ps:List Q2):List Int:=ps.map (iwOf (lcmB ps))
end Mq
namespace L2
open PySem PySem.Spec PyProof.Rows
section
variable {M:Model} {A:Around} {E:Value→Shared→Prop} {s:Shared}
theorem newEnv_comp {scope:Scope}{globals:Addr}{cl:List (Str × Addr)}{qual:Str}{env:Env}{Q:Env→Shared→Prop}(hQ:Q { scope:=scope,locals:=s.heap.objs.size,globals:=globals,cells:=cellsFrom (s.heap.objs.size+1) scope.names cl,qual:=qual,func:=none,code:=env.code,frame:=env.frame,builtins:=env.builtins } { s with heap:=pushCells (s.heap.push { cls:=.type "dict",data:=.dict #[] }) scope.names }) :
  wpAny M A (newFunctionEnv scope globals cl [] qual none .none (some env)) Q E s:=by
 simp only[newFunctionEnv,Option.isSome_some,if_true]
 refine wpAny_bind (wpAny_alloc ?_)
 refine wpAny_bind (wpAny_layCells _ (fun name kind cells=>by cases hkc:kind == NameKind.cell<;>simp[hkc]) _ _ _ _ ?_)
 rw[show ({ s with heap:=s.heap.push { cls:=.type "dict",data:=.dict #[] } }:Shared).heap.objs.size=s.heap.objs.size+1 from Heap.size_push ..]
 exact wpAny_bind (wpAny_pure (wpAny_pure hQ))
end
abbrev compEnv1 (scope:Scope)(cl:List (Str × Addr))(x0:Str)(C:Addr)(env:Env):Env:={ compEnvC scope cl C env with cells:=(x0,C+1) :: cl }
structure CompOk1 (X:Cx) (scope:Scope) (cl:List (Str × Addr)) (x0:Str) (Nc:List Str) (nl:Nat) (fr:List Nat):Prop where
 clos:closureFor scope X.env=pure cl
 kind:scope.kind=.function
 names:∀y∈scope.names,y.2=.local→scope.names.lookup y.1=some .local
 one:∀n,cellsFrom n scope.names cl=(x0,n) :: cl
 psh:∀h,pushCells h scope.names=h.push { cls:=.type "cell",data:=.cell none }
 nin:cl.lookup x0=none
 sub:∀x c,cl.lookup x=some c→X.env.cells.lookup x=some c
 has:∀C x,(relabel scope X.env).names.lookup x=some .cell∨(relabel scope X.env).names.lookup x=some .free→∃c,((x0,C) :: cl).lookup x=some c
 len:Nc.length=nl+fr.length
 tail:∀i n,Nc[nl+i]?=some n→∃j,fr[i]?=some j∧X.N[j]?=some n∧X.env.kindOf n=some .cell∧cl.lookup n=X.env.cells.lookup n∧((relabel scope X.env).names.lookup n=some .cell∨(relabel scope X.env).names.lookup n=some .free)
abbrev compCx1 (X:Cx)(scope:Scope)(cl:List (Str × Addr))(x0:Str)(Nc:List Str)(C:Addr)(s3:Shared)(H3:Hp)(fp:List Addr)(pins:List (Addr × Obj)):Cx:=
 { X with N:=Nc,s₀:=s3,H₀:=H3,env:=compEnv1 scope cl x0 C X.env,outer:=X.stack,ex:=fp,fn:=fun x=>x == x0,pn:=X.pn++pins,xe:=fun _ _=>False }
section
variable {X:Cx} {scope:Scope} {cl:List (Str × Addr)} {x0:Str} {Nc:List Str} {nl:Nat} {fr:List Nat} {pins:List (Addr × Obj)} {σ:St} {H3:Hp} {s3:Shared} {fp:List Addr} {h4:Heap} {tk:Nat}
theorem comp_start1 (ck:CompOk1 X scope cl x0 Nc nl fr)(I:Inv X pins σ H3 s3)(hf:∀b∈fp,FpOk X pins H3 b)(hfs:∀b∈fp,b < s3.heap.objs.size)(hns:h4.Ns s3.heap.objs.size fun _=>none)(hce:h4.IsCell (s3.heap.objs.size+1) none)(hk:∀b o,s3.heap.get? b=some o→h4.get? b=some o) :
  Inv (compCx1 X scope cl x0 Nc s3.heap.objs.size s3 H3 fp pins) [] (σC nl fr σ) H3 { s3 with heap:=h4,toks:=tk }:=by
 have stk:∀b∈frs X.stack,b∈X.env.locals :: X.fs:=I.stkSub
 have nfs:∀b,b≠X.env.locals→b∉X.fs→b∉frs X.stack:=fun b h1 h2 z=>(List.mem_cons.mp (stk b z)).elim h1 h2
 have ltc:∀x c,cl.lookup x=some c→c < s3.heap.objs.size:=fun x c e=>by
  obtain⟨v,z⟩:=I.cell x c (ck.sub x c e)
  exact z.lt
 have lk:∀x c,((x0,s3.heap.objs.size+1) :: cl).lookup x=some c→(x=x0∧c=s3.heap.objs.size+1)∨cl.lookup x=some c:=fun x c e=>by
  rw[List.lookup_cons] at e
  cases q:x == x0 with
  |true=>rw[q] at e;cases e;exact .inl ⟨eq_of_beq q,rfl⟩
  |false=>rw[q] at e;exact .inr e
 refine⟨⟨I.ok.mod,ck.kind,I.ok.glob,I.ok.blt,Nat.le_refl _,fun x y c h1 h2=>?inj,fun x hx=>ck.has _ x hx,fun x c hz hl=>?cab,I.ok.hd,I.ok.frames,.inl rfl,fun b hb=>?_,I.bs,Nat.le_trans I.ok.bsz I.sz,fun b o e hb=>?_,fun b hb=>?_,I.stack,I.stkFree⟩,
  rfl,I.bare,Un.kept hk,⟨_,hns,fun i x v h1 h2 h3=>?_⟩,fun x c e=>?_,I.hok.fresh (Nat.le_refl _),fun x c e=>?frC,fun p hp=>?_,I.hok.kept hk,?_⟩
 case inj=>
  rcases lk x c h1 with ⟨e1,e2⟩ | h1<;>rcases lk y c h2 with ⟨e3,e4⟩ | h2
  ·rw[e1,e3]
  ·have h:=ltc y c h2;rw[e2] at h;exact absurd h (Nat.not_lt.mpr (Nat.le_succ _))
  ·have h:=ltc x c h1;rw[e4] at h;exact absurd h (Nat.not_lt.mpr (Nat.le_succ _))
  ·exact I.ok.inj x y c (ck.sub x c h1) (ck.sub y c h2)
 case cab=>
  rcases lk x c hl with ⟨e1,e2⟩ | h1
  ·rw[e2];exact Nat.le_succ _
  ·have hz':(x == x0)=true:=hz
   rw[eq_of_beq hz',ck.nin] at h1;cases h1
 case frC=>
  rcases lk x c e with ⟨e1,e2⟩ | h1
  ·rw[e2];exact I.hok.fresh (Nat.le_succ _)
  ·exact I.freeC x c (ck.sub x c h1)
 ·obtain⟨f0,f1,f2,f3,f4,f5⟩:=hf b hb
  refine⟨Nat.ne_of_lt (hfs b hb),fun x c e=>?_⟩
  rcases lk x c e with ⟨e1,e2⟩ | h1
  ·rw[e2];exact Nat.ne_of_gt (Nat.lt_succ_of_lt (hfs b hb))
  ·exact f4 x c (ck.sub x c h1)
 ·obtain⟨f0,f1,f2,f3,f4,f5⟩:=hf b hb
  rcases f3 with z | z
  ·exact I.ok.noex b o e z
  ·exact absurd (Nat.lt_of_lt_of_le (Heap.lt_size e) (Nat.le_trans I.ok.bsz z)) (Nat.lt_irrefl _)
 ·obtain⟨f0,f1,f2,f3,f4,f5⟩:=hf b hb
  exact nfs b f1 f2
 ·-- a name's value
  unfold σC at h2
  by_cases hi:i < nl
  ·rw[List.getElem?_append_left (by simpa using hi),List.getElem?_replicate] at h2
   split at h2<;>cases h2
  ·have hi':nl≤i:=by omega
   rw[List.getElem?_append_right (by simpa using hi'),List.length_replicate,List.getElem?_map] at h2
   obtain⟨k,rfl⟩:∃k,i=nl+k:=⟨i - nl,by omega⟩
   obtain⟨j,e1,e2,e3,e4,e5⟩:=ck.tail k x h1
   rw[Nat.add_sub_cancel_left,e1] at h2
   have h2':(σ[j]?).join=some v:=by simpa using h2
   have h2'':σ[j]?=some (some v):=by
    cases q:σ[j]? with
    |none=>rw[q] at h2';cases h2'
    |some z=>rw[q] at h2';exact congrArg some h2'
   obtain⟨m,hn,hl⟩:=I.loc
   obtain⟨u,r,l⟩:=hl j x v e2 h2'' (.inr (.inl e3))
   refine⟨u,r,?_⟩
   rcases l with ⟨k1,_⟩ | ⟨k1,c,ec,z⟩
   ·rw[e3] at k1;cases k1
   ·obtain⟨o,ho,hd⟩:=z
    refine .inr ⟨e5,c,?_,o,hk _ _ ho,hd⟩
    show ((x0,s3.heap.objs.size+1) :: cl).lookup x=some c
    rw[List.lookup_cons]
    have ec':cl.lookup x=some c:=by rw[e4];exact ec
    cases q:x == x0 with
    |true=>rw[eq_of_beq q,ck.nin] at ec';cases ec'
    |false=>exact ec'
 ·rcases lk x c e with ⟨e1,e2⟩ | h1
  ·rw[e2];exact⟨none,hce⟩
  ·obtain⟨v,o,ho,hd⟩:=I.cell x c (ck.sub x c h1)
   exact⟨v,o,hk _ _ ho,hd⟩
 ·have hp':p∈X.pn++pins:=by simpa using hp
  obtain⟨e,n,ne,nf,d⟩:=I.pin p hp'
  exact⟨hk _ _ e,n,Nat.ne_of_lt (Heap.lt_size e),nfs _ ne nf,d⟩
 ·unfold σC
  show _=Nc.length
  rw[List.length_append,List.length_replicate,List.length_map,ck.len]
theorem comp_end1 {pins':List (Addr × Obj)}{σ':St}{H':Hp}{s':Shared}(I:Inv X pins σ H3 s3)(hf:∀b∈fp,FpOk X pins H3 b)(J:Inv (compCx1 X scope cl x0 Nc s3.heap.objs.size s3 H3 fp pins) pins' σ' H' s'):Inv X pins σ H' s'∧FpOk X pins H' s3.heap.objs.size:=by
 refine⟨I.call' (ch:=fp) J.os J.base J.hok J.bare fun b hb=>?_,I.fpOk (Nat.le_refl _) J.free⟩
 obtain⟨f0,f1,f2,f3,f4,f5⟩:=hf b hb
 exact⟨f3,f1,f4,f5⟩
end
section
variable {X:Cx} {scope:Scope} {cl:List (Str × Addr)} {x0:Str} {Nc:List Str} {nl:Nat} {fr:List Nat} {elt tg iter:Expr} {ifs:List Expr} {pos:Pos} {wi:TI} {g:TG} {tt:TT} {te:TE}
theorem comp_run1 (hc:X.calm=true)(ck:CompOk1 X scope cl x0 Nc nl fr)(hi:PI X tg iter wi)(hg:∀C s3 H3 fp pins,PG (compCx1 X scope cl x0 Nc C s3 H3 fp pins) tg g)(ht:∀C s3 H3 fp pins,PIf (compCx1 X scope cl x0 Nc C s3 H3 fp pins) ifs tt)(he:∀C s3 H3 fp pins,PE (compCx1 X scope cl x0 Nc C s3 H3 fp pins) elt te){pins:List (Addr × Obj)}{s:Shared}{σ:St}{H:Hp}{Q:VK}(I:Inv X pins σ H s)(h:tComp wi nl fr g tt te σ H Q){RR:Value→Addr→Result→Shared→Prop}(fin:∀D C s',(∃H',(∃m,s'.heap.Ns C m)∧Inv X pins σ H' s'∧FpOk X pins H' C∧Q (.ref D) H')→RR (.ref D) C (.ok .next) s') :
  wpAny (model X.prog X.w) X.A (eval iter X.env) (fun x s₁=>wpAny (model X.prog X.w) X.A (pyIter x) (fun it s₂=>wpAny (model X.prog X.w) X.A (newList []) (fun acc s₃=>
   wpAny (model X.prog X.w) X.A (newFunctionEnv scope X.env.globals cl [] X.env.qual none .none (some X.env)) (fun cenv s₄=>
    codeAny (model X.prog X.w) X.A (.compStart (.ListComp elt [⟨tg,iter,ifs,0⟩] scope pos) 0 it acc { cenv with scope:=relabel scope X.env }) (RR acc cenv.locals) s₄) X.xe s₃) X.xe s₂) X.xe s₁) X.xe s:=by
 refine thn (hi pins s σ H _ I h) fun v s1 h1=>thn h1 fun itv s2 h2=>?_
 obtain⟨it,fp,tn,J,H2,e,I2,T,st2,f2,hD⟩:=h2
 subst e
 have hn2:H2 s2.heap.objs.size=none:=I2.hok.fresh (Nat.le_refl _)
 obtain⟨W,⟨m0,w0⟩,turn⟩:=hD s2.heap.objs.size hn2
 refine wpAny_newObj_type (newEnv_comp ?_)
 dsimp only
 rw[ck.one,ck.psh]
 have I3:Inv X pins σ (upd H2 s2.heap.objs.size (.lst [])) { s2 with heap:=s2.heap.push { cls:=.type "list",dict:=none,data:=.seq ([]:List Value).toArray } }:=
  I2.laid (t':=s2.toks) (fun b u e=>Heap.get?_push_of_some _ e) (Nat.le_refl _) ⟨Nat.zero_le _,[],0,.nil,Heap.get?_push_size _ rfl⟩
 have hfs:∀b∈fp,b < s2.heap.objs.size:=fun b hb=>by
  obtain⟨o,e,_⟩:=T.obj 0 _ st2 b hb
  exact Heap.lt_size e
 have f3:∀b∈fp,FpOk X pins (upd H2 s2.heap.objs.size (.lst [])) b:=fun b hb=>⟨by rw[upd_ne (Nat.ne_of_lt (hfs b hb))];exact(f2 b hb).1,(f2 b hb).2⟩
 generalize hH3:upd H2 s2.heap.objs.size (.lst [])=H3 at *
 generalize hs3:({ s2 with heap:=s2.heap.push { cls:=.type "list",dict:=none,data:=.seq ([]:List Value).toArray } }:Shared)=s3 at *
 have z3:s3.heap=s2.heap.push { cls:=.type "list",dict:=none,data:=.seq ([]:List Value).toArray }:=by rw[← hs3]
 have hsz3:s3.heap.objs.size=s2.heap.objs.size+1:=by rw[z3,Heap.size_push]
 rw[← z3]
 generalize hh4:(s3.heap.push { cls:=.type "dict",data:=.dict #[] }).push { cls:=.type "cell",data:=.cell none }=h4
 have hk4:∀b o,s3.heap.get? b=some o→h4.get? b=some o:=fun b o e=>by rw[← hh4];exact Heap.get?_push_of_some _ (Heap.get?_push_of_some _ e)
 have hce4:h4.IsCell (s3.heap.objs.size+1) none:=by
  rw[← hh4]
  refine⟨{ cls:=.type "cell",data:=.cell none },?_,rfl⟩
  have:=Heap.get?_push_size (s3.heap.push { cls:=.type "dict",data:=.dict #[] }) (o:={ cls:=.type "cell",data:=.cell none }) rfl
  rw[Heap.size_push] at this
  exact this
 have hfs3:∀b∈fp,b < s3.heap.objs.size:=fun b hb=>Nat.lt_of_lt_of_le (hfs b hb) (by rw[hsz3];exact Nat.le_succ _)
 have hns':h4.Ns s3.heap.objs.size fun _=>none:=by
  rw[← hh4]
  exact(Heap.Ns.new s3.heap (.type "dict")).keeps fun b o e=>Heap.get?_push_of_some _ e
 have K0:=fun tk=>comp_start1 (tk:=tk) ck I3 f3 hfs3 hns' hce4 hk4
 have stat:∀{H':Hp},(∀b∈fp,H' b=none)→∀b∈fp,FpOk (compCx1 X scope cl x0 Nc s3.heap.objs.size s3 H3 fp pins) [] H' b:=fun {H'} hn b hb=>by
  obtain⟨f0,g1,g2,g3,g4,g5⟩:=f3 b hb
  refine⟨hn b hb,Nat.ne_of_lt (hfs3 b hb),fun z=>?_,.inl hb,fun x c e=>?cl,fun p hp=>g5 p (by simpa using hp)⟩
  case cl=>
   have e':((x0,s3.heap.objs.size+1) :: cl).lookup x=some c:=e
   rw[List.lookup_cons] at e'
   cases q:x == x0 with
   |true=>rw[q] at e';cases e';exact Nat.ne_of_gt (Nat.lt_succ_of_lt (hfs3 b hb))
   |false=>rw[q] at e';exact g4 x c (ck.sub x c e')
  exact(List.mem_cons.mp (I3.stkSub b z)).elim g1 g2
 have st4:tn 0 h4:=T.keep 0 _ _ st2 fun b hb o e=>hk4 b o (by rw[z3];exact Heap.get?_push_of_some _ e)
 have loop:∀tk,codeAny (model X.prog X.w) X.A (.compLoop (.ListComp elt [⟨tg,iter,ifs,0⟩] scope pos) 0 (.ref it) (.ref s2.heap.objs.size) (compEnv1 scope cl x0 s3.heap.objs.size X.env)) (RR (.ref s2.heap.objs.size) s3.heap.objs.size) { s3 with heap:=h4,toks:=tk }:=by
  intro tk
  refine comp_loop (fun n s'=>∃i ys H',Inv (compCx1 X scope cl x0 Nc s3.heap.objs.size s3 H3 fp pins) [] (σC nl fr σ) H' s'∧tn i s'.heap∧(∀b∈fp,H' b=none)∧W i n ys H') ?_ m0 ⟨0,[],H3,K0 tk,st4,fun b hb=>(f3 b hb).1,w0⟩
  rintro n s5 ⟨i,ys,H5,I5,st5,fr5,w5⟩
  obtain⟨hl5,q5⟩:=turn i n ys H5 w5
  rcases q5 with ⟨stop,qn⟩ | ⟨go,step⟩
  ·refine wpAny_mono (T.done (compCx1 X scope cl x0 Nc s3.heap.objs.size s3 H3 fp pins) rfl rfl rfl hc i [] s5 (σC nl fr σ) H5 (fun _ _=>False) I5 (stat fr5) st5 stop) (fun r s6 h6=>?_) fun _ _ z=>z
   obtain⟨hr,I6⟩:=h6
   subst hr
   obtain⟨z1,z2⟩:=comp_end1 I3 f3 I6
   refine fin _ _ _ ⟨H5,?_,z1,z2,qn⟩
   obtain⟨m,hm,_⟩:=I6.loc
   exact⟨m,hm⟩
  ·refine wpAny_mono (T.item (compCx1 X scope cl x0 Nc s3.heap.objs.size s3 H3 fp pins) rfl rfl rfl hc i [] s5 (σC nl fr σ) H5 (fun _ _=>False) I5 (stat fr5) st5 go) (fun r s6 h6=>?_) fun _ _ z=>z
   obtain⟨u,hr,h6⟩:=h6
   subst hr
   refine wpAny_mono h6 (fun _ s7 h7=>?_) fun _ _ z=>z
   obtain⟨x,H7,I7,r7,y7,st7,fr7⟩:=h7
   have I7':=I7.pinned (stat fr7) (T.obj _ _ st7)
   refine wpAny_mono (hg s3.heap.objs.size s3 H3 fp pins _ s7 _ H7 x u _ I7' r7 (step x H7 y7)) (fun _ s8 h8=>?_) fun _ _ z=>z
   obtain⟨σ8,H8,I8,l8,k8,q8⟩:=h8
   refine wpAny_mono (ht s3.heap.objs.size s3 H3 fp pins _ s8 σ8 H8 _ I8 q8) (fun b s9 h9=>?_) fun _ _ z=>z
   obtain⟨H9,I9,q9⟩:=h9
   have again:∀{ys':List V} {H':Hp} {s':Shared} {m':Nat},Inv (compCx1 X scope cl x0 Nc s3.heap.objs.size s3 H3 fp pins) ([]++pinsAt fp s7.heap) σ8 H' s'→m' < n→W (i+1) m' ys' H'→
     ∃m,m < n∧∃i ys H',Inv (compCx1 X scope cl x0 Nc s3.heap.objs.size s3 H3 fp pins) [] (σC nl fr σ) H' s'∧tn i s'.heap∧(∀b∈fp,H' b=none)∧W i m ys H':=fun {ys' H' s' m'} I' hm w'=>by
    refine⟨m',hm,i+1,ys',H',I'.unpinned.weak l8.symm k8,T.keep _ _ _ st7 fun b hb o e=>(I'.pin (b,o) (List.mem_append_right _ (List.mem_append_right _ (mem_pinsAt hb e)))).1,fun b hb=>?_,w'⟩
    obtain⟨o,e,d⟩:=T.obj _ _ st7 b hb
    exact(I'.pin (b,o) (List.mem_append_right _ (List.mem_append_right _ (mem_pinsAt hb e)))).2.1
   cases b with
   |false=>
    rw[if_neg Bool.false_ne_true] at q9 ⊢
    obtain⟨m',hm,w9⟩:=q9
    exact again I9 hm w9
   |true=>
    rw[if_pos rfl] at q9 ⊢
    refine wpAny_mono (he s3.heap.objs.size s3 H3 fp pins _ s9 σ8 H9 _ I9 q9) (fun yv s10 h10=>?_) fun _ _ z=>z
    obtain⟨y,H10,I10,r10,hl10,hz10,m',hm,w10⟩:=h10
    refine wpAny_mono (mt_append (X:=compCx1 X scope cl x0 Nc s3.heap.objs.size s3 H3 fp pins) _ s10 σ8 H10 (.ref s2.heap.objs.size) [y] _ [yv] (fun v H'=>H'=upd H10 s2.heap.objs.size (.lst (ys++[y]))) I10 rfl (.cons r10 .nil) ⟨_,ys,y,rfl,rfl,hl10,hz10,rfl⟩) (fun _ s11 h11=>?_) fun _ _ z=>z
    obtain⟨_,H11,I11,_,e11⟩:=h11
    subst e11
    exact again I11 hm w10
 have L:=loop s2.toks
 rw[show s3.gens=s2.gens by rw[← hs3],show s3.drawn=s2.drawn by rw[← hs3],show s3.os=s2.os by rw[← hs3]] at L
 exact codeAny_compStart_list L (T.self _ 0 _ _ _ st4 L)
theorem pe_comp1 (hc:X.calm=true)(ck:CompOk1 X scope cl x0 Nc nl fr)(hi:PI X tg iter wi)(hg:∀C s3 H3 fp pins,PG (compCx1 X scope cl x0 Nc C s3 H3 fp pins) tg g)(ht:∀C s3 H3 fp pins,PIf (compCx1 X scope cl x0 Nc C s3 H3 fp pins) ifs tt)(he:∀C s3 H3 fp pins,PE (compCx1 X scope cl x0 Nc C s3 H3 fp pins) elt te)(hs:∀x,foldedSetIterable iter X.env x=pure x:=by intro _;rfl):PE X (.ListComp elt [⟨tg,iter,ifs,0⟩] scope pos) (tComp wi nl fr g tt te):=by
 intro pins s σ H Q I h
 rw[eval_ListComp]
 refine wpAny_comprehension_free (use:=none) rfl hs ck.clos ck.kind ck.names (comp_run1 (RR:=fun acc C=>compPost (model X.prog X.w) X.A X.xe none (EP X pins σ Q) acc C) hc ck hi hg ht he I h fun D C s' hh=>?_)
 obtain⟨H',⟨m,hm⟩,hI,hF,q⟩:=hh
 exact⟨m,hm,fun h' hs'=>⟨.ref D,H',hI.off hF hs',rfl,q⟩⟩
end
def Ite (K : PySem.W.Frag)(a : Addr) : It :=
  ⟨fun i H => ∃ xs x, SqL K H a xs ∧ xs[i]? = some x,
   fun i H v H' => ∃ T x, v = .ref T ∧ H T = none ∧ H' = upd H T (.tup [.int (i : Int), x]) ∧ ∀ xs, SqL K H a xs → xs[i]? = some x,
   fun i H => ∃ xs, SqL K H a xs ∧ xs.length ≤ i⟩
def EnumTn (e it l:Addr)(i:Nat)(h:Heap):Prop:=e≠it∧(∃old,IsEnum h e it (i:Int) old)∧h.IsListIter it l i
theorem turn_enum {P:Program}{w:World}{K:PySem.W.Frag}{elts:List Expr}{kk:Nat}{tpos:Pos}(e it l:Addr) :
  Turn P w K (.Tuple elts kk tpos) (Ite K l) [e,it] e (EnumTn e it l) where
 mem:=by simp
 obj:=fun i h st b hb=>by
  obtain⟨ne,⟨old,he⟩,⟨o1,e1,c1,d1⟩⟩:=st
  simp only[List.mem_cons,List.not_mem_nil,or_false] at hb
  rcases hb with rfl | rfl
  ·exact⟨_,he,fun v q=>by cases q⟩
  ·exact⟨o1,e1,fun v q=>by rw[d1] at q;cases q⟩
 keep:=fun i h h' st k=>by
  obtain⟨ne,⟨old,he⟩,⟨o1,e1,c1,d1⟩⟩:=st
  exact⟨ne,⟨old,k _ (by simp) _ he⟩,⟨o1,k _ (by simp) _ e1,c1,d1⟩⟩
 item:=by
  intro X hP hw hK hc i pins s σ H E I hf st hg
  subst hP hw hK
  obtain⟨ne,⟨old,he⟩,t1⟩:=st
  obtain⟨xs,x,hx,ex⟩:=hg
  obtain⟨its1,rv1,p1,z1⟩:=I.list hx
  obtain⟨u1,hu1,ru1⟩:=rv1.get ex
  refine wpAny_pyNext_enum_item he t1 p1.isList (x:=u1) (by simpa using hu1) ne fun h' g1 g2 g3 g4 kk'=>?_
  have hn:H s.heap.objs.size=none:=I.hok.fresh (Nat.le_refl _)
  have lt:∀b∈[e,it],b < s.heap.objs.size:=fun b hb=>by
   simp only[List.mem_cons,List.not_mem_nil,or_false] at hb
   obtain⟨o1,e1,_⟩:=t1
   rcases hb with rfl | rfl
   ·exact Heap.lt_size he
   ·exact Heap.lt_size e1
  have I1:Inv X pins σ (upd H s.heap.objs.size (.tup [.int (i:Int),x])) { s with heap:=s.heap.push { cls:=.type "tuple",data:=.seq #[.int i s.toks,u1] },toks:=s.toks+1 }:=
   I.laid (t':=s.toks+1) (fun b o e=>Heap.get?_push_of_some _ e) (Nat.le_refl _) (show ObjOk X.prog X.w _ _ _ (.tup [.int (i:Int),x]) from ⟨by show 2≤sizeLine;decide,[.int i s.toks,u1],.cons ⟨_,rfl⟩ (.cons ru1 .nil),IsTup.new _ _⟩)
  have hf1:∀b∈[e,it],FpOk X pins (upd H s.heap.objs.size (.tup [.int (i:Int),x])) b:=fun b hb=>⟨by rw[upd_ne (Nat.ne_of_lt (lt b hb))];exact(hf b hb).1,(hf b hb).2⟩
  have k1:∀b o,b∉[e,it]→(s.heap.push { cls:=.type "tuple",data:=.seq #[.int i s.toks,u1] }).get? b=some o→h'.get? b=some o:=fun b o nb e=>by
   simp only[List.mem_cons,List.not_mem_nil,or_false,not_or] at nb
   by_cases hb:b=s.heap.objs.size
   ·subst hb
    rw[Heap.get?_push_size _ rfl] at e
    cases e
    exact g3
   ·have e0:s.heap.get? b=some o:=by rw[Heap.get?_push_ne _ _ _ hb] at e;exact e
    exact kk' b o nb.1 nb.2 e0
  have I2:Inv X pins σ (upd H s.heap.objs.size (.tup [.int (i:Int),x])) { s with heap:=h',toks:=s.toks+1 }:=Inv.turnedL (s:={ s with heap:=s.heap.push { cls:=.type "tuple",data:=.seq #[.int i s.toks,u1] },toks:=s.toks+1 }) (t':=s.toks+1) I1 k1 hf1
  refine⟨_,rfl,wpAny_letOwnedTupleGo_enum (s:={ s with heap:=h',toks:=s.toks+1 }) g1 fun h2 q1 q2=>?_⟩
  have kz:∀b o,b≠e→h'.get? b=some o→h2.get? b=some o:=fun b o nb e=>(q2.2 b nb).trans e
  have I3:Inv X pins σ (upd H s.heap.objs.size (.tup [.int (i:Int),x])) { s with heap:=h2,toks:=s.toks+1 }:=Inv.turnedL (s:={ s with heap:=h',toks:=s.toks+1 }) (t':=s.toks+1) (fp:=[e]) I2 (fun b o nb e=>kz b o (by simpa using nb) e) fun b hb=>hf1 b (by simp at hb;simp[hb])
  obtain⟨o3,e3,c3,d3⟩:=g2
  refine⟨.ref s.heap.objs.size,_,I3,rfl,⟨_,x,rfl,hn,rfl,fun xs' h1=>?_⟩,⟨ne,⟨_,q1⟩,⟨o3,kz _ _ ne.symm e3,c3,d3⟩⟩,fun b hb=>(hf1 b hb).1⟩
  rw[I.list_inj h1 hx]
  exact ex
 done:=by
  intro X hP hw hK hc i pins s σ H E I hf st hg
  subst hP hw hK
  obtain⟨ne,⟨old,he⟩,t1⟩:=st
  obtain⟨xs,hx,hor⟩:=hg
  obtain⟨its1,rv1,p1,z1⟩:=I.list hx
  have l1':=rv1.length
  refine wpAny_pyNext_enum_end (I.ok.hd hc) he t1 p1.isList (by simp;omega) fun h' kk'=>⟨rfl,?_⟩
  refine I.turnedL (t':=s.toks) (fun b o nb e=>?_) hf
  simp only[List.mem_cons,List.not_mem_nil,or_false,not_or] at nb
  exact kk' b o nb.2 e
 self:=fun A i s Q E st h=>by
  obtain⟨ne,⟨old,he⟩,t1⟩:=st
  exact wpAny_pyIter_enum he h
section
variable {X:Cx}
def iEnum (K:PySem.W.Frag)(ta:TA):TI:=fun σ H R=>ta σ H fun vs H1=>∃a,vs=[.ref a]∧(∃xs,SqL K H1 a xs)∧R (Ite K a) H1
theorem pi_enum {e1:Expr}{ta:TA}{p pos:Pos}{elts:List Expr}{kk:Nat}{tpos:Pos}(hg:Gl X "enumerate")(hm:X.mg "enumerate"=none)(hv:bootBuiltins "enumerate"=some (.type "enumerate"))(ha:PA X [e1] ta)(hs:starEach [e1] X.env=(false,eval e1 X.env) :: starEach [] X.env:=by rfl)(hpl:(backTo pos (starEach [] X.env)).any (·.1)=false:=by rfl):PI X (.Tuple elts kk tpos) (.Call (.Name "enumerate" p) [e1] [] pos) (iEnum X.K ta):=by
 intro pins s σ H R I h
 refine Call_ (ld_blt I hg hm hv (PyProof.Rows.callWith_type1 (thn (ha pos pins s σ H _ I h) fun us s1 ⟨vs,H1,I1,r1,q1⟩=>?_) hs hpl))
 obtain⟨a,rfl,⟨xs,hx⟩,q⟩:=q1
 obtain⟨u,rfl,ra⟩:=vals1 r1
 cases (show u=Value.ref a from ra)
 obtain⟨its1,rv1,p1,z1⟩:=I1.list hx
 have la:a < s1.heap.objs.size:=by obtain⟨o,e,_⟩:=p1.isList;exact Heap.lt_size e
 refine call_enumerate_list p1.isList fun h' g1 g2 g3 kk'=>?_
 refine wpAny_pyIter_enum g1 ?_
 refine⟨s1.heap.objs.size+1,[s1.heap.objs.size+1,s1.heap.objs.size],_,Ite X.K a,H1,rfl,I1.kept (t':=s1.toks) kk',turn_enum _ _ a,⟨?_,⟨_,g1⟩,g2⟩,fun c hc=>?_,q⟩
 ·exact Nat.succ_ne_self _
 ·have hle:s1.heap.objs.size≤c:=by
   simp only[List.mem_cons,List.not_mem_nil,or_false] at hc
   rcases hc with rfl | rfl<;>first | exact Nat.le_add_right _ _ | exact Nat.le_refl _
  exact I1.fpOk hle (I1.hok.fresh hle)
theorem for_enum {K:PySem.W.Frag}{a:Addr}{xs:List V}{g:TG}{tb:TS}{D:Ends}{σ:St}{H:Hp}(Pv:Nat→St→Hp→Prop)(h0:Pv 0 σ H)(hl:∀i σ H,i≤xs.length→Pv i σ H→SqL K H a xs)(hs:∀i x σ H T,xs[i]?=some x→Pv i σ H→H T=none→g (.ref T) σ (upd H T (.tup [.int (i:Int),x])) fun σ2 H2=>tb { D with nx:=Pv (i+1),ct:=Pv (i+1),bk:=D.nx } σ2 H2)(hd:∀σ H,Pv xs.length σ H→D.nx σ H) :
  ∃W:Nat→Nat→St→Hp→Prop,(∃m,W 0 m σ H)∧∀i m σ H,W i m σ H→
   ((Ite K a).stop i H∧D.nx σ H)∨((Ite K a).go i H∧∃N:St→Hp→Prop,(∀σ' H',N σ' H'→∃m',m' < m∧W (i+1) m' σ' H')∧∀x H',(Ite K a).yld i H x H'→g x σ H' fun σ2 H2=>tb { D with nx:=N,ct:=N,bk:=D.nx } σ2 H2):=by
 refine⟨fun i m σ H=>m=xs.length - i∧i≤xs.length∧Pv i σ H,⟨_,rfl,Nat.zero_le _,h0⟩,?_⟩
 rintro i m σ H ⟨rfl,hi,p⟩
 have qx:=hl i σ H hi p
 by_cases hlt:i < xs.length
 ·refine .inr ⟨⟨xs,xs[i],qx,by simp[hlt]⟩,Pv (i+1),fun σ' H' p'=>⟨xs.length - (i+1),by omega,rfl,hlt,p'⟩,fun v H' z=>?_⟩
  obtain⟨T,x,rfl,hT,rfl,hh⟩:=z
  exact hs i x σ H T (hh xs qx) p hT
 ·have e:i=xs.length:=by omega
  subst e
  exact .inl ⟨⟨xs,qx,Nat.le_refl _⟩,hd σ H p⟩
end
end L2
set_option maxHeartbeats 4000000
namespace Shp
open PySem L2
theorem ix_listK {X:Cx}{K:PySem.W.Frag}(h:X.K=K):IxR X (rIxL K):=by subst h;exact ix_list
theorem ix_tupK {X:Cx}{K:PySem.W.Frag}(h:X.K=K):IxR X (rIxT K):=by subst h;exact ix_tup
theorem sub_nil {ec:List (Str × Addr)}:∀(x:Str) (c:Addr),([]:List (Str × Addr)).lookup x=some c→ec.lookup x=some c:=fun _ _ h=>by cases h
theorem sub_cons {ec cl:List (Str × Addr)}{a:Str}{d:Addr}(h:ec.lookup a=some d)(r:∀x c,cl.lookup x=some c→ec.lookup x=some c):∀x c,((a,d) :: cl).lookup x=some c→ec.lookup x=some c:=fun x c e=>by
 rw[List.lookup_cons] at e
 cases q:x == a with
 |true=>rw[q] at e;rw[eq_of_beq q,h];exact e
 |false=>rw[q] at e;exact r x c e
def spLowP:Sp:=fun vs H Q _=>∃(t b:Int) (n:Nat),vs=[.int t,.int b]∧0 < b∧Mq.B n b∧n≤9000∧NewF H Q (Mq.red t b)
theorem dvr_pos {t b:Int}(h:0 < b):Mq.dvr t b=Mq.gc t b:=by unfold Mq.dvr;rw[if_neg (by omega)]
def wh (row:List Mq.Q2):List Int × Int:=(Mq.iw row,Mq.lcmB row)
end Shp
namespace Mq
abbrev Mat:=Nat→Nat→Rat
theorem get_some {l:List Int}{x:Nat}(h:x < l.length):l[x]?=some (l.getD x 0):=by rw[List.getD_eq_getElem?_getD,List.getElem?_eq_getElem h];rfl
end Mq
namespace Shp
open PySem L2
inductive Imx (D:Addr) (H:Hp):List V→List (List Int)→Prop where
 |nil:Imx D H [] []
 |cons {u:Addr} {r:List Int} {us:List V} {R:List (List Int)} (ne:u≠D) (h:H u=some (.lst (r.map V.int))) (q:Imx D H us R):Imx D H (.ref u :: us) (r :: R)
theorem Imx.upd {D:Addr}{H:Hp}{o:HO}:∀{xs:List V} {R:List (List Int)},Imx D H xs R→Imx D (L2.upd H D o) xs R
 |_,_,.nil=>.nil
 |_,_,.cons n h q=>.cons n (by rw[upd_ne n];exact h) q.upd
theorem Imx.length {D:Addr}{H:Hp}:∀{xs:List V} {R:List (List Int)},Imx D H xs R→xs.length=R.length
 |_,_,.nil=>rfl
 |_,_,.cons _ _ q=>by rw[List.length_cons,List.length_cons,q.length]
theorem Imx.get {D:Addr}{H:Hp}:∀{xs:List V} {R:List (List Int)} {i:Nat} {x:V},Imx D H xs R→xs[i]?=some x→∃u r,x=.ref u∧R[i]?=some r∧u≠D∧H u=some (.lst (r.map V.int))
 |_,_,0,_,.cons n h q,e=>by simp at e;exact⟨_,_,e.symm,rfl,n,h⟩
 |_,_,i+1,_,.cons n h q,e=>by simp at e;exact q.get e
theorem Imx.app {D:Addr}{H:Hp}:∀{xs ys:List V} {R S:List (List Int)},Imx D H xs R→Imx D H ys S→Imx D H (xs++ys) (R++S)
 |_,_,_,_,.nil,k=>k
 |_,_,_,_,.cons n h q,k=>.cons n h (q.app k)
inductive Wmx (K:PySem.W.Frag) (D:Addr) (H:Hp):List V→List (List Int × Int)→Prop where
 |nil:Wmx K D H [] []
 |cons {t l:Addr} {r:List Int × Int} {us:List V} {rs:List (List Int × Int)} (ne:l≠D) (h:SqT K H t [.ref l,.int r.2]) (f:H l=some (.lst (r.1.map V.int))) (q:Wmx K D H us rs):Wmx K D H (.ref t :: us) (r :: rs)
theorem Wmx.same {K:PySem.W.Frag}{D:Addr}{H H':Hp}(e:Same H H'):∀{xs:List V} {rs:List (List Int × Int)},Wmx K D H xs rs→Wmx K D H' xs rs
 |_,_,.nil=>.nil
 |_,_,.cons n h f q=>.cons n (e.seqT h) (e _ _ f) (q.same e)
theorem Wmx.upd {K:PySem.W.Frag}{D:Addr}{H:Hp}{ys:List V}{o:HO}(hl:H D=some (.lst ys)):∀{xs:List V} {rs:List (List Int × Int)},Wmx K D H xs rs→Wmx K D (L2.upd H D o) xs rs
 |_,_,.nil=>.nil
 |_,_,.cons n h f q=>.cons n (h.upd hl) (by rw[upd_ne n];exact f) (q.upd hl)
theorem Wmx.length {K:PySem.W.Frag}{D:Addr}{H:Hp}:∀{xs:List V} {rs:List (List Int × Int)},Wmx K D H xs rs→xs.length=rs.length
 |_,_,.nil=>rfl
 |_,_,.cons _ _ _ q=>by rw[List.length_cons,List.length_cons,q.length]
theorem Wmx.get {K:PySem.W.Frag}{D:Addr}{H:Hp}:∀{xs:List V} {rs:List (List Int × Int)} {i:Nat} {x:V},Wmx K D H xs rs→xs[i]?=some x→∃t l r,x=.ref t∧rs[i]?=some r∧SqT K H t [.ref l,.int r.2]∧H l=some (.lst (r.1.map V.int))
 |_,_,0,_,.cons n h f q,e=>by simp at e;exact⟨_,_,_,e.symm,rfl,h,f⟩
 |_,_,i+1,_,.cons n h f q,e=>by simp at e;exact q.get e
theorem Wmx.app {K:PySem.W.Frag}{D:Addr}{H:Hp}:∀{xs ys:List V} {rs ss:List (List Int × Int)},Wmx K D H xs rs→Wmx K D H ys ss→Wmx K D H (xs++ys) (rs++ss)
 |_,_,_,_,.nil,k=>k
 |_,_,_,_,.cons n h f q,k=>.cons n h f (q.app k)
theorem map_get {l:List Int}{i:Nat}(h:i < l.length):(l.map V.int)[i]?=some (.int (l.getD i 0)):=by
 rw[List.getElem?_map,Mq.get_some h];rfl
def spIWd (K:PySem.W.Frag):Sp:=fun vs H Q _=>∃(a:Addr) (xs:List V) (ps:List Mq.Q2) (n:Nat),vs=[.ref a]∧SqL K H a xs∧Fqs K H xs ps∧Mq.Pos ps∧(∀p∈ps,Mq.Bd n p)∧ps.length≤100∧10+n+n*ps.length≤8000∧
 ∀t l H',Same H H'→H l=none→SqT K H' t [.ref l,.int (Mq.lcmB ps)]→H' l=some (.lst ((Mq.iw ps).map V.int))→Q (.ref t) H'
def elimD (l:Addr)(rank:Nat)(pivot sign:Int):HO:=.dK (mergeK [] [(.inr "rows",.ref l),(.inr "rank",.int (rank:Int)),(.inr "pivot",.int pivot),(.inr "sign",.int sign)])
theorem elim_get {H:Hp}{d l:Addr}{rank:Nat}{pivot sign:Int}(h:H d=some (elimD l rank pivot sign)):DGet H d (.str "rows") (some (.ref l))∧DGet H d (.str "rank") (some (.int (rank:Int)))∧DGet H d (.str "pivot") (some (.int pivot))∧DGet H d (.str "sign") (some (.int sign)):=by
 refine⟨?_,?_,?_,?_⟩
 ·exact DGet.k (k:=(Sum.inr "rows":Key)) h
 ·exact DGet.k (k:=(Sum.inr "rank":Key)) h
 ·exact DGet.k (k:=(Sum.inr "pivot":Key)) h
 ·exact DGet.k (k:=(Sum.inr "sign":Key)) h
end Shp
namespace L2
open PySem
theorem pi_listK {X:Cx}{K:PySem.W.Frag}(h:X.K=K){tg l:Expr}{tl:TE}(hl:PE X l tl):PI X tg l (iList K tl):=by subst h;exact pi_list hl
end L2
set_option maxHeartbeats 1000000
set_option maxHeartbeats 2000000
namespace PySem
open Sem (wp)
section
variable {prog:Program} {w:World} {A:Around} {E:Value→Shared→Prop} {h:Heap} {g:Array GenState} {d:Drawn} {t:Nat} {os:OsState}
variable {nm q:Str} {C N f:Addr} {bs bm bmB:List Value} {hdct:Bool} {sn:List Str} {sub:List Value} {ab:Bool} {col:Option Bool} {dd:Option Addr} {k0 k1 k2 k3 k5:Option Value} {B Bn newId nid initId inN:String} {bmN:List Value}
abbrev newExcHeap (h:Heap)(C:Addr)(rest:List Value):Heap:=(h.push { cls:=.type "tuple",data:=.seq rest.toArray }).push { cls:=.ref C,data:=.fields #[.ref h.objs.size,.none,.none,.none,.bool false,.none] }
end
end PySem
set_option maxHeartbeats 4000000
namespace Shp
open PySem L2
def spOver (K:PySem.W.Frag):Sp:=fun vs H Q _=>∃(l:Addr) (ts:List Int) (pv:Int) (n:Nat),vs=[.ref l,.int pv]∧SqL K H l (ts.map V.int)∧ts.length≤100∧pv≠0∧Mq.B n pv∧n≤9000∧
 ∀l' zs H',Same H H'→H l'=none→H' l'=some (.lst zs)→Fqs K H' zs (ts.map fun t=>Mq.red t pv)→Q (.ref l') H'
end Shp
namespace L2
open PySem
theorem sl_listK {X:Cx}{K:PySem.W.Frag}(h:X.K=K):SlR X (rSlL K):=by subst h;exact sl_list
end L2
set_option maxHeartbeats 2000000
set_option maxHeartbeats 4000000
set_option maxHeartbeats 1000000
set_option maxHeartbeats 4000000
set_option maxHeartbeats 1000000
set_option maxHeartbeats 4000000
namespace Shp
open PySem L2
abbrev bq (n m:Nat):Nat:=(n+4)*(m+1)+7
end Shp
namespace L2
open PySem PyProof.Rows
theorem FnOk.calm {P:Program}{w:World}{K:PySem.W.Frag}{mg:Str→Option Value}{base:Heap}{k:Nat}{f:Addr}{fd:FuncData}{ps:List Str}{sp:Sp}(F:FnOk P w K mg base (CX1 P w) k f fd ps sp) :
  FnOk P w K mg base CX0 k f fd ps (fun vs H Q _=>sp vs H Q (fun _ _ _=>False)):=
 ⟨fun vs H Q E q=>F.len vs H Q _ q,fun A outer s H args us vs Q E hr he hb hv hs=>codeAny_mono (F.run A outer s H args us vs Q _ hr he hb hv hs) fun r s' h=>by
  cases r with
  |ok fl=>cases fl<;>exact h
  |error e=>
   obtain⟨a,C,d,H',_,_,_,_,_,_,z⟩:=h
   exact z.elim⟩
end L2
set_option maxHeartbeats 2000000
namespace L2
open PySem PySem.Spec PyProof.Rows
theorem FnOk.weak {P:Program}{w:World}{K:PySem.W.Frag}{mg:Str→Option Value}{base:Heap}{CX:CXT}{k:Nat}{f:Addr}{fd:FuncData}{ps:List Str}{sp sp':Sp}(F:FnOk P w K mg base CX k f fd ps sp)(h:∀vs H Q E,sp' vs H Q E→sp vs H Q E):FnOk P w K mg base CX k f fd ps sp':=
 ⟨fun vs H Q E q=>F.len vs H Q E (h _ _ _ _ q),fun A outer s H args us vs Q E hr he hb hv hs=>F.run A outer s H args us vs Q E hr he hb hv (h _ _ _ _ hs)⟩
abbrev PtOk (m i j:Int):Prop:=0≤i∧i < m∧0≤j∧j < m
inductive Zv (K:PySem.W.Frag) (H:Hp):V→Option Mq.Q2→Prop where
 |fr {u:Addr} {p:Mq.Q2} (h:Fq K H u p) (l:Mq.Low p):Zv K H (.ref u) (some p)
 |ty {v:V} {t:Value} (h:TyQ K H v t) (n:PySem.W.kitOne K t (.type "tuple")=some false):Zv K H v none
 |len {u:Addr} {x y z:V} (h:SqT K H u [x,y,z]):Zv K H (.ref u) none
 |n0 {u:Addr} {x y:V} {t:Value} (h:SqT K H u [x,y]) (ty:TyOf K H x t) (n:NotWhole t):Zv K H (.ref u) none
 |n1 {u:Addr} {i:Int} {y:V} {t:Value} (h:SqT K H u [.int i,y]) (ty:TyOf K H y t) (n:NotWhole t):Zv K H (.ref u) none
 |fb {u:Addr} {p:Mq.Q2} (h:Fq K H u p) (c:p.2 < 1∨(1≤p.2∧Mq.gc p.1 p.2≠1)):Zv K H (.ref u) none
abbrev Bz (o:Option Mq.Q2):Prop:=∀p,o=some p→Mq.Bd 100 p
def spIsFV (K:PySem.W.Frag):Sp:=fun vs H Q _=>∃(v:V) (o:Option Mq.Q2),vs=[v]∧Zv K H v o∧Q (.bl o.isSome) H
inductive Robs (CK:Kd→Addr) (K:PySem.W.Frag) (H:Hp):List V→List RD→Prop where
 |nil:Robs CK K H [] []
 |cons {x z:Addr} {k:Kd} {i j:Int} {p:Mq.Q2} {xs:List V} {ds:List RD} (h:Rw CK H x k (.int i) (.int j) (.ref z)) (f:Fq K H z p) (q:Robs CK K H xs ds):Robs CK K H (.ref x :: xs) ((k,i,j,p) :: ds)
section
variable {CK:Kd→Addr} {K:PySem.W.Frag} {H H':Hp}
theorem Robs.same (e:Same H H'):∀{xs:List V} {ds:List RD},Robs CK K H xs ds→Robs CK K H' xs ds
 |_,_,.nil=>.nil
 |_,_,.cons h f q=>.cons (h.same e) (e.fq f) (Robs.same e q)
theorem Robs.length:∀{xs:List V} {ds:List RD},Robs CK K H xs ds→xs.length=ds.length
 |_,_,.nil=>rfl
 |_,_,.cons _ _ q=>by simp[Robs.length q]
theorem Robs.app:∀{xs ys:List V} {ds es:List RD},Robs CK K H xs ds→Robs CK K H ys es→Robs CK K H (xs++ys) (ds++es)
 |_,_,_,_,.nil,r=>r
 |_,_,_,_,.cons h f q,r=>.cons h f (Robs.app q r)
theorem Robs.at:∀{xs:List V} {ds:List RD} {q:Nat} {d:RD},Robs CK K H xs ds→ds[q]?=some d→∃x z,xs[q]?=some (.ref x)∧Rw CK H x d.1 (.int d.2.1) (.int d.2.2.1) (.ref z)∧Fq K H z d.2.2.2
 |_,_,_,_,.nil,h=>by simp at h
 |_,_,0,_,.cons h f _,e=>by simp at e;subst e;exact⟨_,_,rfl,h,f⟩
 |_,_,i+1,_,.cons _ _ q,e=>by simpa using Robs.at q (by simpa using e)
theorem Robs.upd {l:Addr}{ys:List V}{o:HO}(hl:H l=some (.lst ys)):∀{xs:List V} {ds:List RD},Robs CK K H xs ds→Robs CK K (L2.upd H l o) xs ds
 |_,_,.nil=>.nil
 |_,_,.cons (h:=h) f q=>by
  obtain⟨dx,e⟩:=h
  exact .cons ⟨dx,by rw[upd_ne (ne_of e hl (fun z=>by cases z))];exact e⟩ (f.upd hl) (Robs.upd hl q)
end
def spRows (CN:Addr)(K:PySem.W.Frag)(CK:Kd→Addr):Sp:=fun vs H Q _=>∃(n l:Addr) (m:Int) (ds:List RD),vs=[.ref n]∧NetAt CN K H n l m ds∧ds.length≤100∧∀a xs H',Same H H'→H a=none→H' a=some (.lst xs)→Robs CK K H' xs ds→Q (.ref a) H'
end L2
set_option maxHeartbeats 1000000
namespace L2
open PySem PySem.Spec PyProof.Rows
abbrev RE:=RD × Mq.Q2
def selD (k:Kd)(l:List RD):List RD:=l.filter fun d=>decide (d.1=k)
def spDiv1 (K:PySem.W.Frag):Sp:=fun vs H Q _=>∃(a b:Addr) (p q:Mq.Q2) (n m:Nat),vs=[.ref a,.ref b]∧Fq K H a p∧Fq K H b q∧1≤p.2∧1≤q.2∧0 < q.1∧Mq.Bd n p∧Mq.Bd m q∧n+m+1≤9000∧NewF H Q (Mq.over p q)
section
variable {m n:Nat} {hp:List Mq.Q2} {d:RD} {e:RE}
theorem getQ2 {ps:List Mq.Q2}{j:Nat}(h:j < ps.length):ps[j]?=some (ps.getD j (0,1)):=by rw[List.getD_eq_getElem?_getD,List.getElem?_eq_getElem h];rfl
end
def rzl (ps:List Mq.Q2)(j:Nat)(a:Mq.Q2):List Mq.Q2:=ps.set j (Mq.plus (ps.getD j (0,1)) a)
def mget (M:List (List Mq.Q2))(i j:Nat):Mq.Q2:=(M.getD i []).getD j (0,1)
def rz (M:List (List Mq.Q2))(i j:Nat)(a:Mq.Q2):List (List Mq.Q2):=M.set i (rzl (M.getD i []) j a)
structure MxB (M:List (List Mq.Q2)) (h w n:Nat):Prop where
 h:M.length=h
 w:∀ps∈M,ps.length=w
 l:∀ps∈M,∀p∈ps,Mq.Low p∧Mq.Bd n p
theorem MxB.mono {M:List (List Mq.Q2)}{h w n n':Nat}(b:MxB M h w n)(le:n≤n'):MxB M h w n':=⟨b.h,b.w,fun ps hp p hp'=>⟨(b.l ps hp p hp').1,(b.l ps hp p hp').2.mono le⟩⟩
theorem MxB.row {M:List (List Mq.Q2)}{h w n i:Nat}(b:MxB M h w n)(hi:i < h):M[i]?=some (M.getD i [])∧M.getD i []∈M∧(M.getD i []).length=w:=by
 have hi':i < M.length:=by rw[b.h];exact hi
 have e:M.getD i []=M[i]:=by rw[List.getD_eq_getElem?_getD,List.getElem?_eq_getElem hi'];rfl
 rw[e]
 exact⟨List.getElem?_eq_getElem hi',List.getElem_mem hi',b.w _ (List.getElem_mem hi')⟩
theorem MxB.at {M:List (List Mq.Q2)}{h w n i j:Nat}(b:MxB M h w n)(hi:i < h)(hj:j < w):(M.getD i [])[j]?=some (mget M i j)∧Mq.Low (mget M i j)∧Mq.Bd n (mget M i j):=by
 obtain⟨e,m,l⟩:=b.row hi
 have hj':j < (M.getD i []).length:=by rw[l];exact hj
 have:=getQ2 hj'
 exact⟨this,b.l _ m _ (List.mem_of_getElem? this)⟩
theorem MxB.rz {M:List (List Mq.Q2)}{h w n k i j:Nat}{a:Mq.Q2}(b:MxB M h w n)(hi:i < h)(hj:j < w)(la:Mq.Low a)(ba:Mq.Bd k a):MxB (L2.rz M i j a) h w (n+k+1):=by
 obtain⟨e,m,l⟩:=b.row hi
 obtain⟨e2,l2,b2⟩:=b.at hi hj
 refine⟨by unfold L2.rz;rw[List.length_set];exact b.h,fun ps hp=>?_,fun ps hp p hp'=>?_⟩
 ·rcases List.mem_or_eq_of_mem_set hp with z | z
  ·exact b.w ps z
  ·rw[z];unfold rzl;rw[List.length_set];exact l
 ·rcases List.mem_or_eq_of_mem_set hp with z | z
  ·have:=b.l ps z p hp'
   exact⟨this.1,this.2.mono (by omega)⟩
  ·rw[z] at hp'
   unfold rzl at hp'
   rcases List.mem_or_eq_of_mem_set hp' with y | y
   ·have:=b.l _ m p y
    exact⟨this.1,this.2.mono (by omega)⟩
   ·rw[y]
    exact⟨Mq.plus_low l2.pos la.pos,Mq.plus_bd b2 ba l2.pos la.pos⟩
theorem rz_val {M:List (List Mq.Q2)}{h w n i j:Nat}{a:Mq.Q2}(b:MxB M h w n)(hi:i < h)(hj:j < w)(la:Mq.Low a)(x y:Nat):Mq.val (mget (L2.rz M i j a) x y)=Mq.val (mget M x y)+if i=x∧j=y then Mq.val a else 0:=by
 obtain⟨e,m,l⟩:=b.row hi
 obtain⟨e2,l2,b2⟩:=b.at hi hj
 have hl:i < M.length:=by rw[b.h];exact hi
 unfold mget L2.rz
 by_cases c:i=x
 ·subst c
  have e3:(M.set i (rzl (M.getD i []) j a)).getD i []=rzl (M.getD i []) j a:=by rw[List.getD_eq_getElem?_getD,List.getElem?_set,if_pos rfl,if_pos hl];rfl
  rw[e3]
  unfold rzl
  by_cases d:j=y
  ·subst d
   have e4:((M.getD i []).set j (Mq.plus ((M.getD i []).getD j (0,1)) a)).getD j (0,1)=Mq.plus ((M.getD i []).getD j (0,1)) a:=by rw[List.getD_eq_getElem?_getD,List.getElem?_set,if_pos rfl,if_pos (by rw[l];exact hj)];rfl
   rw[e4,if_pos ⟨rfl,rfl⟩]
   exact Mq.val_plus l2.pos la.pos
  ·have e4:((M.getD i []).set j (Mq.plus ((M.getD i []).getD j (0,1)) a)).getD y (0,1)=(M.getD i []).getD y (0,1):=by rw[List.getD_eq_getElem?_getD,List.getElem?_set,if_neg d,← List.getD_eq_getElem?_getD]
   rw[e4,if_neg (fun z=>d z.2),Rat.add_zero]
 ·have e3:(M.set i (rzl (M.getD i []) j a)).getD x []=M.getD x []:=by rw[List.getD_eq_getElem?_getD,List.getElem?_set,if_neg c,← List.getD_eq_getElem?_getD]
  rw[e3,if_neg (fun z=>c z.1),Rat.add_zero]
structure LnB (R:List Mq.Q2) (w n:Nat):Prop where
 w:R.length=w
 l:∀p∈R,Mq.Low p∧Mq.Bd n p
theorem LnB.mono {R:List Mq.Q2}{w n n':Nat}(b:LnB R w n)(le:n≤n'):LnB R w n':=⟨b.w,fun p hp=>⟨(b.l p hp).1,(b.l p hp).2.mono le⟩⟩
theorem LnB.at {R:List Mq.Q2}{w n j:Nat}(b:LnB R w n)(hj:j < w):R[j]?=some (R.getD j (0,1))∧Mq.Low (R.getD j (0,1))∧Mq.Bd n (R.getD j (0,1)):=by
 have hj':j < R.length:=by rw[b.w];exact hj
 have:=getQ2 hj'
 exact⟨this,b.l _ (List.mem_of_getElem? this)⟩
theorem LnB.set {R:List Mq.Q2}{w n j:Nat}{q:Mq.Q2}(b:LnB R w n)(lq:Mq.Low q)(bq:Mq.Bd n q):LnB (R.set j q) w n:=⟨by rw[List.length_set];exact b.w,fun p hp=>by
 rcases List.mem_or_eq_of_mem_set hp with z | z
 ·exact b.l p z
 ·rw[z];exact⟨lq,bq⟩⟩
theorem LnB.rz {R:List Mq.Q2}{w n k j:Nat}{a:Mq.Q2}(b:LnB R w n)(hj:j < w)(la:Mq.Low a)(ba:Mq.Bd k a):LnB (rzl R j a) w (n+k+1):=by
 obtain⟨_,l2,b2⟩:=b.at hj
 exact(b.mono (by omega)).set (Mq.plus_low l2.pos la.pos) (Mq.plus_bd b2 ba l2.pos la.pos)
theorem getD_setQ {R:List Mq.Q2}{j y:Nat}{q:Mq.Q2}(hj:j < R.length):(R.set j q).getD y (0,1)=if j=y then q else R.getD y (0,1):=by
 rw[List.getD_eq_getElem?_getD,List.getElem?_set]
 by_cases e:j=y
 ·rw[if_pos e,if_pos e,if_pos (by omega)];rfl
 ·rw[if_neg e,if_neg e,← List.getD_eq_getElem?_getD]
theorem rzl_val {R:List Mq.Q2}{w n j:Nat}{a:Mq.Q2}(b:LnB R w n)(hj:j < w)(la:Mq.Low a)(y:Nat):Mq.val ((rzl R j a).getD y (0,1))=Mq.val (R.getD y (0,1))+if j=y then Mq.val a else 0:=by
 obtain⟨_,l2,b2⟩:=b.at hj
 unfold rzl
 rw[getD_setQ (by rw[b.w];exact hj)]
 by_cases d:j=y
 ·subst d
  rw[if_pos rfl,if_pos rfl]
  exact Mq.val_plus l2.pos la.pos
 ·rw[if_neg d,if_neg d,Rat.add_zero]
def SX (as:List Addr)(H H':Hp):Prop:=∀b o,H b=some o→b∉as→H' b=some o
theorem Same.sx {as:List Addr}{H H':Hp}(s:Same H H'):SX as H H':=fun b o e _=>s b o e
theorem SX.trans {as:List Addr}{H H1 H2:Hp}(a:SX as H H1)(b:SX as H1 H2):SX as H H2:=fun c o h n=>b c o (a c o h n) n
theorem SX.write {as:List Addr}{H H1:Hp}{l:Addr}{o:HO}(a:SX as H H1)(hl:l∈as):SX as H (upd H1 l o):=fun c u h n=>by rw[upd_ne (fun z=>n (by rw[z];exact hl))];exact a c u h n
theorem SX.mono {as bs:List Addr}{H H':Hp}(a:SX as H H')(h:∀x∈as,x∈bs):SX bs H H':=fun c o e n=>a c o e fun z=>n (h c z)
theorem SX.same {as:List Addr}{H0 H H':Hp}(s:Same H0 H)(a:SX as H H')(h:∀x∈as,H0 x=none):Same H0 H':=fun c o e=>a c o (s c o e) fun z=>by rw[h c z] at e;cases e
def Lsts (as:List Addr)(H:Hp):Prop:=∀a∈as,∃xs,H a=some (.lst xs)
theorem SX.seqT {K:PySem.W.Frag}{as:List Addr}{H H':Hp}(hl:Lsts as H)(e:SX as H H'){a:Addr}{xs:List V}(h:SqT K H a xs):SqT K H' a xs:=by
 have nx:∀{o:HO},H a=some o→(∀ys,o≠.lst ys)→a∉as:=fun ho n z=>by
  obtain⟨ys,hy⟩:=hl a z
  rw[hy] at ho
  exact n ys (Option.some.inj ho).symm
 rcases h with (h | ⟨u,h⟩) | h
 ·exact .inl (.inl (e _ _ h (nx h fun ys z=>by cases z)))
 ·exact .inl (.inr ⟨u,e _ _ h (nx h fun ys z=>by cases z)⟩)
 ·exact .inr h
theorem SX.rw {CK:Kd→Addr}{as:List Addr}{H H':Hp}(hl:Lsts as H)(e:SX as H H'){x:Addr}{k:Kd}{s g z:V}(h:Rw CK H x k s g z):Rw CK H' x k s g z:=by
 obtain⟨dx,q⟩:=h
 refine⟨dx,e _ _ q fun y=>?_⟩
 obtain⟨ys,hy⟩:=hl x y
 rw[hy] at q;cases q
theorem SX.fqs {K:PySem.W.Frag}{as:List Addr}{H H':Hp}(hl:Lsts as H)(e:SX as H H'):∀{xs:List V} {ps:List Mq.Q2},Fqs K H xs ps→Fqs K H' xs ps
 |_,_,.nil=>.nil
 |_,_,.cons f q=>.cons (e.seqT hl f) (SX.fqs hl e q)
structure Mx (K:PySem.W.Frag) (H:Hp) (D:Addr) (as:List Addr) (M:List (List Mq.Q2)):Prop where
 d:H D=some (.lst (as.map V.ref))
 n:as.Nodup
 nd:D∉as
 la:as.length=M.length
 r:∀(i:Nat) (a:Addr) (ps:List Mq.Q2),as[i]?=some a→M[i]?=some ps→∃xs,H a=some (.lst xs)∧Fqs K H xs ps
theorem Mx.lsts {K:PySem.W.Frag}{H:Hp}{D:Addr}{as:List Addr}{M:List (List Mq.Q2)}(m:Mx K H D as M):Lsts as H:=fun a ha=>by
 obtain⟨i,hi⟩:=List.getElem?_of_mem ha
 have il:=(List.getElem?_eq_some_iff.mp hi).1
 have il':i < M.length:=by rw[← m.la];exact il
 obtain⟨xs,h,_⟩:=m.r i a M[i] hi (List.getElem?_eq_getElem il')
 exact⟨xs,h⟩
theorem Mx.same {K:PySem.W.Frag}{H H':Hp}{D:Addr}{as:List Addr}{M:List (List Mq.Q2)}(s:Same H H')(m:Mx K H D as M):Mx K H' D as M:=⟨s _ _ m.d,m.n,m.nd,m.la,fun i a ps h1 h2=>by
 obtain⟨xs,h,f⟩:=m.r i a ps h1 h2
 exact⟨xs,s _ _ h,f.same s⟩⟩
theorem Mx.set {K:PySem.W.Frag}{H H1:Hp}{D a v:Addr}{as:List Addr}{M:List (List Mq.Q2)}{i j:Nat}{ps:List Mq.Q2}{xs:List V}{q:Mq.Q2}(m:Mx K H D as M)(ha:as[i]?=some a)(hp:M[i]?=some ps)(hx:H a=some (.lst xs))(hF:Fqs K H xs ps)(s:Same H H1)(fv:Fq K H1 v q):Mx K (upd H1 a (.lst (xs.set j (.ref v)))) D as (M.set i (ps.set j q))∧SX as H (upd H1 a (.lst (xs.set j (.ref v)))):=by
 have ma:=List.mem_of_getElem? ha
 have hx1:=s _ _ hx
 have il:=(List.getElem?_eq_some_iff.mp ha).1
 refine⟨⟨?_,m.n,m.nd,by rw[List.length_set];exact m.la,fun k b qs h1 h2=>?_⟩,s.sx.write ma⟩
 ·rw[upd_ne (fun z=>m.nd (by rw[z];exact ma))];exact s _ _ m.d
 ·rw[List.getElem?_set] at h2
  by_cases c:i=k
  ·subst c
   rw[ha] at h1
   have h1:a=b:=Option.some.inj h1
   subst h1
   rw[if_pos rfl] at h2
   split at h2
   ·have h2:ps.set j q=qs:=Option.some.inj h2
    rw[← h2]
    exact⟨_,upd_same,(Fqs.set fv j (hF.same s)).upd hx1⟩
   ·cases h2
  ·rw[if_neg c] at h2
   obtain⟨ys,hy,fy⟩:=m.r k b qs h1 h2
   have nb:b≠a:=fun z=>by
    subst z
    have kl:=(List.getElem?_eq_some_iff.mp h1).1
    have e1:as[i]'il=b:=(List.getElem?_eq_some_iff.mp ha).2
    have e2:as[k]'kl=b:=(List.getElem?_eq_some_iff.mp h1).2
    exact c ((List.getElem_inj m.n).mp (e1.trans e2.symm))
   exact⟨ys,by rw[upd_ne nb];exact s _ _ hy,(fy.same s).upd hx1⟩
def hcol (k:Kd):Nat:=if k=.ho then 1 else 0
def en (M:List (List Mq.Q2))(d:RD)(c:Nat)(a:Mq.Q2):List (List Mq.Q2):=rz (rz M d.2.1.toNat c a) d.2.2.1.toNat c (Mq.minus (0,1) a)
def dl (s g x:Nat):Rat:=(if s=x then 1 else 0) - (if g=x then 1 else 0)
def cM (d:RD)(h x y:Nat):Rat:=match d.1 with
 | .pc=>dl d.2.1.toNat d.2.2.1.toNat x*dl d.2.1.toNat d.2.2.1.toNat y*(1 / Mq.val d.2.2.2)
 | .pu=>0
 | .ho=>dl d.2.1.toNat d.2.2.1.toNat x*(if h=y then 1 else 0)+(if h=x then 1 else 0)*dl d.2.1.toNat d.2.2.1.toNat y
def cR (d:RD)(h x:Nat):Rat:=match d.1 with
 | .pc=>0
 | .pu=>- dl d.2.1.toNat d.2.2.1.toNat x*Mq.val d.2.2.2
 | .ho=>if h=x then Mq.val d.2.2.2 else 0
def eqM:Nat→List RD→Nat→Nat→Rat
 |_,[],_,_=>0
 |h,d :: ds,x,y=>cM d h x y+eqM (h+hcol d.1) ds x y
def eqR:Nat→List RD→Nat→Rat
 |_,[],_=>0
 |h,d :: ds,x=>cR d h x+eqR (h+hcol d.1) ds x
def hds' (ds:List RD):Nat:=(selD .ho ds).length
theorem hds_cons (d:RD)(ds:List RD):hds' (d :: ds)=hcol d.1+hds' ds:=by
 unfold hds' hcol selD
 by_cases h:d.1=.ho
 ·rw[List.filter_cons_of_pos (by exact decide_eq_true h),if_pos h,List.length_cons];omega
 ·rw[List.filter_cons_of_neg (by simp[h]),if_neg h];omega
theorem eqM_snoc (d:RD)(x y:Nat):∀(ds:List RD) (h:Nat),eqM h (ds++[d]) x y=eqM h ds x y+cM d (h+hds' ds) x y
 | [],h=>by show cM d h x y+0=0+cM d (h+0) x y;rw[Nat.add_zero];grind
 |e :: ds,h=>by
  show cM e h x y+eqM (h+hcol e.1) (ds++[d]) x y=cM e h x y+eqM (h+hcol e.1) ds x y+_
  rw[eqM_snoc d x y ds,hds_cons,Nat.add_assoc];grind
theorem eqR_snoc (d:RD)(x:Nat):∀(ds:List RD) (h:Nat),eqR h (ds++[d]) x=eqR h ds x+cR d (h+hds' ds) x
 | [],h=>by show cR d h x+0=0+cR d (h+0) x;rw[Nat.add_zero];grind
 |e :: ds,h=>by
  show cR e h x+eqR (h+hcol e.1) (ds++[d]) x=cR e h x+eqR (h+hcol e.1) ds x+_
  rw[eqR_snoc d x ds,hds_cons,Nat.add_assoc];grind
theorem one_low:Mq.Low (1,1):=⟨by decide,by decide⟩
theorem neg_ok {a:Mq.Q2}{k:Nat}(la:Mq.Low a)(ba:Mq.Bd k a):Mq.Low (Mq.minus (0,1) a)∧Mq.Bd (k+2) (Mq.minus (0,1) a)∧Mq.val (Mq.minus (0,1) a)=- Mq.val a:=by
 have h01:1≤((0,1):Mq.Q2).2:=by decide
 have b01:Mq.Bd 1 (0,1):=⟨show (0:Nat) < 2 ^ 1 by decide,show (1:Nat) < 2 ^ 1 by decide⟩
 refine⟨Mq.minus_low h01 la.pos,(Mq.minus_bd b01 ba h01 la.pos).mono (by omega),?_⟩
 rw[Mq.val_minus h01 la.pos,Mq.val01];grind
theorem en_ok {M:List (List Mq.Q2)}{h w n k c:Nat}{d:RD}{a:Mq.Q2}(b:MxB M h w n)(pt:PtOk (h:Int) d.2.1 d.2.2.1)(hc:c < w)(la:Mq.Low a)(ba:Mq.Bd k a):MxB (en M d c a) h w (n+2*k+4)∧∀x y,Mq.val (mget (en M d c a) x y)=Mq.val (mget M x y)+dl d.2.1.toNat d.2.2.1.toNat x*(if c=y then 1 else 0)*Mq.val a:=by
 obtain⟨i0,i1,j0,j1⟩:=pt
 obtain⟨ln,bn,vn⟩:=neg_ok la ba
 have b1:=b.rz (i:=d.2.1.toNat) (by omega) hc la ba
 have b2:=b1.rz (i:=d.2.2.1.toNat) (by omega) hc ln bn
 refine⟨b2.mono (by omega),fun x y=>?_⟩
 unfold en
 rw[rz_val b1 (by omega) hc ln,rz_val b (by omega) hc la,vn]
 unfold dl
 by_cases c1:d.2.1.toNat=x<;>by_cases c2:d.2.2.1.toNat=x<;>by_cases c3:c=y<;>simp only[c1,c2,c3,true_and,and_true,false_and,and_false,and_self,if_true,if_false]<;>grind
def pM (M:List (List Mq.Q2))(d:RD):List (List Mq.Q2):=en (en M d d.2.1.toNat (Mq.over (1,1) d.2.2.2)) d d.2.2.1.toNat (Mq.minus (0,1) (Mq.over (1,1) d.2.2.2))
def pR (rs:List Mq.Q2)(d:RD):List Mq.Q2:=rzl (rzl rs d.2.1.toNat (Mq.minus (0,1) d.2.2.2)) d.2.2.1.toNat d.2.2.2
theorem one_bd:Mq.Bd 1 (1,1):=⟨show (1:Nat) < 2 ^ 1 by decide,show (1:Nat) < 2 ^ 1 by decide⟩
theorem h11:1≤((1,1):Mq.Q2).2:=by decide
theorem share_ok {p:Mq.Q2}{k:Nat}(l:Mq.Low p)(h0:0 < p.1)(b:Mq.Bd k p):Mq.Low (Mq.over (1,1) p)∧Mq.Bd (k+1) (Mq.over (1,1) p)∧Mq.val (Mq.over (1,1) p)=1 / Mq.val p:=by
 refine⟨Mq.over_low h11 (by omega),(Mq.over_bd one_bd b h11 (by omega)).mono (by omega),?_⟩
 rw[Mq.val_over h11 l.pos (by omega),Mq.val11]
theorem pM_ok {M:List (List Mq.Q2)}{w n k m h:Nat}{d:RD}(b:MxB M w w n)(pt:PtOk (m:Int) d.2.1 d.2.2.1)(hm:m≤w)(hk:d.1=.pc)(l:Mq.Low d.2.2.2)(h0:0 < d.2.2.2.1)(bk:Mq.Bd k d.2.2.2):MxB (pM M d) w w (n+4*k+20)∧∀x y,Mq.val (mget (pM M d) x y)=Mq.val (mget M x y)+cM d h x y:=by
 obtain⟨i0,i1,j0,j1⟩:=pt
 obtain⟨ls,bs,vs⟩:=share_ok l h0 bk
 obtain⟨ln,bn,vn⟩:=neg_ok ls bs
 have pt':PtOk (w:Int) d.2.1 d.2.2.1:=⟨i0,by omega,j0,by omega⟩
 obtain⟨b1,v1⟩:=en_ok b pt' (c:=d.2.1.toNat) (by omega) ls bs
 obtain⟨b2,v2⟩:=en_ok b1 pt' (c:=d.2.2.1.toNat) (by omega) ln bn
 refine⟨b2.mono (by omega),fun x y=>?_⟩
 unfold pM
 rw[v2,v1,vn,vs]
 unfold cM
 rw[hk]
 show _=_+dl d.2.1.toNat d.2.2.1.toNat x*dl d.2.1.toNat d.2.2.1.toNat y*(1 / Mq.val d.2.2.2)
 generalize 1 / Mq.val d.2.2.2=v
 generalize dl d.2.1.toNat d.2.2.1.toNat x=u
 unfold dl
 by_cases c1:d.2.1.toNat=y<;>by_cases c2:d.2.2.1.toNat=y<;>simp only[c1,c2,if_true,if_false]<;>grind
theorem pR_ok {rs:List Mq.Q2}{w n k m h:Nat}{d:RD}(b:LnB rs w n)(pt:PtOk (m:Int) d.2.1 d.2.2.1)(hm:m≤w)(hk:d.1=.pu)(l:Mq.Low d.2.2.2)(bk:Mq.Bd k d.2.2.2):LnB (pR rs d) w (n+4*k+20)∧∀x,Mq.val ((pR rs d).getD x (0,1))=Mq.val (rs.getD x (0,1))+cR d h x:=by
 obtain⟨i0,i1,j0,j1⟩:=pt
 obtain⟨ln,bn,vn⟩:=neg_ok l bk
 have b1:=b.rz (j:=d.2.1.toNat) (by omega) ln bn
 have b2:=b1.rz (j:=d.2.2.1.toNat) (by omega) l bk
 refine⟨b2.mono (by omega),fun x=>?_⟩
 unfold pR
 rw[rzl_val b1 (by omega) l,rzl_val b (by omega) ln,vn]
 unfold cR
 rw[hk]
 show _=_ + - dl d.2.1.toNat d.2.2.1.toNat x*Mq.val d.2.2.2
 unfold dl
 by_cases c1:d.2.1.toNat=x<;>by_cases c2:d.2.2.1.toNat=x<;>simp only[c1,c2,if_true,if_false]<;>grind
def spRaise (K:PySem.W.Frag):Sp:=fun vs H Q _=>∃(l z:Addr) (j:Nat) (xs:List V) (ps:List Mq.Q2) (a:Mq.Q2) (n m:Nat),vs=[.ref l,.int (j:Int),.ref z]∧H l=some (.lst xs)∧Fqs K H xs ps∧j < ps.length∧1≤(ps.getD j (0,1)).2∧Mq.Bd n (ps.getD j (0,1))∧Fq K H z a∧1≤a.2∧Mq.Bd m a∧n+m+1≤9000∧∀v H1,Same H H1→Fq K H1 v (Mq.plus (ps.getD j (0,1)) a)→Q .non (upd H1 l (.lst (xs.set j (.ref v))))
def spEnter (K:PySem.W.Frag)(CK:Kd→Addr):Sp:=fun vs H Q _=>∃(D x z:Addr) (zz:V) (as:List Addr) (M:List (List Mq.Q2)) (d:RD) (w n k c:Nat) (a:Mq.Q2),vs=[.ref D,.ref x,.int (c:Int),.ref z]∧Mx K H D as M∧MxB M w w n∧Rw CK H x d.1 (.int d.2.1) (.int d.2.2.1) zz∧PtOk (w:Int) d.2.1 d.2.2.1∧c < w∧Fq K H z a∧Mq.Low a∧Mq.Bd k a∧n+2*k+4≤9000∧∀H',SX as H H'→Mx K H' D as (en M d c a)→Q .non H'
def spEnterP (K:PySem.W.Frag)(CK:Kd→Addr):Sp:=fun vs H Q _=>∃(D x zz:Addr) (as:List Addr) (M:List (List Mq.Q2)) (d:RD) (w n k:Nat),vs=[.ref D,.ref x]∧Mx K H D as M∧MxB M w w n∧Rw CK H x d.1 (.int d.2.1) (.int d.2.2.1) (.ref zz)∧Fq K H zz d.2.2.2∧PtOk (w:Int) d.2.1 d.2.2.1∧Mq.Low d.2.2.2∧0 < d.2.2.2.1∧Mq.Bd k d.2.2.2∧n+4*k+20≤9000∧∀H',SX as H H'→Mx K H' D as (pM M d)→Q .non H'
def spEnterU (K:PySem.W.Frag)(CK:Kd→Addr):Sp:=fun vs H Q _=>∃(R x zz:Addr) (ys:List V) (rs:List Mq.Q2) (d:RD) (w n k:Nat),vs=[.ref R,.ref x]∧H R=some (.lst ys)∧Fqs K H ys rs∧LnB rs w n∧Rw CK H x d.1 (.int d.2.1) (.int d.2.2.1) (.ref zz)∧Fq K H zz d.2.2.2∧PtOk (w:Int) d.2.1 d.2.2.1∧Mq.Low d.2.2.2∧Mq.Bd k d.2.2.2∧n+4*k+20≤9000∧∀ys' H',SX [R] H H'→H' R=some (.lst ys')→Fqs K H' ys' (pR rs d)→Q .non H'
end L2
set_option maxHeartbeats 2000000
namespace L2
open PySem PySem.Spec PyProof.Rows
theorem fpl:¬(("places":Str) = "lines"):=by decide +kernel
theorem fpa:¬(("places":Str) = "arrivals"):=by decide +kernel
theorem fla:¬(("lines":Str) = "arrivals"):=by decide +kernel
def tflds (p l a:Addr):List (Str × V):=putF "arrivals" (.ref a) (putF "lines" (.ref l) (putF "places" (.ref p) []))
theorem tflds_p (p l a:Addr):(tflds p l a).lookup ("places":Str)=some (.ref p):=by
 unfold tflds
 rw[lookup_putF,if_neg fpa,lookup_putF,if_neg fpl,lookup_putF,if_pos rfl]
theorem tflds_l (p l a:Addr):(tflds p l a).lookup ("lines":Str)=some (.ref l):=by
 unfold tflds
 rw[lookup_putF,if_neg fla,lookup_putF,if_pos rfl]
theorem tflds_a (p l a:Addr):(tflds p l a).lookup ("arrivals":Str)=some (.ref a):=by
 unfold tflds
 rw[lookup_putF,if_pos rfl]
theorem tflds_no (p l a:Addr){x:Str}(h1:¬x = "places")(h2:¬x = "lines")(h3:¬x = "arrivals"):(tflds p l a).lookup x=none:=by
 unfold tflds
 rw[lookup_putF,if_neg h3,lookup_putF,if_neg h2,lookup_putF,if_neg h1]
 rfl
structure TB (K:PySem.W.Frag) (mg:Str→Option Value) (CT:Addr):Prop where
 cl:Cls K CT
 nP:NoAttr K CT "places"
 nL:NoAttr K CT "lines"
 nA:NoAttr K CT "arrivals"
 mT:mg "Table"=some (.ref CT)
structure Lns (K:PySem.W.Frag) (H:Hp) (us:List V) (X:List (List Mq.Q2)):Prop where
 l:us.length=X.length
 r:∀(i:Nat) (x:V) (ps:List Mq.Q2),us[i]?=some x→X[i]?=some ps→∃(a:Addr) (xs:List V),x=.ref a∧SqL K H a xs∧Fqs K H xs ps
theorem Lns.same {K:PySem.W.Frag}{H H':Hp}{us:List V}{X:List (List Mq.Q2)}(e:Same H H')(h:Lns K H us X):Lns K H' us X:=⟨h.l,fun i x ps h1 h2=>let ⟨a,xs,e1,e2,e3⟩:=h.r i x ps h1 h2;⟨a,xs,e1,e.seq e2,e3.same e⟩⟩
theorem Lns.nil {K:PySem.W.Frag}{H:Hp}:Lns K H [] []:=⟨rfl,fun i x ps h=>by simp at h⟩
theorem Lns.snoc {K:PySem.W.Frag}{H:Hp}{us:List V}{X:List (List Mq.Q2)}{a:Addr}{xs:List V}{ps:List Mq.Q2}(f:Lns K H us X)(h:SqL K H a xs)(s:Fqs K H xs ps):Lns K H (us++[.ref a]) (X++[ps]):=by
 refine⟨by rw[List.length_append,List.length_append,f.l];rfl,fun i x qs h1 h2=>?_⟩
 have l:=f.l
 by_cases c:i < us.length
 ·rw[List.getElem?_append_left c] at h1
  rw[List.getElem?_append_left (by omega)] at h2
  exact f.r i x qs h1 h2
 ·have hi:i=us.length:=by
   have:=(List.getElem?_eq_some_iff.mp h1).1
   rw[List.length_append] at this
   simp only[List.length_cons,List.length_nil] at this
   omega
  subst hi
  rw[List.getElem?_append_right (Nat.le_refl _),Nat.sub_self] at h1
  rw[List.getElem?_append_right (by omega),show us.length - X.length=0 by omega] at h2
  cases h1
  cases h2
  exact⟨a,xs,rfl,h,s⟩
theorem Lns.upd {K:PySem.W.Frag}{H:Hp}{us:List V}{X:List (List Mq.Q2)}{l:Addr}{ys:List V}{o:HO}(f:Lns K H us X)(hl:H l=some (.lst ys))(n:∀x∈us,x≠.ref l):Lns K (upd H l o) us X:=⟨f.l,fun i x st h1 h2=>by
 obtain⟨a,xs,e1,h,s⟩:=f.r i x st h1 h2
 have na:a≠l:=fun z=>n x (List.mem_of_getElem? h1) (by rw[e1,z])
 exact⟨a,xs,e1,SqL.upd h na,s.upd hl⟩⟩
structure LnH (K:PySem.W.Frag) (H:Hp) (us:List V) (X:List (List Mq.Q2)):Prop where
 l:us.length=X.length
 r:∀(i:Nat) (x:V) (ps:List Mq.Q2),us[i]?=some x→X[i]?=some ps→∃(a:Addr) (xs:List V),x=.ref a∧H a=some (.lst xs)∧Fqs K H xs ps
theorem LnH.same {K:PySem.W.Frag}{H H':Hp}{us:List V}{X:List (List Mq.Q2)}(e:Same H H')(h:LnH K H us X):LnH K H' us X:=⟨h.l,fun i x ps h1 h2=>let ⟨a,xs,e1,e2,e3⟩:=h.r i x ps h1 h2;⟨a,xs,e1,e _ _ e2,e3.same e⟩⟩
theorem LnH.nil {K:PySem.W.Frag}{H:Hp}:LnH K H [] []:=⟨rfl,fun i x ps h=>by simp at h⟩
theorem LnH.snoc {K:PySem.W.Frag}{H:Hp}{us:List V}{X:List (List Mq.Q2)}{a:Addr}{xs:List V}{ps:List Mq.Q2}(f:LnH K H us X)(h:H a=some (.lst xs))(s:Fqs K H xs ps):LnH K H (us++[.ref a]) (X++[ps]):=by
 refine⟨by rw[List.length_append,List.length_append,f.l];rfl,fun i x qs h1 h2=>?_⟩
 have l:=f.l
 by_cases c:i < us.length
 ·rw[List.getElem?_append_left c] at h1
  rw[List.getElem?_append_left (by omega)] at h2
  exact f.r i x qs h1 h2
 ·have hi:i=us.length:=by
   have:=(List.getElem?_eq_some_iff.mp h1).1
   rw[List.length_append] at this
   simp only[List.length_cons,List.length_nil] at this
   omega
  subst hi
  rw[List.getElem?_append_right (Nat.le_refl _),Nat.sub_self] at h1
  rw[List.getElem?_append_right (by omega),show us.length - X.length=0 by omega] at h2
  cases h1
  cases h2
  exact⟨a,xs,rfl,h,s⟩
theorem LnH.upd {K:PySem.W.Frag}{H:Hp}{us:List V}{X:List (List Mq.Q2)}{l:Addr}{ys:List V}{o:HO}(f:LnH K H us X)(hl:H l=some (.lst ys))(n:∀x∈us,x≠.ref l):LnH K (upd H l o) us X:=⟨f.l,fun i x st h1 h2=>by
 obtain⟨a,xs,e1,h,s⟩:=f.r i x st h1 h2
 have na:a≠l:=fun z=>n x (List.mem_of_getElem? h1) (by rw[e1,z])
 exact⟨a,xs,e1,by rw[upd_ne na];exact h,s.upd hl⟩⟩
theorem LnH.lns {K:PySem.W.Frag}{H:Hp}{us:List V}{X:List (List Mq.Q2)}(h:LnH K H us X):Lns K H us X:=⟨h.l,fun i x ps h1 h2=>let ⟨a,xs,e1,e2,e3⟩:=h.r i x ps h1 h2;⟨a,xs,e1,SqL.of e2,e3⟩⟩
theorem LnH.at {K:PySem.W.Frag}{H:Hp}{us:List V}{X:List (List Mq.Q2)}(h:LnH K H us X){i:Nat}{ps:List Mq.Q2}(hi:X[i]?=some ps):∃a xs,us[i]?=some (.ref a)∧H a=some (.lst xs)∧Fqs K H xs ps:=by
 have hl:i < us.length:=by rw[h.l];exact(List.getElem?_eq_some_iff.mp hi).1
 obtain⟨a,xs,e,h1,h2⟩:=h.r i _ ps (List.getElem?_eq_getElem hl) hi
 exact⟨a,xs,by rw[List.getElem?_eq_getElem hl,e],h1,h2⟩
theorem Lns.at {K:PySem.W.Frag}{H:Hp}{us:List V}{X:List (List Mq.Q2)}(h:Lns K H us X){i:Nat}{ps:List Mq.Q2}(hi:X[i]?=some ps):∃a xs,us[i]?=some (.ref a)∧SqL K H a xs∧Fqs K H xs ps:=by
 have hl:i < us.length:=by rw[h.l];exact(List.getElem?_eq_some_iff.mp hi).1
 obtain⟨a,xs,e,h1,h2⟩:=h.r i _ ps (List.getElem?_eq_getElem hl) hi
 exact⟨a,xs,by rw[List.getElem?_eq_getElem hl,e],h1,h2⟩
theorem SameX.seqI {K:PySem.W.Frag}{t a C dx:Addr}{fs:List (Str × V)}{H H':Hp}{xs:List V}(ht:H t=some (.ins C dx fs))(e:SameX t H H')(h:SqL K H a xs):SqL K H' a xs:=by
 rcases h with (h | ⟨u,h⟩) | h
 ·exact .inl (.inl (e _ _ h (ne_of h ht (fun z=>by cases z))))
 ·exact .inl (.inr ⟨u,e _ _ h (ne_of h ht (fun z=>by cases z))⟩)
 ·exact .inr h
theorem SameX.seqTI {K:PySem.W.Frag}{t a C dx:Addr}{fs:List (Str × V)}{H H':Hp}{xs:List V}(ht:H t=some (.ins C dx fs))(e:SameX t H H')(h:SqT K H a xs):SqT K H' a xs:=by
 rcases h with (h | ⟨u,h⟩) | h
 ·exact .inl (.inl (e _ _ h (ne_of h ht (fun z=>by cases z))))
 ·exact .inl (.inr ⟨u,e _ _ h (ne_of h ht (fun z=>by cases z))⟩)
 ·exact .inr h
theorem SameX.fqsI {K:PySem.W.Frag}{t C dx:Addr}{fs:List (Str × V)}{H H':Hp}(ht:H t=some (.ins C dx fs))(e:SameX t H H'):∀{xs:List V} {ps:List Mq.Q2},Fqs K H xs ps→Fqs K H' xs ps
 |_,_,.nil=>.nil
 |_,_,.cons f q=>.cons (SameX.seqTI ht e f) (SameX.fqsI ht e q)
theorem SameX.lnsI {K:PySem.W.Frag}{t C dx:Addr}{fs:List (Str × V)}{H H':Hp}{us:List V}{X:List (List Mq.Q2)}(ht:H t=some (.ins C dx fs))(e:SameX t H H')(h:Lns K H us X):Lns K H' us X:=⟨h.l,fun i x ps h1 h2=>let ⟨a,xs,e1,e2,e3⟩:=h.r i x ps h1 h2;⟨a,xs,e1,SameX.seqI ht e e2,SameX.fqsI ht e e3⟩⟩
structure TabAt (CT:Addr) (K:PySem.W.Frag) (H:Hp) (t:Addr) (es:List Int) (X:List (List Mq.Q2)) (cs:List Mq.Q2):Prop where
 e:∃(dx p l a:Addr) (us ys:List V),H t=some (.ins CT dx (tflds p l a))∧SqL K H p (es.map V.int)∧SqL K H l us∧Lns K H us X∧SqL K H a ys∧Fqs K H ys cs
theorem TabAt.same {CT:Addr}{K:PySem.W.Frag}{H H':Hp}{t:Addr}{es:List Int}{X:List (List Mq.Q2)}{cs:List Mq.Q2}(s:Same H H')(h:TabAt CT K H t es X cs):TabAt CT K H' t es X cs:=by
 obtain⟨dx,p,l,a,us,ys,h1,h2,h3,h4,h5,h6⟩:=h.e
 exact⟨dx,p,l,a,us,ys,s _ _ h1,s.seq h2,s.seq h3,h4.same s,s.seq h5,h6.same s⟩
def spTInit (CT:Addr)(K:PySem.W.Frag):Sp:=fun vs H Q _=>∃(t dx e g c:Addr) (es:List Int) (us ys:List V) (X:List (List Mq.Q2)) (cs:List Mq.Q2),vs=[.ref t,.ref e,.ref g,.ref c]∧H t=some (.ins CT dx [])∧SqL K H e (es.map V.int)∧SqL K H g us∧Lns K H us X∧us.length≤100∧SqL K H c ys∧Fqs K H ys cs∧∀H',SameX t H H'→TabAt CT K H' t es X cs→Q .non H'
def spTEnds (CT:Addr)(K:PySem.W.Frag):Sp:=fun vs H Q _=>∃(t:Addr) (es:List Int) (X:List (List Mq.Q2)) (cs:List Mq.Q2),vs=[.ref t]∧TabAt CT K H t es X cs∧∀a H',Same H H'→H a=none→H' a=some (.lst (es.map V.int))→Q (.ref a) H'
def spTMat (CT:Addr)(K:PySem.W.Frag):Sp:=fun vs H Q _=>∃(t:Addr) (es:List Int) (X:List (List Mq.Q2)) (cs:List Mq.Q2),vs=[.ref t]∧TabAt CT K H t es X cs∧X.length≤100∧∀a us H',Same H H'→H' a=some (.lst us)→LnH K H' us X→Q (.ref a) H'
def spTComes (CT:Addr)(K:PySem.W.Frag):Sp:=fun vs H Q _=>∃(t:Addr) (es:List Int) (X:List (List Mq.Q2)) (cs:List Mq.Q2),vs=[.ref t]∧TabAt CT K H t es X cs∧∀a ys H',Same H H'→H' a=some (.lst ys)→Fqs K H' ys cs→Q (.ref a) H'
end L2
namespace Mq
open Shp
def ix2 (X:List (List Q2))(i j:Nat):Q2:=(X.getD i []).getD j z0
theorem getL {X:List (List Q2)}{i:Nat}(h:i < X.length):X[i]?=some (X.getD i []):=by rw[List.getD_eq_getElem?_getD,List.getElem?_eq_getElem h];rfl
theorem getQ1 {l:List Q2}{i:Nat}(h:i < l.length):l[i]?=some (l.getD i z0):=by rw[List.getD_eq_getElem?_getD,List.getElem?_eq_getElem h];rfl
end Mq
namespace L2
open Mq Shp
theorem qs_ext {a b:List Q2}{m:Nat}(la:a.length=m)(lb:b.length=m)(h:∀i,i < m→a.getD i z0=b.getD i z0):a=b:=by
 refine List.ext_getElem (by omega) fun i h1 h2=>?_
 have:=h i (by omega)
 rwa [List.getD_eq_getElem?_getD,List.getD_eq_getElem?_getD,List.getElem?_eq_getElem h1,List.getElem?_eq_getElem h2] at this
theorem xs_ext {a b:List (List Q2)}{m:Nat}(la:a.length=m)(lb:b.length=m)(ra:∀row∈a,row.length=m)(rb:∀row∈b,row.length=m)(h:∀i j,i < m→j < m→ix2 a i j=ix2 b i j):a=b:=by
 refine List.ext_getElem (by omega) fun i h1 h2=>?_
 refine qs_ext (ra _ (List.getElem_mem h1)) (rb _ (List.getElem_mem h2)) fun j hj=>?_
 have:=h i j (by omega) hj
 unfold ix2 at this
 rwa [List.getD_eq_getElem?_getD (l:=a),List.getD_eq_getElem?_getD (l:=b),List.getElem?_eq_getElem h1,List.getElem?_eq_getElem h2] at this
end L2
set_option maxHeartbeats 4000000
namespace K56
open PySem L2
def top (i:Nat):Stmt:=PySem.Challenge.pw_ohmyard_k56_tables_as_nets.main.body.getD i (.Pass ⟨0,0,0,0⟩)
section
variable {P:Program} {w:World} {K:PySem.W.Frag} {mg:Str→Option Value} {base:Heap} {f g1 g2 g3 g4 g5 g6 g7 g8:Addr} {fd gd1 gd2 gd3 gd4 gd5 gd6 gd7 gd8:FuncData} {CX:CXT}
abbrev sWhole:Stmt:=top 13
theorem scWhole:FnScope ["thing"] ["thing"] (defScope sWhole):=⟨rfl,rfl,rfl,by decide +kernel,rfl,by decide +kernel,by decide +kernel⟩
theorem ok_whole {dV:Value}(F:FunD K "is_whole" "is_whole" sWhole dV f fd)(b:Bl mg):FnOk P w K mg base CX 1 f fd ["thing"] (spWhole K):=by
 refine F.ok scWhole (fun vs H Q E h=>?_) (fun cdv A outer s H vs Q E hr h=>?_)
 ·obtain⟨x,rfl,_⟩:=h
  rfl
 obtain⟨x,rfl,h⟩:=h
 refine⟨_,pss_one (ps_ret (pe_and (pe_isiQ (i:=0) rfl (Or.inl rfl) b.isi b.int rfl rfl PyProof.Rows.boot_int) (pe_one (pe_not (pe_isiQ (i:=0) rfl (Or.inl rfl) b.isi b.bool rfl rfl PyProof.Rows.boot_bool))))),?_⟩
 rcases h with ⟨i,rfl,q⟩ | ⟨t,ty,nw,q⟩
 ·exact⟨_,_,_,rfl,.of (.int i),rfl,_,rfl,iteT ⟨_,_,false,rfl,.of (.int i),(by with_unfolding_all rfl),_,rfl,q⟩⟩
 ·rcases nw with rfl | rfl | rfl | rfl | rfl
  ·exact⟨_,_,true,rfl,.of ty,(by with_unfolding_all rfl),_,rfl,iteT ⟨_,_,_,rfl,.of ty,rfl,_,rfl,q⟩⟩
  all_goals exact⟨_,_,false,rfl,.of ty,(by with_unfolding_all rfl),_,rfl,iteF q⟩
abbrev sGc:Stmt:=top 15
theorem scGc:FnScope ["one","other","rest"] ["one","other"] (defScope sGc):=⟨rfl,rfl,rfl,by decide +kernel,rfl,by decide +kernel,by decide +kernel⟩
theorem ok_gc {dV:Value}(F:FunD K "greatest_common" "greatest_common" sGc dV f fd)(b:Bl mg):FnOk P w K mg base CX 1 f fd ["one","other"] spGc:=by
 refine F.ok scGc (fun vs H Q E h=>?_) (fun cdv A outer s H vs Q E hr h=>?_)
 ·obtain⟨x,y,rfl,_⟩:=h
  rfl
 obtain⟨x,y,rfl,q⟩:=h
 refine⟨_,pss_cons (ps_while PassesOwn.never (pt_cmpR op_ne (pv 1) pe_int (nomark _)) (pss_cons (ps_set (i:=2) scGc.nd rfl (Or.inl rfl) (pe_op op_modN (pv 0) (pv 1)))
  (pss_cons (ps_set (i:=0) scGc.nd rfl (Or.inl rfl) (pv 1)) (pss_one (ps_set (i:=1) scGc.nd rfl (Or.inl rfl) (pv 2))))))
  (pss_one (ps_ret (pe_callB call_abs rfl b.abs PyProof.Rows.boot_abs (pa_cons (pv 0) pa_nil)))),?_⟩
 refine while_by (fun σ H'=>H'=H∧∃u v z,σ=[some (.int u),some (.int v),z]∧Mq.gc u v=Mq.gc x y) (fun σ _=>match σ with | [_,some (.int v),_]=>v.natAbs | _=>0) ⟨rfl,x,y,none,rfl,rfl⟩ ?_ ?_
 ·rintro σ H' ⟨rfl,u,v,z,rfl,e⟩
  refine⟨_,rfl,rfl,_,rfl,?_⟩
  refine ite2 (fun c=>?_) (fun c=>?_)
  ·have hv:v≠0:=by intro q;subst q;simp at c
   refine⟨_,rfl,_,rfl,_,_,rfl,rfl,hv,_,rfl,_,rfl,⟨rfl,v,Int.fmod u v,_,rfl,(Mq.gc_step u v).trans e⟩,Mq.fmod_less hv⟩
  ·have hv:v=0:=by
    simp at c
    exact c
   subst hv
   refine⟨_,rfl,_,rfl,?_⟩
   rw[← Mq.gc_zero,e]
   exact q
 ·rintro σ H Q Q' m ⟨v,h1,h2,k,h3,h4⟩
  exact⟨v,h1,h2,k,h3,m _ _ h4⟩
abbrev sUnder:Stmt:=top 20
theorem scUnder:FnScope ["one","other"] ["one","other"] (defScope sUnder):=⟨rfl,rfl,rfl,by decide +kernel,rfl,by decide +kernel,by decide +kernel⟩
theorem ok_under {dV:Value}(F:FunD K "under" "under" sUnder dV f fd):FnOk P w K mg base CX 1 f fd ["one","other"] (spUnder K):=by
 refine F.ok scUnder (fun vs H Q E h=>?_) (fun cdv A outer s H vs Q E hr h=>?_)
 ·obtain⟨a,b,p,q,n,m,rfl,_⟩:=h
  rfl
 obtain⟨a,b,p,q,n,m,rfl,ha,hb,bp,bq,hn,z⟩:=h
 refine⟨_,pss_one (ps_ret (pe_cmpR op_lt (pe_op op_mulB (pe_ix ix_tup (pv 0) pe_int (fun _ _=>rfl)) (pe_ix ix_tup (pv 1) pe_int (fun _ _=>rfl))) (pe_op op_mulB (pe_ix ix_tup (pv 1) pe_int (fun _ _=>rfl)) (pe_ix ix_tup (pv 0) pe_int (fun _ _=>rfl))) (nomark _))),?_⟩
 exact rd_ix0 rfl ha (rd_ix1 rfl hb (rd_mulB bp.a bq.b (by omega) (by omega) (rd_ix0 rfl hb (rd_ix1 rfl ha (rd_mulB bq.a bp.b (by omega) (by omega) ⟨_,_,rfl,rfl,z⟩)))))
abbrev sFrac:Stmt:=top 16
theorem scFrac:FnScope ["top","bottom","shared"] ["top","bottom"] (defScope sFrac):=⟨rfl,rfl,rfl,by decide +kernel,rfl,by decide +kernel,by decide +kernel⟩
theorem ok_frac {dV:Value}(F:FunD K "fraction" "fraction" sFrac dV f fd)(G1:FnOk P w K mg base CX0 1 g1 gd1 ["thing"] (spWhole K))(b1:Binds K gd1 ["thing"] [])(k1:PySem.W.keepIn K (.ref g1)=true)(m1:mg "is_whole"=some (.ref g1))(G2:FnOk P w K mg base CX0 1 g2 gd2 ["one","other"] spGc)(b2:Binds K gd2 ["one","other"] [])(k2:PySem.W.keepIn K (.ref g2)=true)(m2:mg "greatest_common"=some (.ref g2)) :
  FnOk P w K mg base CX 2 f fd ["top","bottom"] spFrac:=by
 refine F.ok scFrac (fun vs H Q E h=>?_) (fun cdv A outer s H vs Q E hr h=>?_)
 ·obtain⟨t,b,n,rfl,_⟩:=h
  rfl
 obtain⟨t,b,n,rfl,hb,hB,hn,q⟩:=h
 refine⟨_,pss_cons (ps_if (PW.pt (pw_or (pt_not (pt_val (pe_call G1 hr rfl m1 k1 b1 .nil pass0 (pa_cons (pv 0) pa_nil)))) (pw_or (pt_not (pt_val (pe_call G1 hr rfl m1 k1 b1 .nil pass0 (pa_cons (pv 1) pa_nil)))) (pw_or1 (pt_cmpR op_eq (pv 1) pe_int (nomark _)))))) pss_never pss_nil)
  (pss_cons (ps_set (i:=2) scFrac.nd rfl (Or.inl rfl) (pe_call G2 hr rfl m2 k2 b2 .nil pass0 (pa_cons (pv 0) (pa_cons (pv 1) pa_nil))))
  (pss_cons (ps_if (pt_cmpR op_lt (pv 1) pe_int (nomark _)) (pss_one (ps_set (i:=2) scFrac.nd rfl (Or.inl rfl) (pe_un un_neg (pv 2)))) pss_nil)
  (pss_one (ps_ret (pe_tup (pa_cons (pe_op op_fdivB (pv 0) (pv 2)) (pa_cons (pe_op op_fdivB (pv 1) (pv 2)) pa_nil))))))),?_⟩
 have hd:=Mq.dvr_ne (t:=t) hb
 have hdB:Mq.B n (Mq.dvr t b):=hB.le (Mq.dvr_le hb)
 have c0:decide (V.int b=V.int 0)=false:=decide_eq_false (fun z=>hb (by cases z;rfl))
 refine⟨_,rfl,_,rfl,.inl ⟨t,rfl,_,rfl,iteF ⟨_,rfl,_,rfl,.inl ⟨b,rfl,_,rfl,iteF ⟨_,rfl,rfl,_,rfl,?_⟩⟩⟩⟩⟩
 rw[c0]
 refine iteF ⟨_,rfl,_,rfl,t,b,rfl,?_⟩
 refine⟨_,rfl,_,_,rfl,rfl,_,rfl,?_⟩
 refine ite2 (fun c=>?_) (fun c=>?_)
 ·have hlt:b < 0:=of_decide_eq_true c
  have e:Mq.dvr t b=-Mq.gc t b:=by unfold Mq.dvr;rw[if_pos hlt]
  rw[e] at hd hdB
  have q':NewF H Q (t.fdiv (-Mq.gc t b),b.fdiv (-Mq.gc t b)):=by
   have z:=q
   unfold Mq.red at z
   rw[e] at z
   exact z
  refine⟨_,rfl,_,rfl,?_⟩
  refine⟨_,rfl,_,rfl,?_⟩
  refine rd_fdivB hd hdB hn ⟨_,rfl,_,rfl,rd_fdivB hd hdB hn ⟨by show 2≤sizeLine;decide,fun p hp=>?_⟩⟩
  exact q' p _ (same_new hp _) upd_same
 ·have hlt:¬b < 0:=fun z=>c (decide_eq_true z)
  have e:Mq.dvr t b=Mq.gc t b:=by unfold Mq.dvr;rw[if_neg hlt]
  rw[e] at hd hdB
  have q':NewF H Q (t.fdiv (Mq.gc t b),b.fdiv (Mq.gc t b)):=by
   have z:=q
   unfold Mq.red at z
   rw[e] at z
   exact z
  refine⟨_,rfl,_,rfl,?_⟩
  refine rd_fdivB hd hdB hn ⟨_,rfl,_,rfl,rd_fdivB hd hdB hn ⟨by show 2≤sizeLine;decide,fun p hp=>?_⟩⟩
  exact q' p _ (same_new hp _) upd_same
abbrev sMinus:Stmt:=top 18
theorem scMinus:FnScope ["one","other"] ["one","other"] (defScope sMinus):=⟨rfl,rfl,rfl,by decide +kernel,rfl,by decide +kernel,by decide +kernel⟩
theorem ok_minus {dV:Value}(F:FunD K "minus" "minus" sMinus dV f fd)(G1:FnOk P w K mg base CX0 2 g1 gd1 ["top","bottom"] spFrac)(b1:Binds K gd1 ["top","bottom"] [])(k1:PySem.W.keepIn K (.ref g1)=true)(m1:mg "fraction"=some (.ref g1)) :
  FnOk P w K mg base CX 3 f fd ["one","other"] (spTwo K Mq.minus):=by
 refine F.ok scMinus (fun vs H Q E h=>?_) (fun cdv A outer s H vs Q E hr h=>?_)
 ·obtain⟨a,b,p,q,n,m,rfl,_⟩:=h
  rfl
 obtain⟨a,b,p,q,n,m,rfl,ha,hb,lp,lq,bp,bq,hn,z⟩:=h
 refine⟨_,pss_one (ps_ret (pe_call G1 hr rfl m1 k1 b1 .nil pass0 (pa_cons
  (pe_op op_sub (pe_op op_mulB (pe_ix ix_tup (pv 0) pe_int (fun _ _=>rfl)) (pe_ix ix_tup (pv 1) pe_int (fun _ _=>rfl))) (pe_op op_mulB (pe_ix ix_tup (pv 1) pe_int (fun _ _=>rfl)) (pe_ix ix_tup (pv 0) pe_int (fun _ _=>rfl))))
  (pa_cons (pe_op op_mulB (pe_ix ix_tup (pv 0) pe_int (fun _ _=>rfl)) (pe_ix ix_tup (pv 1) pe_int (fun _ _=>rfl))) pa_nil)))),?_⟩
 refine rd_ix0 rfl ha (rd_ix1 rfl hb (rd_mulB bp.a bq.b (by omega) (by omega) (rd_ix0 rfl hb (rd_ix1 rfl ha (rd_mulB bq.a bp.b (by omega) (by omega) ⟨_,_,rfl,rfl,?_⟩)))))
 refine rd_ix1 rfl ha (rd_ix1 rfl hb (rd_mulB bp.b bq.b (by omega) (by omega) ⟨_,_,n+m,rfl,Mq.mul_ne lp lq,bp.b.mul bq.b,by omega,z⟩))
abbrev sPlus:Stmt:=top 17
theorem scPlus:FnScope ["one","other"] ["one","other"] (defScope sPlus):=⟨rfl,rfl,rfl,by decide +kernel,rfl,by decide +kernel,by decide +kernel⟩
theorem ok_plus {dV:Value}(F:FunD K "plus" "plus" sPlus dV f fd)(G1:FnOk P w K mg base CX0 2 g1 gd1 ["top","bottom"] spFrac)(b1:Binds K gd1 ["top","bottom"] [])(k1:PySem.W.keepIn K (.ref g1)=true)(m1:mg "fraction"=some (.ref g1)) :
  FnOk P w K mg base CX 3 f fd ["one","other"] (spTwo K Mq.plus):=by
 refine F.ok scPlus (fun vs H Q E h=>?_) (fun cdv A outer s H vs Q E hr h=>?_)
 ·obtain⟨a,b,p,q,n,m,rfl,_⟩:=h
  rfl
 obtain⟨a,b,p,q,n,m,rfl,ha,hb,lp,lq,bp,bq,hn,z⟩:=h
 refine⟨_,pss_one (ps_ret (pe_call G1 hr rfl m1 k1 b1 .nil pass0 (pa_cons
  (pe_op op_add (pe_op op_mulB (pe_ix ix_tup (pv 0) pe_int (fun _ _=>rfl)) (pe_ix ix_tup (pv 1) pe_int (fun _ _=>rfl))) (pe_op op_mulB (pe_ix ix_tup (pv 1) pe_int (fun _ _=>rfl)) (pe_ix ix_tup (pv 0) pe_int (fun _ _=>rfl))))
  (pa_cons (pe_op op_mulB (pe_ix ix_tup (pv 0) pe_int (fun _ _=>rfl)) (pe_ix ix_tup (pv 1) pe_int (fun _ _=>rfl))) pa_nil)))),?_⟩
 refine rd_ix0 rfl ha (rd_ix1 rfl hb (rd_mulB bp.a bq.b (by omega) (by omega) (rd_ix0 rfl hb (rd_ix1 rfl ha (rd_mulB bq.a bp.b (by omega) (by omega) ⟨_,_,rfl,rfl,?_⟩)))))
 refine rd_ix1 rfl ha (rd_ix1 rfl hb (rd_mulB bp.b bq.b (by omega) (by omega) ⟨_,_,n+m,rfl,Mq.mul_ne lp lq,bp.b.mul bq.b,by omega,z⟩))
variable {CR:Addr} {CK:Kd→Addr} {fW fJ fT fS:Kd→Addr} {fdW fdJ fdT fdS:Kd→FuncData}
abbrev sRInit:Stmt:=inClass (top 26) 0
theorem scRInit:FnScope ["self","start","goal","size"] ["self","start","goal","size"] (defScope sRInit):=⟨rfl,rfl,rfl,by decide +kernel,rfl,by decide +kernel,by decide +kernel⟩
theorem ok_rinit {dV:Value}(F:FunD K "__init__" "Row.__init__" sRInit dV f fd)(T:RT K mg CR CK):FnOk P w K mg base CX 1 f fd ["self","start","goal","size"] (spRInit CK):=by
 refine F.ok scRInit (fun vs H Q E h=>?_) (fun cdv A outer s H vs Q E hr h=>?_)
 ·obtain⟨x,dx,k,s,g,z,rfl,_⟩:=h
  rfl
 obtain⟨x,dx,k,s,g,z,rfl,hx,q⟩:=h
 refine⟨_,(pss_cons (ps_fld (pv 0) (pv 1) rfl) (pss_cons (ps_fld (pv 0) (pv 2) rfl) (pss_one (ps_fld (pv 0) (pv 3) rfl)))),?_⟩
 have l1:=length_putF ("start":Str) s []
 have l2:=length_putF ("goal":Str) g (putF "start" s [])
 simp only[List.length_nil] at l1
 refine⟨_,rfl,_,rfl,x,CK k,dx,[],rfl,hx,T.cl k,T.nS k,(by show 0 < 1000;decide),?_⟩
 refine⟨_,rfl,_,rfl,x,CK k,dx,_,rfl,upd_same,T.cl k,T.nG k,by omega,?_⟩
 refine⟨_,rfl,_,rfl,x,CK k,dx,_,rfl,upd_same,T.cl k,T.nZ k,by omega,?_⟩
 rw[upd_upd,upd_upd]
 exact q
abbrev sWord_pc:Stmt:=inClass (top 27) 0
theorem scWord_pc:FnScope ["self"] ["self"] (defScope sWord_pc):=⟨rfl,rfl,rfl,by decide +kernel,rfl,by decide +kernel,by decide +kernel⟩
theorem ok_word_pc {dV:Value}(F:FunD K "word" "Piece.word" sWord_pc dV f fd):FnOk P w K mg base CX 1 f fd ["self"] (spWord .pc):=by
 refine F.ok scWord_pc (fun vs H Q E h=>?_) (fun cdv A outer s H vs Q E hr h=>?_)
 ·obtain⟨x,rfl,_⟩:=h
  rfl
 obtain⟨x,rfl,q⟩:=h
 exact⟨_,(pss_one (ps_ret pe_str)),q⟩
abbrev sWord_pu:Stmt:=inClass (top 28) 0
theorem scWord_pu:FnScope ["self"] ["self"] (defScope sWord_pu):=⟨rfl,rfl,rfl,by decide +kernel,rfl,by decide +kernel,by decide +kernel⟩
theorem ok_word_pu {dV:Value}(F:FunD K "word" "Push.word" sWord_pu dV f fd):FnOk P w K mg base CX 1 f fd ["self"] (spWord .pu):=by
 refine F.ok scWord_pu (fun vs H Q E h=>?_) (fun cdv A outer s H vs Q E hr h=>?_)
 ·obtain⟨x,rfl,_⟩:=h
  rfl
 obtain⟨x,rfl,q⟩:=h
 exact⟨_,(pss_one (ps_ret pe_str)),q⟩
abbrev sWord_ho:Stmt:=inClass (top 29) 0
theorem scWord_ho:FnScope ["self"] ["self"] (defScope sWord_ho):=⟨rfl,rfl,rfl,by decide +kernel,rfl,by decide +kernel,by decide +kernel⟩
theorem ok_word_ho {dV:Value}(F:FunD K "word" "Hold.word" sWord_ho dV f fd):FnOk P w K mg base CX 1 f fd ["self"] (spWord .ho):=by
 refine F.ok scWord_ho (fun vs H Q E h=>?_) (fun cdv A outer s H vs Q E hr h=>?_)
 ·obtain⟨x,rfl,_⟩:=h
  rfl
 obtain⟨x,rfl,q⟩:=h
 exact⟨_,(pss_one (ps_ret pe_str)),q⟩
abbrev sRTold:Stmt:=inClass (top 26) 1
theorem scRTold:FnScope ["self"] ["self"] (defScope sRTold):=⟨rfl,rfl,rfl,by decide +kernel,rfl,by decide +kernel,by decide +kernel⟩
theorem ok_rtold {dV:Value}(F:FunD K "told" "Row.told" sRTold dV f fd)(T:RT K mg CR CK)(GW:∀k,FnOk P w K mg base CX0 1 (fW k) (fdW k) ["self"] (spWord k))(bW:∀k,Binds K (fdW k) ["self"] [])(mW:∀k,Meth K (CK k) "word" (fW k)):FnOk P w K mg base CX 2 f fd ["self"] (spRTold CK):=by
 refine F.ok scRTold (fun vs H Q E h=>?_) (fun cdv A outer s H vs Q E hr h=>?_)
 ·obtain⟨x,k,s,g,z,rfl,_⟩:=h
  rfl
 obtain⟨x,k,s,g,z,rfl,⟨dx,hx⟩,q⟩:=h
 refine⟨_,(pss_one (ps_ret (pe_tup (pa_cons (pe_methD0 (pv 0) T.cl mW GW hr bW .nil pass0) (pa_cons (pe_fld (pv 0) rfl) (pa_cons (pe_fld (pv 0) rfl) (pa_cons (pe_fld (pv 0) rfl) pa_nil))))))),?_⟩
 refine⟨_,rfl,k,x,dx,_,rfl,hx,(rflds_no _ _ _ (by decide +kernel) (by decide +kernel) (by decide +kernel)),_,rfl,?_⟩
 refine⟨_,rfl,x,CK k,dx,_,_,rfl,hx,T.cl k,T.nS k,rflds_start _ _ _,?_⟩
 refine⟨_,rfl,x,CK k,dx,_,_,rfl,hx,T.cl k,T.nG k,rflds_goal _ _ _,?_⟩
 refine⟨_,rfl,x,CK k,dx,_,_,rfl,hx,T.cl k,T.nZ k,rflds_size _ _ _,?_⟩
 exact⟨by show 4≤sizeLine;decide,q⟩
abbrev sRowOf:Stmt:=top 30
theorem scRowOf:FnScope ["told","word"] ["told"] (defScope sRowOf):=⟨rfl,rfl,rfl,by decide +kernel,rfl,by decide +kernel,by decide +kernel⟩
theorem ok_rowof {dV:Value}{gI:Addr}{gdI:FuncData}(F:FunD K "row_of" "row_of" sRowOf dV f fd)(T:RT K mg CR CK)(b:Bl mg)(ms:mg "str"=none)(GI:FnOk P w K mg base CX0 1 gI gdI ["self","start","goal","size"] (spRInit CK))(bI:Binds K gdI ["self","start","goal","size"] [])(MK:∀k,Mk K (CK k) gI):FnOk P w K mg base CX 3 f fd ["told"] (spRowOfG K CK):=by
 refine F.ok scRowOf (fun vs H Q E h=>?_) (fun cdv A outer s H vs Q E hr h=>?_)
 ·obtain⟨t,v,s,g,z,rfl,_⟩:=h
  rfl
 obtain⟨t,v,s,g,z,rfl,hT,k,rfl,q⟩:=h
 refine⟨_,(pss_cons (ps_set (i:=1) scRowOf.nd rfl (Or.inl rfl) (pe_ix ix_tup (pv 0) pe_int (fun _ _=>rfl)))
  (pss_cons (ps_if (PW.pt (pw_and (pt_val (pe_isiQ (i:=1) rfl (Or.inl rfl) b.isi ms rfl rfl PyProof.Rows.boot_str)) (pw_and1 (pt_cmpR op_eq (pv 1) pe_str (nomark _))))) (pss_one (ps_ret (pe_make (MK .pc) GI hr rfl (T.mK .pc) bI .nil pass0 (pa_cons (pe_ix ix_tup (pv 0) pe_int (fun _ _=>rfl)) (pa_cons (pe_ix ix_tup (pv 0) pe_int (fun _ _=>rfl)) (pa_cons (pe_ix ix_tup (pv 0) pe_int (fun _ _=>rfl)) pa_nil)))))) pss_nil)
  (pss_cons (ps_if (PW.pt (pw_and (pt_val (pe_isiQ (i:=1) rfl (Or.inl rfl) b.isi ms rfl rfl PyProof.Rows.boot_str)) (pw_and1 (pt_cmpR op_eq (pv 1) pe_str (nomark _))))) (pss_one (ps_ret (pe_make (MK .pu) GI hr rfl (T.mK .pu) bI .nil pass0 (pa_cons (pe_ix ix_tup (pv 0) pe_int (fun _ _=>rfl)) (pa_cons (pe_ix ix_tup (pv 0) pe_int (fun _ _=>rfl)) (pa_cons (pe_ix ix_tup (pv 0) pe_int (fun _ _=>rfl)) pa_nil)))))) pss_nil)
  (pss_cons (ps_if (PW.pt (pw_and (pt_val (pe_isiQ (i:=1) rfl (Or.inl rfl) b.isi ms rfl rfl PyProof.Rows.boot_str)) (pw_and1 (pt_cmpR op_eq (pv 1) pe_str (nomark _))))) (pss_one (ps_ret (pe_make (MK .ho) GI hr rfl (T.mK .ho) bI .nil pass0 (pa_cons (pe_ix ix_tup (pv 0) pe_int (fun _ _=>rfl)) (pa_cons (pe_ix ix_tup (pv 0) pe_int (fun _ _=>rfl)) (pa_cons (pe_ix ix_tup (pv 0) pe_int (fun _ _=>rfl)) pa_nil)))))) pss_nil)
  (pss_one ps_never))))),?_⟩
 cases k
 ·refine cut2 (fun _ _=>False) (fun X _=>?_) (fun _ _ h=>h.elim)
  refine⟨_,rfl,t,_,0,_,rfl,rfl,hT,rfl,?_⟩
  exact⟨_,_,true,rfl,.of (.str _),rfl,_,rfl,iteT ⟨_,rfl,rfl,_,rfl,ifT (dec_wd .pc .pc) ⟨_,rfl,t,_,1,s,rfl,rfl,hT,rfl,_,rfl,t,_,2,g,rfl,rfl,hT,rfl,_,rfl,t,_,3,z,rfl,rfl,hT,rfl,fun x dx h1 h2 ne=>⟨x,dx,.pc,s,g,z,rfl,upd_same,rfl,by rw[upd_upd];exact q x _ (Rw.new h1 h2 ne) h1 ⟨dx,upd_same⟩⟩⟩⟩⟩
 ·refine cut3 (fun _ _=>False) (fun X _=>?_) (fun _ _ h=>h.elim)
  refine⟨_,rfl,t,_,0,_,rfl,rfl,hT,rfl,?_⟩
  exact⟨_,_,true,rfl,.of (.str _),rfl,_,rfl,iteT ⟨_,rfl,rfl,_,rfl,ifF (dec_wd .pu .pc) (⟨_,_,true,rfl,.of (.str _),rfl,_,rfl,iteT ⟨_,rfl,rfl,_,rfl,ifT (dec_wd .pu .pu) ⟨_,rfl,t,_,1,s,rfl,rfl,hT,rfl,_,rfl,t,_,2,g,rfl,rfl,hT,rfl,_,rfl,t,_,3,z,rfl,rfl,hT,rfl,fun x dx h1 h2 ne=>⟨x,dx,.pu,s,g,z,rfl,upd_same,rfl,by rw[upd_upd];exact q x _ (Rw.new h1 h2 ne) h1 ⟨dx,upd_same⟩⟩⟩⟩⟩)⟩⟩
 ·refine cut4 (fun _ _=>False) (fun X _=>?_) (fun _ _ h=>h.elim)
  refine⟨_,rfl,t,_,0,_,rfl,rfl,hT,rfl,?_⟩
  exact⟨_,_,true,rfl,.of (.str _),rfl,_,rfl,iteT ⟨_,rfl,rfl,_,rfl,ifF (dec_wd .ho .pc) (⟨_,_,true,rfl,.of (.str _),rfl,_,rfl,iteT ⟨_,rfl,rfl,_,rfl,ifF (dec_wd .ho .pu) (⟨_,_,true,rfl,.of (.str _),rfl,_,rfl,iteT ⟨_,rfl,rfl,_,rfl,ifT (dec_wd .ho .ho) ⟨_,rfl,t,_,1,s,rfl,rfl,hT,rfl,_,rfl,t,_,2,g,rfl,rfl,hT,rfl,_,rfl,t,_,3,z,rfl,rfl,hT,rfl,fun x dx h1 h2 ne=>⟨x,dx,.ho,s,g,z,rfl,upd_same,rfl,by rw[upd_upd];exact q x _ (Rw.new h1 h2 ne) h1 ⟨dx,upd_same⟩⟩⟩⟩⟩)⟩⟩)⟩⟩
abbrev sIsF:Stmt:=top 14
theorem scIsF:FnScope ["thing"] ["thing"] (defScope sIsF):=⟨rfl,rfl,rfl,by decide +kernel,rfl,by decide +kernel,by decide +kernel⟩
theorem ok_isf {dV:Value}(F:FunD K "is_fraction" "is_fraction" sIsF dV f fd)(b:Bl mg)(ml:mg "len"=none)(mt:mg "tuple"=none)(G1:FnOk P w K mg base CX0 1 g1 gd1 ["thing"] (spWhole K))(b1:Binds K gd1 ["thing"] [])(k1:PySem.W.keepIn K (.ref g1)=true)(m1:mg "is_whole"=some (.ref g1))(G2:FnOk P w K mg base CX0 1 g2 gd2 ["one","other"] spGc)(b2:Binds K gd2 ["one","other"] [])(k2:PySem.W.keepIn K (.ref g2)=true)(m2:mg "greatest_common"=some (.ref g2)) :
  FnOk P w K mg base CX 2 f fd ["thing"] (spIsFV K):=by
 refine F.ok scIsF (fun vs H Q E h=>?_) (fun cdv A outer s H vs Q E hr h=>?_)
 ·obtain⟨v,o,rfl,hz,q⟩:=h
  rfl
 obtain⟨v,o,rfl,hz,q⟩:=h
 refine⟨_,(pss_cons (ps_if (PW.pt (pw_or (pt_not (pt_val (pe_isiQ (i:=0) rfl (Or.inl rfl) b.isi mt rfl rfl PyProof.Rows.boot_tuple))) (pw_or1 (pt_cmpR op_ne (pe_callB call_len_seq rfl ml PySem.boot_len (pa_cons (pv 0) pa_nil)) pe_int (nomark _))))) (pss_one (ps_ret pe_bl)) pss_nil)
  (pss_cons (ps_if (PW.pt (pw_or (pt_not (pt_val (pe_call G1 hr rfl m1 k1 b1 .nil pass0 (pa_cons (pe_ix ix_tup (pv 0) pe_int (fun _ _=>rfl)) pa_nil)))) (pw_or1 (pt_not (pt_val (pe_call G1 hr rfl m1 k1 b1 .nil pass0 (pa_cons (pe_ix ix_tup (pv 0) pe_int (fun _ _=>rfl)) pa_nil))))))) (pss_one (ps_ret pe_bl)) pss_nil)
  (pss_one (ps_ret (pe_and (pe_cmpR op_ge (pe_ix ix_tup (pv 0) pe_int (fun _ _=>rfl)) pe_int (nomark _)) (pe_one (pe_cmpR op_eq (pe_call G2 hr rfl m2 k2 b2 .nil pass0 (pa_cons (pe_ix ix_tup (pv 0) pe_int (fun _ _=>rfl)) (pa_cons (pe_ix ix_tup (pv 0) pe_int (fun _ _=>rfl)) pa_nil))) pe_int (nomark _)))))))),?_⟩
 cases hz with
 |fr fa hp=>
  refine⟨_,_,true,rfl,.tup fa,rfl,_,rfl,iteF ⟨_,rfl,_,_,rfl,.inr fa,rfl,_,rfl,iteF ?_⟩⟩
  refine rd_ix0 rfl fa ⟨_,rfl,.inl ⟨_,rfl,_,rfl,iteF (rd_ix1 rfl fa ⟨_,rfl,.inl ⟨_,rfl,_,rfl,iteF ?_⟩⟩)⟩⟩
  have h1:=hp.pos
  refine rd_ix1 rfl fa ⟨_,_,rfl,rfl,_,rfl,ifT (decide_eq_true (by omega)) (rd_ix0 rfl fa (rd_ix1 rfl fa ⟨_,_,rfl,rfl,?_⟩))⟩
  rw[hp.one]
  exact q
 |ty h n=>exact⟨_,_,false,rfl,h,n,_,rfl,iteT q⟩
 |len h=>exact⟨_,_,true,rfl,.tup h,rfl,_,rfl,iteF ⟨_,rfl,_,_,rfl,.inr h,rfl,_,rfl,iteT q⟩⟩
 |n0 h ty n=>
  refine⟨_,_,true,rfl,.tup h,rfl,_,rfl,iteF ⟨_,rfl,_,_,rfl,.inr h,rfl,_,rfl,iteF ?_⟩⟩
  exact⟨_,rfl,_,_,0,_,rfl,rfl,h,rfl,_,rfl,.inr ⟨_,ty,n,_,rfl,iteT q⟩⟩
 |n1 h ty n=>
  refine⟨_,_,true,rfl,.tup h,rfl,_,rfl,iteF ⟨_,rfl,_,_,rfl,.inr h,rfl,_,rfl,iteF ?_⟩⟩
  exact⟨_,rfl,_,_,0,_,rfl,rfl,h,rfl,_,rfl,.inl ⟨_,rfl,_,rfl,iteF ⟨_,rfl,_,_,1,_,rfl,rfl,h,rfl,_,rfl,.inr ⟨_,ty,n,_,rfl,iteT q⟩⟩⟩⟩
 |fb fa c=>
  refine⟨_,_,true,rfl,.tup fa,rfl,_,rfl,iteF ⟨_,rfl,_,_,rfl,.inr fa,rfl,_,rfl,iteF ?_⟩⟩
  refine rd_ix0 rfl fa ⟨_,rfl,.inl ⟨_,rfl,_,rfl,iteF (rd_ix1 rfl fa ⟨_,rfl,.inl ⟨_,rfl,_,rfl,iteF ?_⟩⟩)⟩⟩
  rcases c with c | ⟨c,d⟩
  ·exact rd_ix1 rfl fa ⟨_,_,rfl,rfl,_,rfl,ifF (decide_eq_false (by omega)) q⟩
  ·refine rd_ix1 rfl fa ⟨_,_,rfl,rfl,_,rfl,ifT (decide_eq_true c) (rd_ix0 rfl fa (rd_ix1 rfl fa ⟨_,_,rfl,rfl,?_⟩))⟩
   rw[decide_eq_false (fun e=>d (by injection e))]
   exact q
abbrev sPS:Stmt:=top 31
theorem scPS:FnScope ["thing"] ["thing"] (defScope sPS):=⟨rfl,rfl,rfl,by decide +kernel,rfl,by decide +kernel,by decide +kernel⟩
theorem ok_ps {dV:Value}(F:FunD K "is_piece_size" "is_piece_size" sPS dV f fd){aN:Addr}(fN:∀H,Fq K H aN (0,1))(mNO:mg "NOUGHT"=some (.ref aN))(G1:FnOk P w K mg base CX0 2 g1 gd1 ["thing"] (spIsF K))(b1:Binds K gd1 ["thing"] [])(k1:PySem.W.keepIn K (.ref g1)=true)(m1:mg "is_fraction"=some (.ref g1))(G2:FnOk P w K mg base CX0 1 g2 gd2 ["one","other"] (spUnder K))(b2:Binds K gd2 ["one","other"] [])(k2:PySem.W.keepIn K (.ref g2)=true)(m2:mg "under"=some (.ref g2)) :
  FnOk P w K mg base CX 3 f fd ["thing"] (spPS K):=by
 refine F.ok scPS (fun vs H Q E h=>?_) (fun cdv A outer s H vs Q E hr h=>?_)
 ·obtain⟨a,p,n,rfl,fa,hp,h0,hb,hn,q⟩:=h
  rfl
 obtain⟨a,p,n,rfl,fa,hp,h0,hb,hn,q⟩:=h
 have r1:=hr.mono (show 1≤2 by omega)
 refine⟨_,(pss_one (ps_ret (pe_and (pe_call G1 hr rfl m1 k1 b1 .nil pass0 (pa_cons (pv 0) pa_nil)) (pe_one (pe_call G2 r1 rfl m2 k2 b2 .nil pass0 (pa_cons (pe_glob (v:=.ref aN) rfl mNO rfl) (pa_cons (pv 0) pa_nil))))))),?_⟩
 refine⟨_,rfl,a,p,rfl,fa,hp,_,rfl,iteT ⟨_,rfl,aN,a,_,p,1,n,rfl,fN _,fa,⟨show (0:Nat) < 2 ^ 1 by decide,show (1:Nat) < 2 ^ 1 by decide⟩,hb,by omega,?_⟩⟩
 rw[decide_eq_true (show (0:Int)*p.2 < p.1*1 by omega)]
 exact q
abbrev sNB:Stmt:=top 36
theorem scNB:FnScope ["thing","bound"] ["thing","bound"] (defScope sNB):=⟨rfl,rfl,rfl,by decide +kernel,rfl,by decide +kernel,by decide +kernel⟩
theorem ok_nb {dV:Value}(F:FunD K "is_number_below" "is_number_below" sNB dV f fd)(G1:FnOk P w K mg base CX0 1 g1 gd1 ["thing"] (spWhole K))(b1:Binds K gd1 ["thing"] [])(k1:PySem.W.keepIn K (.ref g1)=true)(m1:mg "is_whole"=some (.ref g1)) :
  FnOk P w K mg base CX 2 f fd ["thing","bound"] spNB:=by
 refine F.ok scNB (fun vs H Q E h=>?_) (fun cdv A outer s H vs Q E hr h=>?_)
 ·obtain⟨i,b',rfl,h0,h1,q⟩:=h
  rfl
 obtain⟨i,b',rfl,h0,h1,q⟩:=h
 refine⟨_,(pss_one (ps_ret (pe_and (pe_call G1 hr rfl m1 k1 b1 .nil pass0 (pa_cons (pv 0) pa_nil)) (pe_and (pe_cmpR op_ge (pv 0) pe_int (nomark _)) (pe_one (pe_cmpR op_lt (pv 0) (pv 1) (nomark _))))))),?_⟩
 refine⟨_,rfl,_,rfl,.inl ⟨i,rfl,_,rfl,iteT ⟨_,rfl,_,_,rfl,rfl,_,rfl,ifT (decide_eq_true h0) ⟨_,rfl,_,rfl,_,_,rfl,rfl,?_⟩⟩⟩⟩
 show Q (.bl (decide (i < b'))) H
 rw[decide_eq_true h1]
 exact q
abbrev sRS:Stmt:=top 38
theorem scRS:FnScope ["word","size"] ["word","size"] (defScope sRS):=⟨rfl,rfl,rfl,by decide +kernel,rfl,by decide +kernel,by decide +kernel⟩
theorem ok_rs {dV:Value}(F:FunD K "refuse_size" "refuse_size" sRS dV f fd)(G1:FnOk P w K mg base CX0 2 g1 gd1 ["thing"] (spIsF K))(b1:Binds K gd1 ["thing"] [])(k1:PySem.W.keepIn K (.ref g1)=true)(m1:mg "is_fraction"=some (.ref g1))(G2:FnOk P w K mg base CX0 3 g2 gd2 ["thing"] (spPS K))(b2:Binds K gd2 ["thing"] [])(k2:PySem.W.keepIn K (.ref g2)=true)(m2:mg "is_piece_size"=some (.ref g2)) :
  FnOk P w K mg base CX 4 f fd ["word","size"] (spRS K):=by
 refine F.ok scRS (fun vs H Q E h=>?_) (fun cdv A outer s H vs Q E hr h=>?_)
 ·obtain⟨k,z,p,rfl,fz,hp,h0,hb,q⟩:=h
  rfl
 obtain⟨k,z,p,rfl,fz,hp,h0,hb,q⟩:=h
 have r2:=hr.mono (show 2≤3 by omega)
 refine⟨_,(pss_cons (ps_if (pt_not (pt_val (pe_call G1 r2 rfl m1 k1 b1 .nil pass0 (pa_cons (pv 1) pa_nil)))) (pss_one ps_never) pss_nil)
  (pss_one (ps_if (PW.pt (pw_and (pt_cmpR op_eq (pv 0) pe_str (nomark _)) (pw_and1 (pt_not (pt_val (pe_call G2 hr rfl m2 k2 b2 .nil pass0 (pa_cons (pv 1) pa_nil))))))) (pss_one ps_never) pss_nil))),?_⟩
 refine⟨_,rfl,z,p,rfl,fz,hp,_,rfl,iteF ?_⟩
 cases k
 ·exact⟨_,rfl,rfl,_,rfl,ifT (dec_wd .pc .pc) ⟨_,rfl,z,p,100,rfl,fz,hp,h0 rfl,hb,by omega,_,rfl,iteF q⟩⟩
 ·exact⟨_,rfl,rfl,_,rfl,ifF (dec_wd .pu .pc) (iteF q)⟩
 ·exact⟨_,rfl,rfl,_,rfl,ifF (dec_wd .ho .pc) (iteF q)⟩
theorem nd_point_many:(["point","many"]:List Str).Nodup:=by decide +kernel
def spRP (K:PySem.W.Frag):Sp:=fun vs H Q _=>∃(l:Addr) (i j m:Int),vs=[.ref l,.int m]∧SqL K H l [.int i,.int j]∧0≤i∧i < m∧0≤j∧j < m∧∀H',Same H H'→Q .non H'
abbrev sRP:Stmt:=top 37
theorem scRP:FnScope ["some","many"] ["some","many"] (defScope sRP):=⟨rfl,rfl,rfl,by decide +kernel,rfl,by decide +kernel,by decide +kernel⟩
abbrev sNInit:Stmt:=inClass (top 35) 0
theorem scNInit:FnScope ["self","many"] ["self","many"] (defScope sNInit):=⟨rfl,rfl,rfl,by decide +kernel,rfl,by decide +kernel,by decide +kernel⟩
theorem ok_ninit {dV:Value}{CN:Addr}(F:FunD K "__init__" "Net.__init__" sNInit dV f fd)(NTx:NT K mg CN){tM:Tok}(mMP:mg "MOST_POINTS"=some (.int 20 tM))(G1:FnOk P w K mg base CX0 1 g1 gd1 ["thing"] (spWhole K))(b1:Binds K gd1 ["thing"] [])(k1:PySem.W.keepIn K (.ref g1)=true)(m1:mg "is_whole"=some (.ref g1)):FnOk P w K mg base CX 2 f fd ["self","many"] (spNInit CN):=by
 refine F.ok scNInit (fun vs H Q E h=>?_) (fun cdv A outer s H vs Q E hr h=>?_)
 ·obtain⟨n,dx,m,rfl,hn,h1,h20,q⟩:=h
  rfl
 obtain⟨n,dx,m,rfl,hn,h1,h20,q⟩:=h
 refine⟨_,(pss_cons (ps_if (PW.pt (pw_or (pt_not (pt_val (pe_call G1 hr rfl m1 k1 b1 .nil pass0 (pa_cons (pv 1) pa_nil)))) (pw_or (pt_cmpR op_lt (pv 1) pe_int (nomark _)) (pw_or1 (pt_cmpR op_gt (pv 1) (pe_glob (v:=.int 20) rfl mMP ⟨_,rfl⟩) (nomark _)))))) (pss_one ps_never) pss_nil)
  (pss_cons (ps_fld (pv 0) (pv 1) rfl)
  (pss_one (ps_fld (pv 0) (pe_lst pa_nil) rfl)))),?_⟩
 refine⟨_,rfl,_,rfl,.inl ⟨m,rfl,_,rfl,iteF ⟨_,rfl,_,_,rfl,rfl,_,rfl,ifF (decide_eq_false (by omega)) ⟨_,rfl,_,_,rfl,rfl,_,rfl,ifF (decide_eq_false (by omega)) ?_⟩⟩⟩⟩
 refine⟨_,rfl,_,rfl,n,CN,dx,[],rfl,hn,NTx.cl,NTx.nP,(by show 0 < 1000;decide),?_⟩
 refine⟨by show 0≤sizeLine;decide,fun l hl=>?_⟩
 have nl:n≠l:=fun z=>by subst z;rw[upd_same] at hl;cases hl
 have hl0:H l=none:=by rw[upd_ne (Ne.symm nl)] at hl;exact hl
 have l1:=length_putF ("point_count":Str) (.int m) []
 simp only[List.length_nil] at l1
 refine⟨_,rfl,n,CN,dx,putF "point_count" (.int m) [],rfl,by rw[upd_ne nl];exact upd_same,NTx.cl,NTx.nK,by omega,?_⟩
 refine q l _ hl0 (fun b o e hb=>?_) upd_same (by rw[upd_ne (Ne.symm nl)];exact upd_same)
 rw[upd_ne hb,upd_ne (ne_of_none e hl0),upd_ne hb]
 exact e
abbrev sMany:Stmt:=inClass (top 35) 1
theorem scMany:FnScope ["self"] ["self"] (defScope sMany):=⟨rfl,rfl,rfl,by decide +kernel,rfl,by decide +kernel,by decide +kernel⟩
theorem ok_many {dV:Value}{CN:Addr}(F:FunD K "many" "Net.many" sMany dV f fd)(NTx:NT K mg CN):FnOk P w K mg base CX 1 f fd ["self"] (spMany CN K):=by
 refine F.ok scMany (fun vs H Q E h=>?_) (fun cdv A outer s H vs Q E hr h=>?_)
 ·obtain⟨n,l,m,ds,rfl,⟨⟨dx,hn⟩,ts,hl,hr'⟩,q⟩:=h
  rfl
 obtain⟨n,l,m,ds,rfl,⟨⟨dx,hn⟩,ts,hl,hr'⟩,q⟩:=h
 exact⟨_,(pss_one (ps_ret (pe_fld (pv 0) rfl))),_,rfl,n,CN,dx,_,_,rfl,hn,NTx.cl,NTx.nP,nflds_pc _ _,q⟩
abbrev sCount:Stmt:=inClass (top 35) 2
theorem scCount:FnScope ["self"] ["self"] (defScope sCount):=⟨rfl,rfl,rfl,by decide +kernel,rfl,by decide +kernel,by decide +kernel⟩
theorem ok_count {dV:Value}{CN:Addr}(F:FunD K "count" "Net.count" sCount dV f fd)(NTx:NT K mg CN)(ml:mg "len"=none):FnOk P w K mg base CX 1 f fd ["self"] (spCount CN K):=by
 refine F.ok scCount (fun vs H Q E h=>?_) (fun cdv A outer s H vs Q E hr h=>?_)
 ·obtain⟨n,l,m,ds,rfl,⟨⟨dx,hn⟩,ts,hl,hr'⟩,q⟩:=h
  rfl
 obtain⟨n,l,m,ds,rfl,⟨⟨dx,hn⟩,ts,hl,hr'⟩,q⟩:=h
 refine⟨_,(pss_one (ps_ret (pe_callB call_len_seq rfl ml PySem.boot_len (pa_cons (pe_fld (pv 0) rfl) pa_nil)))),_,rfl,n,CN,dx,_,_,rfl,hn,NTx.cl,NTx.nK,nflds_kept _ _,l,ts,rfl,.inl (SqL.of hl),?_⟩
 rw[hr'.length]
 exact q
abbrev sNTold:Stmt:=inClass (top 35) 6
theorem scNTold:FnScope ["self"] ["self"] (defScope sNTold):=⟨rfl,rfl,rfl,by decide +kernel,rfl,by decide +kernel,by decide +kernel⟩
theorem ok_ntold {dV:Value}{CN:Addr}(F:FunD K "told" "Net.told" sNTold dV f fd)(NTx:NT K mg CN)(mli:mg "list"=none):FnOk P w K mg base CX 1 f fd ["self"] (spNTold CN K):=by
 refine F.ok scNTold (fun vs H Q E h=>?_) (fun cdv A outer s H vs Q E hr h=>?_)
 ·obtain⟨n,l,m,ds,rfl,⟨⟨dx,hn⟩,ts,hl,hr'⟩,q⟩:=h
  rfl
 obtain⟨n,l,m,ds,rfl,⟨⟨dx,hn⟩,ts,hl,hr'⟩,q⟩:=h
 refine⟨_,(pss_one (ps_ret (pe_callTy call_list_of rfl mli PyProof.Rows.boot_list (pa_cons (pe_fld (pv 0) rfl) pa_nil)))),_,rfl,n,CN,dx,_,_,rfl,hn,NTx.cl,NTx.nK,nflds_kept _ _,l,ts,rfl,.inl (SqL.of hl),fun a ha=>?_⟩
 have sa:=same_new ha (.lst ts)
 exact q a ts _ sa ha upd_same (hr'.same sa)
def spAddF (CN:Addr)(K:PySem.W.Frag)(CK:Kd→Addr)(CT:Addr):Sp:=fun vs H Q E=>∃(n l x z:Addr) (m:Int) (ds:List RD) (k:Kd) (i j:Int) (p:Mq.Q2),vs=[.ref n,.ref x]∧NetAt CN K H n l m ds∧Rw CK H x k (.int i) (.int j) (.ref z)∧Fq K H z p∧RdOk m (k,i,j,p)∧((ds.length < 40∧∀H',SameX l H H'→NetAt CN K H' n l m (ds++[(k,i,j,p)])→Q (.int ds.length) H')∨(40≤ds.length∧∀H',Same H H'→E (.ref CT) none H'))
abbrev sAdd:Stmt:=inClass (top 35) 3
theorem scAdd:FnScope ["self","row","told"] ["self","row"] (defScope sAdd):=⟨rfl,rfl,rfl,by decide +kernel,rfl,by decide +kernel,by decide +kernel⟩
theorem ok_add {dV:Value}{CN:Addr}(F:FunD K "add" "Net.add" sAdd dV f fd)(NTx:NT K mg CN){tR:Tok}(mMR:mg "MOST_ROWS"=some (.int 40 tR))(ml:mg "len"=none){gT:Addr}{gdT:FuncData}(T:RT K mg CR CK)(GT:FnOk P w K mg base CX0 2 gT gdT ["self"] (spRTold CK))(bT:Binds K gdT ["self"] [])(mT:∀k,Meth K (CK k) "told" gT)(G1:FnOk P w K mg base CX0 3 g1 gd1 ["some","many"] (spRP K))(b1:Binds K gd1 ["some","many"] [])(k1:PySem.W.keepIn K (.ref g1)=true)(m1:mg "refuse_points"=some (.ref g1))(G2:FnOk P w K mg base CX0 4 g2 gd2 ["word","size"] (spRS K))(b2:Binds K gd2 ["word","size"] [])(k2:PySem.W.keepIn K (.ref g2)=true)(m2:mg "refuse_size"=some (.ref g2)){CT:Addr}(mN:mg "TooMany"=some (.ref CT))(xN:ExcC K CT):FnOk P w K mg base (CX1 P w) 5 f fd ["self","row"] (spAddF CN K CK CT):=by
 refine F.okX scAdd (fun vs H Q E h=>?_) (fun cdv A outer s H vs Q E hr h=>?_)
 ·obtain⟨n,l,x,z,m,ds,k,i,j,p,rfl,⟨⟨dx,hn⟩,ts,hl,hR⟩,rw,fz,⟨i0,i1,j0,j1,lp,h0,bp⟩,h⟩:=h
  rfl
 obtain⟨n,l,x,z,m,ds,k,i,j,p,rfl,⟨⟨dx,hn⟩,ts,hl,hR⟩,rw,fz,⟨i0,i1,j0,j1,lp,h0,bp⟩,h⟩:=h
 have r2:=hr.mono (show 2≤4 by omega)
 have r3:=hr.mono (show 3≤4 by omega)
 refine⟨_,(pss_cons (ps_set (i:=2) scAdd.nd rfl (Or.inl rfl) (pe_methD0 (f:=fun _=>gT) (fd:=fun _=>gdT) (sp:=fun _=>spRTold CK) (pv 1) T.cl mT (fun _=>GT) r2 (fun _=>bT) .nil pass0))
  (pss_cons (ps_expr (pe_call G1 r3 rfl m1 k1 b1 .nil pass0 (pa_cons (pe_lst (pa_cons (pe_ix ix_tup (pv 2) pe_int (fun _ _=>rfl)) (pa_cons (pe_ix ix_tup (pv 2) pe_int (fun _ _=>rfl)) pa_nil))) (pa_cons (pe_fld (pv 0) rfl) pa_nil))))
  (pss_cons (ps_expr (pe_call G2 hr rfl m2 k2 b2 .nil pass0 (pa_cons (pe_ix ix_tup (pv 2) pe_int (fun _ _=>rfl)) (pa_cons (pe_ix ix_tup (pv 2) pe_int (fun _ _=>rfl)) pa_nil))))
  (pss_cons (ps_if (pt_cmpR op_ge (pe_callB call_len_seq rfl ml PySem.boot_len (pa_cons (pe_fld (pv 0) rfl) pa_nil)) (pe_glob (v:=.int 40) rfl mMR ⟨_,rfl⟩) (nomark _)) (pss_one (ps_raise frm_cxOf xe_cxOf rfl rfl mN xN (pa_cons pe_str pa_nil))) pss_nil)
  (pss_cons (ps_expr (pe_bm PySem.F.plainAttrs_list PySem.F.slot_list_append PySem.F.type_list_append mt_append (pe_fld (pv 0) rfl) (pa_cons (pv 2) pa_nil)))
  (pss_one (ps_ret (pe_op op_sub (pe_callB call_len_seq rfl ml PySem.boot_len (pa_cons (pe_fld (pv 0) rfl) pa_nil)) pe_int)))))))),?_⟩
 obtain⟨dr,hx⟩:=id rw
 have len:=hR.length
 refine⟨_,rfl,k,x,dr,_,rfl,hx,(rflds_no _ _ _ (by decide +kernel) (by decide +kernel) (by decide +kernel)),x,k,_,_,_,rfl,rw,fun t ht=>?_⟩
 have st:=same_new ht (.tup [.str k.wd,.int i,.int j,.ref z])
 have et:SqT K (upd H t (.tup [.str k.wd,.int i,.int j,.ref z])) t [.str k.wd,.int i,.int j,.ref z]:=SqT.of upd_same
 generalize upd H t (.tup [.str k.wd,.int i,.int j,.ref z])=H1a at st et ⊢
 have hn1:=st _ _ hn
 have hl1:=st _ _ hl
 refine⟨_,rfl,t,_,1,_,rfl,rfl,et,rfl,_,rfl,t,_,2,_,rfl,rfl,et,rfl,by show 2≤sizeLine;decide,fun lq hlq=>?_⟩
 have sq:=same_new hlq (.lst [.int i,.int j])
 have eq:upd H1a lq (.lst [.int i,.int j]) lq=some (.lst [.int i,.int j]):=upd_same
 generalize upd H1a lq (.lst [.int i,.int j])=H1b at sq eq ⊢
 have hnb:=sq _ _ hn1
 refine⟨_,rfl,n,CN,dx,_,_,rfl,hnb,NTx.cl,NTx.nP,nflds_pc _ _,lq,i,j,m,rfl,SqL.of eq,i0,i1,j0,j1,fun H1 sc=>?_⟩
 have sqc:=sq.trans sc
 have st:=st.trans sqc
 have et:=sqc.seqT et
 have hn1:=sqc _ _ hn1
 have hl1:=sqc _ _ hl1
 refine⟨_,rfl,t,_,0,_,rfl,rfl,et,rfl,_,rfl,t,_,3,_,rfl,rfl,et,rfl,k,z,p,rfl,st.fq fz,lp,h0,bp,?_⟩
 rcases h with ⟨h40,q⟩ | ⟨h40,q⟩
 case inr=>exact⟨_,rfl,n,CN,dx,_,_,rfl,hn1,NTx.cl,NTx.nK,nflds_kept _ _,l,ts,rfl,.inl (SqL.of hl1),_,_,rfl,rfl,_,rfl,ifT (decide_eq_true (by omega)) ⟨by show 1≤sizeLine;decide,q _ st⟩⟩
 refine⟨_,rfl,n,CN,dx,_,_,rfl,hn1,NTx.cl,NTx.nK,nflds_kept _ _,l,ts,rfl,.inl (SqL.of hl1),_,_,rfl,rfl,_,rfl,ifF (decide_eq_false (by omega)) ?_⟩
 refine⟨_,rfl,n,CN,dx,_,_,rfl,hn1,NTx.cl,NTx.nK,nflds_kept _ _,.inl ⟨rfl,_,SqL.of hl1⟩,_,rfl,l,ts,.ref t,rfl,rfl,hl1,small1000 (by omega),?_⟩
 have nn:n≠l:=ne_of hn1 hl1 (fun z=>by cases z)
 have hn2:upd H1 l (.lst (ts++[.ref t])) n=some (.ins CN dx (nflds m l)):=by rw[upd_ne nn];exact hn1
 have hl2:upd H1 l (.lst (ts++[.ref t])) l=some (.lst (ts++[.ref t])):=upd_same
 refine⟨_,rfl,n,CN,dx,_,_,rfl,hn2,NTx.cl,NTx.nK,nflds_kept _ _,l,_,rfl,.inl (SqL.of hl2),_,_,rfl,rfl,?_⟩
 show Q (.int (((ts++[V.ref t]).length:Int) - 1)) _
 rw[List.length_append,List.length_singleton,len,show (((ds.length+1:Nat):Int) - 1)=(ds.length:Int) by omega]
 refine q _ (st.x.write) ⟨⟨dx,hn2⟩,_,hl2,Rts.upd hl1 ((hR.same st).app (.cons et (st.fq fz) .nil))⟩
theorem nd_told:(["told"]:List Str).Nodup:=by decide +kernel
abbrev sRows:Stmt:=inClass (top 35) 5
theorem scRows:FnScope ["self"] ["self"] (defScope sRows):=⟨rfl,rfl,rfl,by decide +kernel,rfl,by decide +kernel,by decide +kernel⟩
theorem ok_rows {dV:Value}{CN:Addr}(F:FunD K "rows" "Net.rows" sRows dV f fd)(NTx:NT K mg CN)(G1:FnOk P w K mg base CX0 3 g1 gd1 ["told"] (spRowOfG K CK))(b1:Binds K gd1 ["told"] [])(k1:PySem.W.keepIn K (.ref g1)=true)(m1:mg "row_of"=some (.ref g1)):FnOk P w K mg base CX 4 f fd ["self"] (spRows CN K CK):=by
 refine F.ok scRows (fun vs H Q E h=>?_) (fun cdv A outer s H vs Q E hr h=>?_)
 ·obtain⟨n,l,m,ds,rfl,⟨⟨dx,hn⟩,ts,hl,hR⟩,h100,q⟩:=h
  rfl
 obtain⟨n,l,m,ds,rfl,⟨⟨dx,hn⟩,ts,hl,hR⟩,h100,q⟩:=h
 refine⟨_,(pss_one (ps_ret (pe_comp (nl:=1) (fr:=[]) (Nc:=["told"]) (cl:=[]) rfl ⟨rfl,rfl,by decide +kernel,by decide +kernel,fun x c h=>(by cases h),has_of rfl,rfl,fun i n h=>(by simp at h)⟩
    (pi_list (pe_fld (pv 0) rfl)) (fun C s3 H3 fp pins=>(pg_name (i:=0) nd_told rfl (Or.inl rfl))) (fun C s3 H3 fp pins=>pif_nil)
    (fun C s3 H3 fp pins=>(pe_call G1 hr rfl m1 k1 b1 .nil pass0 (pa_cons (pv 0) pa_nil)))))),?_⟩
 have len:=hR.length
 refine⟨_,rfl,n,CN,dx,_,_,rfl,hn,NTx.cl,NTx.nK,nflds_kept _ _,l,rfl,⟨_,SqL.of hl⟩,fun D hD=>?_⟩
 have sD:=same_new hD (.lst [])
 refine comp_list (xs:=ts) (fun i zs H'=>Same H H'∧H' D=some (.lst zs)∧Robs CK K H' zs (ds.take i)) ⟨sD,upd_same,.nil⟩ (fun i zs H' h=>h.2.1) (fun i zs H' _ h=>h.1.seq (SqL.of hl)) ?_ ?_
 ·rintro i zs x H1 hx ⟨s1,e1,R1⟩ C hC
  have hi:i < ds.length:=by
   have:=(List.getElem?_eq_some_iff.mp hx).1
   omega
  obtain⟨⟨k,u,v,p⟩,hd⟩:∃d,ds[i]?=some d:=⟨_,List.getElem?_eq_getElem hi⟩
  obtain⟨t,z,et,ht,fz⟩:=hR.at hd
  have ex:x=.ref t:=by rw[et] at hx;exact(Option.some.inj hx).symm
  subst ex
  have lz:=R1.length
  rw[List.length_take] at lz
  refine⟨keep1.1,keep1.2,iteT ?_⟩
  refine⟨_,rfl,t,_,_,_,_,rfl,s1.seqT ht,k,rfl,fun y H2 s2 ny rw=>?_⟩
  have e2:=s2 _ _ e1
  refine⟨e2,small1000 (by omega),hC _ _ ⟨(s1.trans s2).change hD,upd_same,?_⟩⟩
  rw[List.take_add_one,hd]
  exact Robs.upd e2 ((R1.same s2).app (.cons rw ((s1.trans s2).fq fz) .nil))
 ·rintro zs H1 ⟨s1,e1,R1⟩
  rw[len,List.take_length] at R1
  exact q D zs H1 s1 hD e1 R1
theorem isf_good {g:Addr}{gd:FuncData}(F:FnOk P w K mg base CX0 2 g gd ["thing"] (spIsFV K)):FnOk P w K mg base CX0 2 g gd ["thing"] (spIsF K):=
 F.weak fun vs H Q E h=>by
  obtain⟨a,p,rfl,f,l,q⟩:=h
  exact⟨_,some p,rfl,.fr f l,q⟩
theorem pe_fldK {X:Cx}{K:PySem.W.Frag}{e:Expr}{f:Str}{pos:Pos}{ta:TE}(h:X.K=K)(he:PE X e ta)(hb:attributeBase e f X.env (eval e X.env)=eval e X.env):PE X (.Attribute e f pos) (tFld K ta f):=by subst h;exact pe_fld he hb
abbrev sOver:Stmt:=top 19
theorem scOver:FnScope ["one","other"] ["one","other"] (defScope sOver):=⟨rfl,rfl,rfl,by decide +kernel,rfl,by decide +kernel,by decide +kernel⟩
theorem ok_over {dV:Value}(F:FunD K "over" "over" sOver dV f fd)(G1:FnOk P w K mg base CX0 2 g1 gd1 ["top","bottom"] spFrac)(b1:Binds K gd1 ["top","bottom"] [])(k1:PySem.W.keepIn K (.ref g1)=true)(m1:mg "fraction"=some (.ref g1)) :
  FnOk P w K mg base CX 3 f fd ["one","other"] (spDiv1 K):=by
 refine F.ok scOver (fun vs H Q E h=>?_) (fun cdv A outer s H vs Q E hr h=>?_)
 ·obtain⟨a,b,p,q,n,m,rfl,ha,hb,lp,lq,h0,bp,bq,hn,z⟩:=h
  rfl
 obtain⟨a,b,p,q,n,m,rfl,ha,hb,lp,lq,h0,bp,bq,hn,z⟩:=h
 refine⟨_,(pss_cons (ps_if (pt_cmpR op_eq (pe_ix ix_tup (pv 1) pe_int (fun _ _=>rfl)) pe_int (nomark _)) (pss_one ps_never) pss_nil)
  (pss_one (ps_ret (pe_call G1 hr rfl m1 k1 b1 .nil pass0 (pa_cons (pe_op op_mulB (pe_ix ix_tup (pv 0) pe_int (fun _ _=>rfl)) (pe_ix ix_tup (pv 1) pe_int (fun _ _=>rfl))) (pa_cons (pe_op op_mulB (pe_ix ix_tup (pv 0) pe_int (fun _ _=>rfl)) (pe_ix ix_tup (pv 1) pe_int (fun _ _=>rfl))) pa_nil)))))),?_⟩
 refine rd_ix0 rfl hb ⟨rfl,_,rfl,?_⟩
 rw[decide_eq_false (fun e=>absurd (show q.1=0 by injection e) (by omega))]
 refine iteF ?_
 refine rd_ix0 rfl ha (rd_ix1 rfl hb (rd_mulB bp.a bq.b (by omega) (by omega) ?_))
 exact rd_ix1 rfl ha (rd_ix0 rfl hb (rd_mulB bp.b bq.a (by omega) (by omega) ⟨_,_,n+m,rfl,Mq.over_ne lp (by omega),bp.b.mul bq.a,by omega,z⟩))
end
section
variable {P:Program} {w:World} {K:PySem.W.Frag} {mg:Str→Option Value} {base:Heap} {f g1 g2 g3 g4 g5 g6 g7 g8:Addr} {fd gd1 gd2 gd3 gd4 gd5 gd6 gd7 gd8:FuncData} {CX:CXT}
variable {CR:Addr} {CK:Kd→Addr} {fW fJ fT fS:Kd→Addr} {fdW fdJ fdT fdS:Kd→FuncData}
abbrev sRaise:Stmt:=top 52
theorem scRaise:FnScope ["line","column","amount"] ["line","column","amount"] (defScope sRaise):=⟨rfl,rfl,rfl,by decide +kernel,rfl,by decide +kernel,by decide +kernel⟩
theorem ok_raise {dV:Value}(F:FunD K "raise_at" "raise_at" sRaise dV f fd)(G1:FnOk P w K mg base CX0 3 g1 gd1 ["one","other"] (spTwo K Mq.plus))(b1:Binds K gd1 ["one","other"] [])(k1:PySem.W.keepIn K (.ref g1)=true)(m1:mg "plus"=some (.ref g1)) :
  FnOk P w K mg base CX 4 f fd ["line","column","amount"] (spRaise K):=by
 refine F.ok scRaise (fun vs H Q E h=>?_) (fun cdv A outer s H vs Q E hr h=>?_)
 ·obtain⟨l,z,j,xs,ps,a,n,m,rfl,hl,hF,hj,p1,bp,fz,a1,ba,hn,q⟩:=h
  rfl
 obtain⟨l,z,j,xs,ps,a,n,m,rfl,hl,hF,hj,p1,bp,fz,a1,ba,hn,q⟩:=h
 refine⟨_,(pss_one (ps_asg (pe_call G1 hr rfl m1 k1 b1 .nil pass0 (pa_cons (pe_ix ix_list (pv 0) (pv 1) (fun _ _=>rfl)) (pa_cons (pv 2) pa_nil))) (pg_sub (pv 0) (pv 1) set_list))),?_⟩
 have lx:=hF.length
 obtain⟨u,eu,fu⟩:=hF.at (getQ2 hj)
 refine⟨_,rfl,_,rfl,l,xs,_,_,rfl,rfl,SqL.of hl,atI_nat eu,_,rfl,u,z,_,a,n,m,rfl,fu,fz,p1,a1,bp,ba,hn,fun v H1 s1 e1=>?_⟩
 exact⟨_,rfl,_,rfl,l,xs,_,j,rfl,rfl,s1 _ _ hl,ixN_nat (by omega),q v H1 s1 (Fq.of e1)⟩
abbrev sEnter:Stmt:=top 51
theorem scEnter:FnScope ["matrix","row","column","amount"] ["matrix","row","column","amount"] (defScope sEnter):=⟨rfl,rfl,rfl,by decide +kernel,rfl,by decide +kernel,by decide +kernel⟩
theorem ok_enter {dV:Value}(F:FunD K "enter_stream" "enter_stream" sEnter dV f fd)(T:RT K mg CR CK){aN:Addr}(fN:∀H,Fq K H aN (0,1))(mNO:mg "NOUGHT"=some (.ref aN))(G1:FnOk P w K mg base CX0 4 g1 gd1 ["line","column","amount"] (spRaise K))(b1:Binds K gd1 ["line","column","amount"] [])(k1:PySem.W.keepIn K (.ref g1)=true)(m1:mg "raise_at"=some (.ref g1))(G2:FnOk P w K mg base CX0 3 g2 gd2 ["one","other"] (spTwo K Mq.minus))(b2:Binds K gd2 ["one","other"] [])(k2:PySem.W.keepIn K (.ref g2)=true)(m2:mg "minus"=some (.ref g2)) :
  FnOk P w K mg base CX 5 f fd ["matrix","row","column","amount"] (spEnter K CK):=by
 refine F.ok scEnter (fun vs H Q E h=>?_) (fun cdv A outer s H vs Q E hr h=>?_)
 ·obtain⟨D,x,z,zz,as,M,⟨k0,u,v,p⟩,w,n,k,c,a,rfl,mx,mb,rw,pt,hc,fz,la,ba,hn,q⟩:=h
  rfl
 obtain⟨D,x,z,zz,as,M,⟨k0,u,v,p⟩,w,n,k,c,a,rfl,mx,mb,rw,pt,hc,fz,la,ba,hn,q⟩:=h
 have r3:=hr.mono (show 3≤4 by omega)
 refine⟨_,(pss_cons (ps_expr (pe_call G1 hr rfl m1 k1 b1 .nil pass0 (pa_cons (pe_ix ix_list (pv 0) (pe_fld (pv 1) rfl) (fun _ _=>rfl)) (pa_cons (pv 2) (pa_cons (pv 3) pa_nil)))))
  (pss_one (ps_expr (pe_call G1 hr rfl m1 k1 b1 .nil pass0 (pa_cons (pe_ix ix_list (pv 0) (pe_fld (pv 1) rfl) (fun _ _=>rfl)) (pa_cons (pv 2) (pa_cons (pe_call G2 r3 rfl m2 k2 b2 .nil pass0 (pa_cons (pe_glob (v:=.ref aN) rfl mNO rfl) (pa_cons (pv 3) pa_nil))) pa_nil))))))),?_⟩
 obtain⟨i0,i1,j0,j1⟩:PtOk (w:Int) u v:=pt
 obtain⟨uN,rfl⟩:∃uN:Nat,u=(uN:Int):=⟨u.toNat,by omega⟩
 obtain⟨vN,rfl⟩:∃vN:Nat,v=(vN:Int):=⟨v.toNat,by omega⟩
 have hu':uN < w:=by omega
 have hv':vN < w:=by omega
 obtain⟨ln,bn,_⟩:=neg_ok la ba
 obtain⟨dx,hx⟩:=id rw
 obtain⟨e1,m1,w1⟩:=mb.row hu'
 obtain⟨e2,l2,b2⟩:=mb.at hu' hc
 have lam:=mx.la
 obtain⟨a1,ha1⟩:∃a1,as[uN]?=some a1:=⟨_,List.getElem?_eq_getElem (by rw[lam,mb.h];exact hu')⟩
 obtain⟨xs,hxs,hF⟩:=mx.r uN a1 _ ha1 e1
 have at1:atI (as.map V.ref) (uN:Int)=some (.ref a1):=atI_nat (by rw[List.getElem?_map,ha1];rfl)
 refine⟨_,rfl,_,rfl,x,CK _,_,_,_,rfl,hx,T.cl _,T.nS _,rflds_start _ _ _,D,_,_,_,rfl,rfl,SqL.of mx.d,at1,_,rfl,_,rfl,a1,z,c,xs,_,a,n,k,rfl,hxs,hF,by rw[w1];exact hc,l2.pos,b2,fz,la.pos,ba,by omega,fun v1 H1 s1 f1=>?_⟩
 obtain⟨mx2,sx2⟩:=mx.set (j:=c) ha1 e1 hxs hF s1 f1
 have mb2:=mb.rz hu' hc la ba
 generalize upd H1 a1 (.lst (xs.set c (.ref v1)))=H2 at mx2 sx2 ⊢
 have mx2:Mx K H2 D as (rz M uN c a):=mx2
 have ls:=mx.lsts
 have fz2:Fq K H2 z a:=sx2.seqT ls fz
 obtain⟨dx2,hx2⟩:=id (sx2.rw ls rw)
 obtain⟨e3,m3,w3⟩:=mb2.row hv'
 obtain⟨e4,l4,b4⟩:=mb2.at hv' hc
 obtain⟨a2,ha2⟩:∃a2,as[vN]?=some a2:=⟨_,List.getElem?_eq_getElem (by rw[lam,mb.h];exact hv')⟩
 obtain⟨xs2,hxs2,hF2⟩:=mx2.r vN a2 _ ha2 e3
 have at2:atI (as.map V.ref) (vN:Int)=some (.ref a2):=atI_nat (by rw[List.getElem?_map,ha2];rfl)
 have b01:Mq.Bd 1 (0,1):=⟨show (0:Nat) < 2 ^ 1 by decide,show (1:Nat) < 2 ^ 1 by decide⟩
 refine⟨_,rfl,_,rfl,x,CK _,_,_,_,rfl,hx2,T.cl _,T.nG _,rflds_goal _ _ _,D,_,_,_,rfl,rfl,SqL.of mx2.d,at2,_,rfl,_,rfl,aN,z,(0,1),a,1,k,rfl,fN _,fz2,by decide,la.pos,b01,ba,by omega,fun v3 H3 s3 e5=>?_⟩
 refine⟨a2,v3,c,xs2,_,_,n+k+1,k+2,rfl,s3 _ _ hxs2,hF2.same s3,by rw[w3];exact hc,l4.pos,b4,Fq.of e5,ln.pos,bn,by omega,fun v4 H4 s4 f4=>?_⟩
 obtain⟨mx3,sx3⟩:=(mx2.same s3).set (j:=c) ha2 e3 (s3 _ _ hxs2) (hF2.same s3) s4 f4
 exact q _ (sx2.trans (s3.sx.trans sx3)) mx3
abbrev sEnterP:Stmt:=top 49
theorem scEnterP:FnScope ["matrix","row","share"] ["matrix","row"] (defScope sEnterP):=⟨rfl,rfl,rfl,by decide +kernel,rfl,by decide +kernel,by decide +kernel⟩
theorem ok_enterp {dV:Value}(F:FunD K "enter_piece" "enter_piece" sEnterP dV f fd)(T:RT K mg CR CK){aN aO:Addr}(fN:∀H,Fq K H aN (0,1))(mNO:mg "NOUGHT"=some (.ref aN))(fO:∀H,Fq K H aO (1,1))(mON:mg "ONE"=some (.ref aO))(G1:FnOk P w K mg base CX0 3 g1 gd1 ["one","other"] (spDiv1 K))(b1:Binds K gd1 ["one","other"] [])(k1:PySem.W.keepIn K (.ref g1)=true)(m1:mg "over"=some (.ref g1))(G2:FnOk P w K mg base CX0 5 g2 gd2 ["matrix","row","column","amount"] (spEnter K CK))(b2:Binds K gd2 ["matrix","row","column","amount"] [])(k2:PySem.W.keepIn K (.ref g2)=true)(m2:mg "enter_stream"=some (.ref g2))(G3:FnOk P w K mg base CX0 3 g3 gd3 ["one","other"] (spTwo K Mq.minus))(b3:Binds K gd3 ["one","other"] [])(k3:PySem.W.keepIn K (.ref g3)=true)(m3:mg "minus"=some (.ref g3)) :
  FnOk P w K mg base CX 6 f fd ["matrix","row"] (spEnterP K CK):=by
 refine F.ok scEnterP (fun vs H Q E h=>?_) (fun cdv A outer s H vs Q E hr h=>?_)
 ·obtain⟨D,x,zz,as,M,⟨k0,u,v,p⟩,w,n,k,rfl,mx,mb,rw,fp,pt,lp,p0,bp,hn,q⟩:=h
  rfl
 obtain⟨D,x,zz,as,M,⟨k0,u,v,p⟩,w,n,k,rfl,mx,mb,rw,fp,pt,lp,p0,bp,hn,q⟩:=h
 have r3:=hr.mono (show 3≤5 by omega)
 refine⟨_,(pss_cons (ps_set (i:=2) scEnterP.nd rfl (Or.inl rfl) (pe_call G1 r3 rfl m1 k1 b1 .nil pass0 (pa_cons (pe_glob (v:=.ref aO) rfl mON rfl) (pa_cons (pe_fld (pv 1) rfl) pa_nil))))
  (pss_cons (ps_expr (pe_call G2 hr rfl m2 k2 b2 .nil pass0 (pa_cons (pv 0) (pa_cons (pv 1) (pa_cons (pe_fld (pv 1) rfl) (pa_cons (pv 2) pa_nil))))))
  (pss_one (ps_expr (pe_call G2 hr rfl m2 k2 b2 .nil pass0 (pa_cons (pv 0) (pa_cons (pv 1) (pa_cons (pe_fld (pv 1) rfl) (pa_cons (pe_call G3 r3 rfl m3 k3 b3 .nil pass0 (pa_cons (pe_glob (v:=.ref aN) rfl mNO rfl) (pa_cons (pv 2) pa_nil))) pa_nil))))))))),?_⟩
 have lp:Mq.Low p:=lp
 have p0:0 < p.1:=p0
 have bp:Mq.Bd k p:=bp
 have fp:Fq K H zz p:=fp
 obtain⟨i0,i1,j0,j1⟩:PtOk (w:Int) u v:=pt
 obtain⟨uN,rfl⟩:∃uN:Nat,u=(uN:Int):=⟨u.toNat,by omega⟩
 obtain⟨vN,rfl⟩:∃vN:Nat,v=(vN:Int):=⟨v.toNat,by omega⟩
 obtain⟨ls,bs,_⟩:=share_ok lp p0 bp
 obtain⟨ln,bn,_⟩:=neg_ok ls bs
 have pt':PtOk (w:Int) (uN:Int) (vN:Int):=⟨i0,i1,j0,j1⟩
 obtain⟨dx,hx⟩:=id rw
 refine⟨_,rfl,x,CK _,_,_,_,rfl,hx,T.cl _,T.nZ _,rflds_size _ _ _,aO,zz,(1,1),p,1,k,rfl,fO _,fp,h11,lp.pos,p0,one_bd,bp,by omega,fun s' H1 s1 e1=>?_⟩
 have fs:Fq K H1 s' (Mq.over (1,1) p):=Fq.of e1
 have rw1:=rw.same s1
 obtain⟨dx1,hx1⟩:=id rw1
 have mx1:=mx.same s1
 refine⟨_,rfl,_,rfl,_,rfl,x,CK _,_,_,_,rfl,hx1,T.cl _,T.nS _,rflds_start _ _ _,_,rfl,D,x,s',_,as,M,(k0,(uN:Int),(vN:Int),p),w,n,k+1,uN,_,rfl,mx1,mb,rw1,pt',by omega,fs,ls,bs,by omega,fun H2 sx2 mx2=>?_⟩
 have lst:=mx1.lsts
 have fs2:Fq K H2 s' (Mq.over (1,1) p):=sx2.seqT lst fs
 have rw2:=sx2.rw lst rw1
 obtain⟨dx2,hx2⟩:=id rw2
 obtain⟨mb2,_⟩:=en_ok (d:=(k0,(uN:Int),(vN:Int),p)) mb pt' (c:=uN) (by omega) ls bs
 have b01:Mq.Bd 1 (0,1):=⟨show (0:Nat) < 2 ^ 1 by decide,show (1:Nat) < 2 ^ 1 by decide⟩
 refine⟨_,rfl,_,rfl,_,rfl,x,CK _,_,_,_,rfl,hx2,T.cl _,T.nG _,rflds_goal _ _ _,_,rfl,aN,s',(0,1),_,1,k+1,rfl,fN _,fs2,by decide,ls.pos,b01,bs,by omega,fun v3 H3 s3 e3=>?_⟩
 refine⟨D,x,v3,_,as,_,(k0,(uN:Int),(vN:Int),p),w,n+2*(k+1)+4,k+3,vN,_,rfl,mx2.same s3,mb2,rw2.same s3,pt',by omega,Fq.of e3,ln,bn,by omega,fun H4 sx4 mx4=>?_⟩
 exact q H4 (s1.sx.trans (sx2.trans (s3.sx.trans sx4))) mx4
abbrev sEnterU:Stmt:=top 50
theorem scEnterU:FnScope ["right","row"] ["right","row"] (defScope sEnterU):=⟨rfl,rfl,rfl,by decide +kernel,rfl,by decide +kernel,by decide +kernel⟩
theorem ok_enteru {dV:Value}(F:FunD K "enter_push" "enter_push" sEnterU dV f fd)(T:RT K mg CR CK){aN:Addr}(fN:∀H,Fq K H aN (0,1))(mNO:mg "NOUGHT"=some (.ref aN))(G1:FnOk P w K mg base CX0 4 g1 gd1 ["line","column","amount"] (spRaise K))(b1:Binds K gd1 ["line","column","amount"] [])(k1:PySem.W.keepIn K (.ref g1)=true)(m1:mg "raise_at"=some (.ref g1))(G2:FnOk P w K mg base CX0 3 g2 gd2 ["one","other"] (spTwo K Mq.minus))(b2:Binds K gd2 ["one","other"] [])(k2:PySem.W.keepIn K (.ref g2)=true)(m2:mg "minus"=some (.ref g2)) :
  FnOk P w K mg base CX 5 f fd ["right","row"] (spEnterU K CK):=by
 refine F.ok scEnterU (fun vs H Q E h=>?_) (fun cdv A outer s H vs Q E hr h=>?_)
 ·obtain⟨R,x,zz,ys,rs,⟨k0,u,v,p⟩,w,n,k,rfl,eR,hF,lb,rw,fp,pt,lp,bp,hn,q⟩:=h
  rfl
 obtain⟨R,x,zz,ys,rs,⟨k0,u,v,p⟩,w,n,k,rfl,eR,hF,lb,rw,fp,pt,lp,bp,hn,q⟩:=h
 have r3:=hr.mono (show 3≤4 by omega)
 refine⟨_,(pss_cons (ps_expr (pe_call G1 hr rfl m1 k1 b1 .nil pass0 (pa_cons (pv 0) (pa_cons (pe_fld (pv 1) rfl) (pa_cons (pe_call G2 r3 rfl m2 k2 b2 .nil pass0 (pa_cons (pe_glob (v:=.ref aN) rfl mNO rfl) (pa_cons (pe_fld (pv 1) rfl) pa_nil))) pa_nil)))))
  (pss_one (ps_expr (pe_call G1 hr rfl m1 k1 b1 .nil pass0 (pa_cons (pv 0) (pa_cons (pe_fld (pv 1) rfl) (pa_cons (pe_fld (pv 1) rfl) pa_nil))))))),?_⟩
 have lp:Mq.Low p:=lp
 have bp:Mq.Bd k p:=bp
 have fp:Fq K H zz p:=fp
 obtain⟨i0,i1,j0,j1⟩:PtOk (w:Int) u v:=pt
 obtain⟨uN,rfl⟩:∃uN:Nat,u=(uN:Int):=⟨u.toNat,by omega⟩
 obtain⟨vN,rfl⟩:∃vN:Nat,v=(vN:Int):=⟨v.toNat,by omega⟩
 obtain⟨ln,bn,_⟩:=neg_ok lp bp
 obtain⟨dx,hx⟩:=id rw
 obtain⟨_,l1,b1⟩:=lb.at (j:=uN) (by omega)
 have b01:Mq.Bd 1 (0,1):=⟨show (0:Nat) < 2 ^ 1 by decide,show (1:Nat) < 2 ^ 1 by decide⟩
 refine⟨_,rfl,_,rfl,x,CK _,_,_,_,rfl,hx,T.cl _,T.nS _,rflds_start _ _ _,_,rfl,x,CK _,_,_,_,rfl,hx,T.cl _,T.nZ _,rflds_size _ _ _,aN,zz,(0,1),p,1,k,rfl,fN _,fp,by decide,lp.pos,b01,bp,by omega,fun v1 H1 s1 e1=>?_⟩
 refine⟨R,v1,uN,ys,rs,_,n,k+2,rfl,s1 _ _ eR,hF.same s1,by rw[lb.w];omega,l1.pos,b1,Fq.of e1,ln.pos,bn,by omega,fun v2 H2 s2 f2=>?_⟩
 have s12:=s1.trans s2
 have eR2:=s12 _ _ eR
 have F3:=(Fqs.set f2 uN (hF.same s12)).upd (o:=.lst (ys.set uN (.ref v2))) eR2
 have e3:upd H2 R (.lst (ys.set uN (.ref v2))) R=some (.lst (ys.set uN (.ref v2))):=upd_same
 have sx3:SX [R] H (upd H2 R (.lst (ys.set uN (.ref v2)))):=s12.sx.write (by simp)
 have fp3:Fq K (upd H2 R (.lst (ys.set uN (.ref v2)))) zz p:=SqT.upd (s12.fq fp) eR2
 have rw3:=(rw.same s12).upd (o:=.lst (ys.set uN (.ref v2))) eR2
 generalize upd H2 R (.lst (ys.set uN (.ref v2)))=H3 at F3 e3 sx3 fp3 rw3 ⊢
 have lb3:=lb.rz (j:=uN) (by omega) ln bn
 have F3:Fqs K H3 (ys.set uN (.ref v2)) (rzl rs uN (Mq.minus (0,1) p)):=F3
 obtain⟨_,l4,b4⟩:=lb3.at (j:=vN) (by omega)
 obtain⟨dx3,hx3⟩:=id rw3
 refine⟨_,rfl,_,rfl,x,CK _,_,_,_,rfl,hx3,T.cl _,T.nG _,rflds_goal _ _ _,_,rfl,x,CK _,_,_,_,rfl,hx3,T.cl _,T.nZ _,rflds_size _ _ _,R,zz,vN,_,_,p,n+(k+2)+1,k,rfl,e3,F3,by rw[lb3.w];omega,l4.pos,b4,fp3,lp.pos,bp,by omega,fun v5 H5 s5 f5=>?_⟩
 refine q _ _ (sx3.trans (s5.sx.write (by simp))) upd_same ?_
 exact(Fqs.set f5 vN (F3.same s5)).upd (s5 _ _ e3)
end
end K56
namespace K56
open PySem L2 Shp
section
variable {P:Program} {w:World} {K:PySem.W.Frag} {mg:Str→Option Value} {base:Heap} {f g1 g2 g3 g4 g5 g6 g7 g8:Addr} {fd gd1 gd2 gd3 gd4 gd5 gd6 gd7 gd8:FuncData} {CX:CXT}
variable {CR:Addr} {CK:Kd→Addr} {fW fJ fT fS:Kd→Addr} {fdW fdJ fdT fdS:Kd→FuncData}
theorem nd_one_bottom:(["one","bottom"]:List Str).Nodup:=by decide +kernel
abbrev sIW:Stmt:=top 42
theorem scIW:FnScope ["some","bottom","one"] ["some"] (defScope sIW):=⟨rfl,rfl,rfl,by decide +kernel,rfl,by decide +kernel,by decide +kernel⟩
theorem ok_iw {dV:Value}(F:FunD K "in_wholes" "in_wholes" sIW dV f fd)(G1:FnOk P w K mg base CX0 1 g1 gd1 ["one","other"] spGc)(b1:Binds K gd1 ["one","other"] [])(k1:PySem.W.keepIn K (.ref g1)=true)(m1:mg "greatest_common"=some (.ref g1)) :
  FnOk P w K mg base CX 2 f fd ["some"] (spIWd K):=by
 refine F.ok scIW (fun vs H Q E h=>?_) (fun cdv A outer s H vs Q E hr h=>?_)
 ·obtain⟨a,xs,ps,n,rfl,hS,hF,hP,hB,h100,hn,q⟩:=h
  rfl
 obtain⟨a,xs,ps,n,rfl,hS,hF,hP,hB,h100,hn,q⟩:=h
 refine⟨_,(pss_cons (ps_set (i:=1) scIW.nd rfl (Or.inr rfl) pe_int)
  (pss_cons (ps_for PassesOwn.never rfl (pi_list (pv 0)) (pg_name (i:=2) scIW.nd rfl (Or.inl rfl))
   (pss_one (ps_set (i:=1) scIW.nd rfl (Or.inr rfl) (pe_op op_mulB (pe_op op_fdivB (pv 1) (pe_call G1 hr rfl m1 k1 b1 .nil pass0 (pa_cons (pv 1) (pa_cons (pe_ix ix_tup (pv 2) pe_int (fun _ _=>rfl)) pa_nil)))) (pe_ix ix_tup (pv 2) pe_int (fun _ _=>rfl))))))
  (pss_one (ps_ret (pe_tup (pa_cons (pe_comp (nl:=1) (fr:=[1]) (Nc:=["one","bottom"]) (cl:=[("bottom",s.heap.objs.size+1)]) rfl ⟨rfl,rfl,by decide +kernel,by decide +kernel,fun x c h=>h,has_of rfl,rfl,fun i n h=>match i,h with | 0,h=>by cases h;exact⟨1,rfl,rfl,rfl,rfl,.inl rfl⟩ | k+1,h=>by rw[show 1+(k+1)=k+2 by omega] at h;cases h⟩
    (pi_list (pv 0)) (fun C s3 H3 fp pins=>(pg_name (i:=0) nd_one_bottom rfl (Or.inl rfl))) (fun C s3 H3 fp pins=>pif_nil)
    (fun C s3 H3 fp pins=>(pe_op op_mulB (pe_ix (ix_tupK (K:=K) rfl) (pv 0) pe_int (fun _ _=>rfl)) (pe_op op_fdivB (pv 1) (pe_ix (ix_tupK (K:=K) rfl) (pv 0) pe_int (fun _ _=>rfl)))))) (pa_cons (pv 1) pa_nil))))))),?_⟩
 have lx:=hF.length
 refine⟨_,rfl,a,rfl,⟨_,hS⟩,?_⟩
 refine for_list (xs:=xs) (fun i σ H'=>H'=H∧i≤ps.length∧∃z,σ=[some (.ref a),some (.int (Mq.lcmB (ps.take i))),z]) ⟨rfl,Nat.zero_le _,none,rfl⟩ (fun i σ H' _ h=>by rw[h.1];exact hS) ?_ ?_
 ·rintro i x σ H' hx ⟨rfl,hi,z,rfl⟩
  obtain⟨u,p,rfl,ep,fu⟩:=hF.get hx
  have hi':i < ps.length:=(List.getElem?_eq_some_iff.mp ep).1
  obtain⟨f1,f2,_⟩:=Mq.lcmB_facts hP hB i hi
  have mono:=Nat.mul_le_mul_left n hi
  have hp:=hP p (List.mem_of_getElem? ep)
  have pb:=(hB p (List.mem_of_getElem? ep)).b
  have g0:Mq.gc (Mq.lcmB (ps.take i)) p.2≠0:=by have:=Mq.gc_pos (a:=Mq.lcmB (ps.take i)) (show p.2≠0 by omega);omega
  have gb:Mq.B n (Mq.gc (Mq.lcmB (ps.take i)) p.2):=by
   have:=Mq.dvr_le (t:=Mq.lcmB (ps.take i)) (show p.2≠0 by omega)
   rw[dvr_pos (by omega)] at this
   exact pb.le this
  have qb:Mq.B (1+n*i) (Int.fdiv (Mq.lcmB (ps.take i)) (Mq.gc (Mq.lcmB (ps.take i)) p.2)):=by
   have d1:Mq.gc (Mq.lcmB (ps.take i)) p.2 ∣ Mq.lcmB (ps.take i):=by unfold Mq.gc;exact Int.gcd_dvd_left ..
   obtain⟨k,hk⟩:=d1
   have:=Mq.natAbs_fdiv_le g0 hk
   rw[Mq.fdiv_exact g0 hk]
   exact f2.le this
  refine⟨_,rfl,_,rfl,rd_ix1 rfl fu ⟨_,_,rfl,rd_fdivB g0 gb (by omega) (rd_ix1 rfl fu (rd_mulB qb pb (by omega) (by omega) ?_))⟩⟩
  refine⟨rfl,hi',some (.ref u),?_⟩
  rw[Mq.lcmB_take ep]
  rfl
 rintro σ H' ⟨rfl,_,z,rfl⟩
 rw[lx,List.take_length]
 obtain⟨f1,f2,f3⟩:=Mq.lcmB_facts hP hB ps.length (Nat.le_refl _)
 rw[List.take_length] at f1 f2 f3
 refine⟨_,rfl,a,rfl,⟨_,hS⟩,fun D hD=>?_⟩
 have sD:=same_new hD (.lst [])
 refine comp_list (xs:=xs) (fun i zs H1=>Same H' H1∧H1 D=some (.lst zs)∧zs=((ps.take i).map (Mq.iwOf (Mq.lcmB ps))).map V.int) ⟨sD,upd_same,rfl⟩ (fun i zs H1 h=>h.2.1) (fun i zs H1 _ h=>h.1.seq hS) ?_ ?_
 ·rintro i zs x H1 hx ⟨s1,e1,rfl⟩ C hC
  obtain⟨u,p,rfl,ep,fu⟩:=hF.get hx
  have hi':i < ps.length:=(List.getElem?_eq_some_iff.mp ep).1
  have mem:=List.mem_of_getElem? ep
  have hp:=hP p mem
  obtain⟨k,hk⟩:=f3 p mem
  have fu1:=s1.fq fu
  have kb:Mq.B (1+n*ps.length) (Int.fdiv (Mq.lcmB ps) p.2):=by
   have e:=Mq.fdiv_exact (show p.2≠0 by omega) (show Mq.lcmB ps=p.2*k by rw[hk,Int.mul_comm])
   rw[e]
   refine f2.le ?_
   rw[hk,Int.natAbs_mul]
   exact Nat.le_mul_of_pos_right _ (by omega)
  refine⟨keep1.1,keep1.2,iteT ?_⟩
  refine rd_ix0 rfl fu1 ⟨_,rfl,rd_ix1 rfl fu1 (rd_fdivB (show p.2≠0 by omega) (hB p mem).b (by omega) (rd_mulB (hB p mem).a kb (by omega) (by omega) ?_))⟩
  refine⟨e1,small1000 (by rw[List.length_map,List.length_map,List.length_take];omega),hC _ _ ⟨s1.change hD,upd_same,?_⟩⟩
  rw[List.take_add_one,ep,List.map_append,List.map_append];rfl
 rintro zs H1 ⟨s1,e1,rfl⟩
 rw[lx,List.take_length] at e1
 refine⟨_,rfl,by show 2≤sizeLine;decide,fun t ht=>?_⟩
 have s2:=same_new ht (.tup [.ref D,.int (Mq.lcmB ps)])
 exact q t D _ (s1.trans s2) hD (SqT.of upd_same) (s2 _ _ e1)
theorem nd_top_pivot:(["top","pivot"]:List Str).Nodup:=by decide +kernel
abbrev sOverP:Stmt:=top 43
theorem scOverP:FnScope ["tops","pivot"] ["tops","pivot"] (defScope sOverP):=⟨rfl,rfl,rfl,by decide +kernel,rfl,by decide +kernel,by decide +kernel⟩
theorem ok_overp {dV:Value}(F:FunD K "over_pivot" "over_pivot" sOverP dV f fd)(G1:FnOk P w K mg base CX0 2 g1 gd1 ["top","bottom"] spFrac)(b1:Binds K gd1 ["top","bottom"] [])(k1:PySem.W.keepIn K (.ref g1)=true)(m1:mg "fraction"=some (.ref g1)) :
  FnOk P w K mg base CX 3 f fd ["tops","pivot"] (spOver K):=by
 refine F.ok scOverP (fun vs H Q E h=>?_) (fun cdv A outer s H vs Q E hr h=>?_)
 ·obtain⟨l,ts,pq,n,rfl,hS,h100,h0,bP,hn,q⟩:=h
  rfl
 obtain⟨l,ts,pq,n,rfl,hS,h100,h0,bP,hn,q⟩:=h
 refine⟨_,(pss_one (ps_ret (pe_comp (nl:=1) (fr:=[1]) (Nc:=["top","pivot"]) (cl:=[("pivot",s.heap.objs.size+1)]) rfl ⟨rfl,rfl,by decide +kernel,by decide +kernel,fun x c h=>h,has_of rfl,rfl,fun i n h=>match i,h with | 0,h=>by cases h;exact⟨1,rfl,rfl,rfl,rfl,.inl rfl⟩ | k+1,h=>by rw[show 1+(k+1)=k+2 by omega] at h;cases h⟩
    (pi_list (pv 0)) (fun C s3 H3 fp pins=>(pg_name (i:=0) nd_top_pivot rfl (Or.inl rfl))) (fun C s3 H3 fp pins=>pif_nil)
    (fun C s3 H3 fp pins=>(pe_call G1 hr rfl m1 k1 b1 .nil pass0 (pa_cons (pv 0) (pa_cons (pv 1) pa_nil))))))),?_⟩
 refine⟨_,rfl,l,rfl,⟨_,hS⟩,fun D hD=>?_⟩
 have sD:=same_new hD (.lst [])
 refine comp_list (xs:=ts.map V.int) (fun i zs H'=>Same H H'∧H' D=some (.lst zs)∧Fqs K H' zs ((ts.map fun t=>Mq.red t pq).take i)) ⟨sD,upd_same,.nil⟩ (fun i zs H' h=>h.2.1) (fun i zs H' _ h=>h.1.seq hS) ?_ ?_
 ·rintro i zs x H1 hx ⟨s1,e1,F1⟩ C hC
  have hi:i < ts.length:=by have:=(List.getElem?_eq_some_iff.mp hx).1;simpa using this
  have ex:x=.int (ts.getD i 0):=by rw[map_get hi] at hx;cases hx;rfl
  subst ex
  have lz:=F1.length
  rw[List.length_take,List.length_map] at lz
  refine⟨keep1.1,keep1.2,iteT ?_⟩
  refine⟨_,rfl,_,rfl,_,_,n,rfl,h0,bP,by omega,fun r H2 s2 e2=>?_⟩
  have eA:=s2 _ _ e1
  refine⟨eA,small1000 (by omega),hC _ _ ⟨(s1.trans s2).change hD,upd_same,?_⟩⟩
  rw[List.take_add_one,List.getElem?_map,Mq.get_some hi]
  exact((F1.same s2).app (.cons (Fq.of e2) .nil)).upd eA
 rintro zs H1 ⟨s1,e1,F1⟩
 rw[List.length_map,List.take_of_length_le (by simp)] at F1
 exact q D zs H1 s1 hD e1 F1
def spElim0 (K:PySem.W.Frag):Sp:=fun vs H Q _=>∃(l:Addr) (zs:List V),vs=[.ref l,.int 0]∧SqL K H l zs∧∀d l' H',Same H H'→H' d=some (elimD l' 0 1 1)→H' l'=some (.lst zs)→Q (.ref d) H'
abbrev sElim:Stmt:=top 44
theorem scElim:FnScope ["rows","width","rank","pivot","sign","column","place","lifted"] ["rows","width"] (defScope sElim):=⟨rfl,rfl,rfl,by decide +kernel,rfl,by decide +kernel,by decide +kernel⟩
theorem ok_elim {dV:Value}(F:FunD K "eliminated" "eliminated" sElim dV f fd)(mli:mg "list"=none)(mr:mg "range"=none)(G1:FnOk P w K mg base CX0 1 g1 gd1 ["rows","rank","column"] (fun _ _ _ _=>False))(b1:Binds K gd1 ["rows","rank","column"] [])(k1:PySem.W.keepIn K (.ref g1)=true)(m1:mg "pivot_place"=some (.ref g1))(G2:FnOk P w K mg base CX0 2 g2 gd2 ["rows","rank","column","divisor"] (fun _ _ _ _=>False))(b2:Binds K gd2 ["rows","rank","column","divisor"] [])(k2:PySem.W.keepIn K (.ref g2)=true)(m2:mg "cleared_rows"=some (.ref g2)) :
  FnOk P w K mg base CX 3 f fd ["rows","width"] (spElim0 K):=by
 refine F.ok scElim (fun vs H Q E h=>?_) (fun cdv A outer s H vs Q E hr h=>?_)
 ·obtain⟨l,zs,rfl,hS,q⟩:=h
  rfl
 obtain⟨l,zs,rfl,hS,q⟩:=h
 have r1:=hr.mono (show 1≤2 by omega)
 have hu:=hu_of hr
 refine⟨_,(pss_cons (ps_set (i:=0) scElim.nd rfl (Or.inl rfl) (pe_callTy call_list_of rfl mli PyProof.Rows.boot_list (pa_cons (pv 0) pa_nil)))
  (pss_cons (ps_set (i:=2) scElim.nd rfl (Or.inl rfl) pe_int)
  (pss_cons (ps_set (i:=3) scElim.nd rfl (Or.inl rfl) pe_int)
  (pss_cons (ps_set (i:=4) scElim.nd rfl (Or.inl rfl) pe_int)
  (pss_cons (ps_for PassesOwn.never rfl (pi_range1 rfl mr (pa_cons (pv 1) pa_nil)) (pg_name (i:=5) scElim.nd rfl (Or.inl rfl))
   (pss_cons (ps_set (i:=6) scElim.nd rfl (Or.inl rfl) (pe_call G1 r1 rfl m1 k1 b1 .nil pass0 (pa_cons (pv 0) (pa_cons (pv 2) (pa_cons (pv 5) pa_nil)))))
  (pss_cons (ps_if (pt_cmp (pc_isN (pv 6))) (pss_one ps_continue) pss_nil)
  (pss_cons (ps_if (pt_cmpR op_ne (pv 6) (pv 2) (nomark _)) (pss_cons (ps_set (i:=7) scElim.nd rfl (Or.inl rfl) (pe_ix ix_list (pv 0) (pv 6) (fun _ _=>rfl)))
  (pss_cons (ps_asg (pe_ix ix_list (pv 0) (pv 2) (fun _ _=>rfl)) (pg_sub (pv 0) (pv 6) set_list))
  (pss_cons (ps_asg (pv 7) (pg_sub (pv 0) (pv 2) set_list))
  (pss_one (ps_set (i:=4) scElim.nd rfl (Or.inl rfl) (pe_un un_neg (pv 4))))))) pss_nil)
  (pss_cons (ps_set (i:=0) scElim.nd rfl (Or.inl rfl) (pe_call G2 hr rfl m2 k2 b2 .nil pass0 (pa_cons (pv 0) (pa_cons (pv 2) (pa_cons (pv 5) (pa_cons (pv 3) pa_nil))))))
  (pss_cons (ps_set (i:=3) scElim.nd rfl (Or.inl rfl) (pe_ix ix_list (pe_ix ix_list (pv 0) (pv 2) (fun _ _=>rfl)) (pv 5) (fun _ _=>rfl)))
  (pss_one (ps_aug (i:=2) scElim.nd rfl (Or.inl rfl) pe_int ip_add))))))))
  (pss_one (ps_ret (pe_disp (pps_cons pe_str (pv 0) (pps_cons pe_str (pv 2) (pps_cons pe_str (pv 3) (pps_cons pe_str (pv 4) pps_nil)))) rfl rfl (by simp) (by decide))))))))),?_⟩
 refine⟨_,rfl,l,zs,rfl,.inl hS,fun l1 hl1=>?_⟩
 have s1:=same_new hl1 (.lst zs)
 have e1:upd H l1 (.lst zs) l1=some (.lst zs):=upd_same
 generalize upd H l1 (.lst zs)=H1 at s1 e1 ⊢
 refine⟨_,rfl,(0:Int),rfl,by omega,by omega,?_⟩
 refine for_range (lo:=0) (n:=((0:Int) - 0).toNat) (fun i σ H'=>H'=H1∧σ=[some (.ref l1),some (.int 0),some (.int 0),some (.int 1),some (.int 1),none,none,none]) ⟨rfl,rfl⟩ ?_ ?_
 ·rintro i σ H' hi _
  exact absurd hi (Nat.not_lt_zero _)
 rintro σ H' ⟨rfl,rfl⟩
 intro d hd
 refine⟨_,rfl,_,rfl,_,rfl,_,rfl,upd_same,[(.inr "rows",.ref l1),(.inr "rank",.int 0),(.inr "pivot",.int 1),(.inr "sign",.int 1)],rfl,by show 4≤15;decide,?_⟩
 have sd:Same H' (upd (upd H' d (.dK [])) d (elimD l1 0 1 1)):=(same_new hd _).change hd
 exact q d l1 _ (s1.trans sd) upd_same (sd _ _ e1)
theorem cut_fromI (xs:List V)(k:Nat):cutV xs (some (k:Int)) none=xs.drop k:=by
 unfold cutV
 have h1:HT.sIx xs.length xs.length none=xs.length:=rfl
 have h2:HT.sIx xs.length 0 (some (k:Int))=min k xs.length:=by simp[HT.sIx];omega
 rw[h1,h2]
 by_cases h:k≤xs.length
 ·rw[Nat.min_eq_left h,List.take_of_length_le (by simp)]
 ·rw[Nat.min_eq_right (by omega),List.drop_of_length_le (Nat.le_refl _),List.drop_of_length_le (by omega)];simp
theorem red_iw {p:Mq.Q2}{L:Int}(lp:Mq.Low p)(hL:0 < L)(hd:p.2 ∣ L):Mq.red (Mq.iwOf L p) (1*L)=p:=by
 rw[Int.one_mul]
 have l0:L≠0:=by omega
 have p1:(1:Int)≤p.2:=lp.1
 refine Mq.low_ext (Mq.red_low l0) lp ?_
 rw[Mq.val_red l0]
 obtain⟨k,hk⟩:=hd
 have e:Mq.iwOf L p=p.1*k:=by
  unfold Mq.iwOf
  rw[Mq.fdiv_exact (show p.2≠0 by omega) hk]
 rw[e]
 unfold Mq.val
 rw[hk]
 have k0:k≠0:=fun z=>by rw[z,Int.mul_zero] at hk;omega
 have q0:((k:Int):Rat)≠0:=by exact_mod_cast k0
 have p0:((p.2:Int):Rat)≠0:=by
  have:p.2≠0:=by omega
  exact_mod_cast this
 rw[Rat.intCast_mul,Rat.intCast_mul]
 generalize ((p.1:Int):Rat)=a
 generalize ((p.2:Int):Rat)=c at p0
 generalize ((k:Int):Rat)=d at q0
 grind
structure Rd0 (n w:Nat) (X:List (List Mq.Q2)):Prop where
 m9:X.length≤100
 w9:w≤100
 r:∀row∈X,row.length=w∧∀p∈row,Mq.Low p∧Mq.Bd n p
 bits:10+n+n*w≤8000
def spRed0 (K:PySem.W.Frag):Sp:=fun vs H Q _=>∃(g:Addr) (us:List V) (X:List (List Mq.Q2)) (n w:Nat),vs=[.ref g,.int 0]∧SqL K H g us∧Lns K H us X∧Rd0 n w X∧∀l zs H',Same H H'→H' l=some (.lst zs)→Lns K H' zs X→Q (.ref l) H'
theorem nd_row:(["row"]:List Str).Nodup:=by decide +kernel
theorem nd_left_row_end_count:(["left","row","end","count"]:List Str).Nodup:=by decide +kernel
abbrev sRed:Stmt:=top 41
theorem scRed:FnScope ["matrix","count","rows","end"] ["matrix","count"] (defScope sRed):=⟨rfl,rfl,rfl,by decide +kernel,rfl,by decide +kernel,by decide +kernel⟩
theorem ok_red {dV:Value}(F:FunD K "reduced" "reduced" sRed dV f fd)(mz:mg "zip"=none)(G1:FnOk P w K mg base CX0 2 g1 gd1 ["some"] (spIWd K))(b1:Binds K gd1 ["some"] [])(k1:PySem.W.keepIn K (.ref g1)=true)(m1:mg "in_wholes"=some (.ref g1))(G2:FnOk P w K mg base CX0 3 g2 gd2 ["rows","width"] (spElim0 K))(b2:Binds K gd2 ["rows","width"] [])(k2:PySem.W.keepIn K (.ref g2)=true)(m2:mg "eliminated"=some (.ref g2))(G3:FnOk P w K mg base CX0 3 g3 gd3 ["tops","pivot"] (spOver K))(b3:Binds K gd3 ["tops","pivot"] [])(k3:PySem.W.keepIn K (.ref g3)=true)(m3:mg "over_pivot"=some (.ref g3)) :
  FnOk P w K mg base CX 4 f fd ["matrix","count"] (spRed0 K):=by
 refine F.ok scRed (fun vs H Q E h=>?_) (fun cdv A outer s H vs Q E hr h=>?_)
 ·obtain⟨g,us,X,n,w',rfl,hU,hX,hO,q⟩:=h
  rfl
 obtain⟨g,us,X,n,w',rfl,hU,hX,hO,q⟩:=h
 have r2:=hr.mono (show 2≤3 by omega)
 have hu:=hu_of hr
 refine⟨_,(pss_cons (ps_setC (i:=2) (nl:=1) (fr:=[]) (Nc:=["row"]) (cl:=[]) scRed.nd rfl rfl rfl ⟨rfl,rfl,by decide +kernel,by decide +kernel,fun x c h=>(by cases h),has_of rfl,rfl,fun i n h=>(by simp at h)⟩
    (pi_list (pv 0)) (fun C s3 H3 fp pins=>(pg_name (i:=0) nd_row rfl (Or.inl rfl))) (fun C s3 H3 fp pins=>pif_nil)
    (fun C s3 H3 fp pins=>(pe_call G1 r2 rfl m1 k1 b1 .nil pass0 (pa_cons (pv 0) pa_nil))) rfl)
  (pss_cons (ps_set (i:=3) scRed.nd rfl (Or.inr rfl) (pe_call G2 hr rfl m2 k2 b2 .nil pass0 (pa_cons (pe_comp (nl:=1) (fr:=[]) (Nc:=["row"]) (cl:=[]) rfl ⟨rfl,rfl,by decide +kernel,by decide +kernel,fun x c h=>(by cases h),has_of rfl,rfl,fun i n h=>(by simp at h)⟩
    (pi_list (pv 2)) (fun C s3 H3 fp pins=>(pg_name (i:=0) nd_row rfl (Or.inl rfl))) (fun C s3 H3 fp pins=>pif_nil)
    (fun C s3 H3 fp pins=>(pe_ix (ix_tupK (K:=K) rfl) (pv 0) pe_int (fun _ _=>rfl)))) (pa_cons (pv 1) pa_nil))))
  (pss_one (ps_ret (pe_comp (nl:=2) (fr:=[3,1]) (Nc:=["left","row","end","count"]) (cl:=[("end",s.heap.objs.size+2),("count",s.heap.objs.size+1)]) (g:=(gTup K 2 (gCons (gName 0) (gCons (gName 1) gNil)))) rfl ⟨rfl,rfl,by decide +kernel,by decide +kernel,(sub_cons rfl (sub_cons rfl (sub_nil))),has_of rfl,rfl,fun i n h=>match i,h with | 0,h=>by cases h;exact⟨3,rfl,rfl,rfl,rfl,.inl rfl⟩ | 1,h=>by cases h;exact⟨1,rfl,rfl,rfl,rfl,.inl rfl⟩ | k+2,h=>by rw[show 2+(k+2)=k+4 by omega] at h;cases h⟩
    (pi_zip rfl mz rfl (pa_cons (pe_slice sl_list (pe_dget hu (pv 3) pe_str (fun _ _=>rfl)) (po_some (pv 1)) po_none) (pa_cons (pe_slice sl_list (pv 2) (po_some (pv 1)) po_none) pa_nil))) (fun C s3 H3 fp pins=>(pg_tup rfl (pgs_cons (pg_name (i:=0) nd_left_row_end_count rfl (Or.inl rfl)) (pgs_cons (pg_name (i:=1) nd_left_row_end_count rfl (Or.inl rfl)) pgs_nil)))) (fun C s3 H3 fp pins=>pif_nil)
    (fun C s3 H3 fp pins=>(pe_call G3 hr rfl m3 k3 b3 .nil pass0 (pa_cons (pe_slice (sl_listK (K:=K) rfl) (pv 0) (po_some (pv 3)) po_none) (pa_cons (pe_op op_mulB (pe_dget hu (pv 2) pe_str (fun _ _=>rfl)) (pe_ix (ix_tupK (K:=K) rfl) (pv 1) pe_int (fun _ _=>rfl))) pa_nil))))))))),?_⟩
 have lu:=hX.l
 have m9:=hO.m9
 have w9:=hO.w9
 have bits:=hO.bits
 have rw':∀{i:Nat},i < X.length→(X.getD i []).length=w'∧Mq.Pos (X.getD i [])∧(∀p∈X.getD i [],Mq.Bd n p)∧∀p∈X.getD i [],Mq.Low p:=fun {i} hi=>by
  obtain⟨a,b⟩:=hO.r _ (List.mem_of_getElem? (Mq.getL hi))
  exact⟨a,fun p hp=>(b p hp).1.1,fun p hp=>(b p hp).2,fun p hp=>(b p hp).1⟩
 refine⟨_,rfl,g,rfl,⟨_,hU⟩,fun D1 hD1=>?_⟩
 have sD1:=same_new hD1 (.lst [])
 refine comp_list (xs:=us) (fun i zs H'=>Same H H'∧H' D1=some (.lst zs)∧Wmx K D1 H' zs ((X.take i).map wh)) ⟨sD1,upd_same,.nil⟩ (fun i zs H' h=>h.2.1) (fun i zs H' _ h=>h.1.seq hU) ?_ ?_
 ·rintro i zs x H1 hx ⟨s1,e1,W1⟩ C hC
  have hi:i < X.length:=by have:=(List.getElem?_eq_some_iff.mp hx).1;omega
  have er:=Mq.getL hi
  obtain⟨u,ys,rfl,hu',fu⟩:=hX.r i x _ hx er
  obtain⟨rl,rp,rb,_⟩:=rw' hi
  have lz:=W1.length
  rw[List.length_map,List.length_take] at lz
  refine⟨keep1.1,keep1.2,iteT ?_⟩
  refine⟨_,rfl,u,ys,X.getD i [],n,rfl,s1.seq hu',fu.same s1,rp,rb,by rw[rl];omega,by rw[rl];omega,fun t l H2 s2 nl ht hl=>?_⟩
  have e2:=s2 _ _ e1
  have ne:l≠D1:=fun z=>by rw[z,e1] at nl;cases nl
  refine⟨e2,small1000 (by omega),hC _ _ ⟨(s1.trans s2).change hD1,upd_same,?_⟩⟩
  have ee:(X.take (i+1)).map wh=(X.take i).map wh++[wh (X.getD i [])]:=by rw[List.take_add_one,er,List.map_append];rfl
  rw[ee]
  exact((W1.same s2).app (.cons ne ht hl .nil)).upd e2
 rintro zs1 H1 ⟨s1,e1,W1⟩
 rw[lu,List.take_length] at W1
 have lz1:=W1.length
 rw[List.length_map] at lz1
 refine⟨_,rfl,D1,rfl,⟨_,SqL.of e1⟩,fun D2 hD2=>?_⟩
 have sD2:=same_new hD2 (.lst [])
 refine comp_list (xs:=zs1) (fun i zs H'=>Same H1 H'∧H' D2=some (.lst zs)∧Imx D2 H' zs ((X.map Mq.iw).take i)) ⟨sD2,upd_same,.nil⟩ (fun i zs H' h=>h.2.1) (fun i zs H' _ h=>h.1.seq (SqL.of e1)) ?_ ?_
 ·rintro i zs x H2 hx ⟨s2,e2,J2⟩ C hC
  obtain⟨t,l,r,rfl,er,ht,hl⟩:=W1.get hx
  obtain⟨row,erow,rfl⟩:∃row,X[i]?=some row∧r=wh row:=by
   rw[List.getElem?_map] at er
   cases e:X[i]? with
   |none=>rw[e] at er;cases er
   |some row=>rw[e] at er;cases er;exact⟨row,rfl,rfl⟩
  have lz:=J2.length
  rw[List.length_take,List.length_map] at lz
  have ne:l≠D2:=fun z=>by rw[z,hD2] at hl;cases hl
  refine⟨keep1.1,keep1.2,iteT ?_⟩
  refine⟨_,rfl,t,_,_,_,rfl,rfl,s2.seqT ht,rfl,?_⟩
  refine⟨e2,small1000 (by omega),hC _ _ ⟨s2.change hD2,upd_same,?_⟩⟩
  have ee:(X.map Mq.iw).take (i+1)=(X.map Mq.iw).take i++[Mq.iw row]:=by rw[List.take_add_one,List.getElem?_map,erow];rfl
  rw[ee]
  exact(J2.app (.cons ne (s2 _ _ hl) .nil)).upd
 rintro zs2 H2 ⟨s2,e2,J2⟩
 rw[lz1,show X.length=(X.map Mq.iw).length by simp,List.take_length] at J2
 have sA:=s1.trans s2
 refine⟨_,rfl,D2,zs2,rfl,SqL.of e2,fun d lE H3 s3 ed el=>?_⟩
 obtain⟨g1',g2',g3',g4'⟩:=elim_get ed
 have sB:=sA.trans s3
 have W3:=W1.same (s2.trans s3)
 have lz2:=J2.length
 rw[List.length_map] at lz2
 refine⟨_,rfl,d,_,rfl,g1',_,rfl,0,rfl,lE,zs2,rfl,SqL.of el,fun A hA=>?_⟩
 rw[show (0:Int)=((0:Nat):Int) from rfl,cut_fromI,List.drop_zero]
 have s4:=same_new hA (.lst zs2)
 have e4:upd H3 A (.lst zs2) A=some (.lst zs2):=upd_same
 generalize upd H3 A (.lst zs2)=H4 at s4 e4 ⊢
 refine⟨_,rfl,_,rfl,((0:Nat):Int),rfl,D1,zs1,rfl,SqL.of (s4 _ _ ((s2.trans s3) _ _ e1)),fun B hB=>?_⟩
 rw[cut_fromI,List.drop_zero]
 have s5:=same_new hB (.lst zs1)
 have e5:upd H4 B (.lst zs1) B=some (.lst zs1):=upd_same
 generalize upd H4 B (.lst zs1)=H5 at s5 e5 ⊢
 have e4':=s5 _ _ e4
 have s35:=s4.trans s5
 refine⟨A,B,rfl,⟨_,SqL.of e4'⟩,⟨_,SqL.of e5⟩,fun D hD=>?_⟩
 have sD:=same_new hD (.lst [])
 refine comp_zip (xs:=zs2) (ys:=zs1) (fun i zs H'=>Same H5 H'∧H' D=some (.lst zs)∧Lns K H' zs (X.take i)∧∀x∈zs,x≠.ref D) ⟨sD,upd_same,by rw[List.take_zero];exact .nil,fun x hx=>by cases hx⟩ (fun i zs H' h=>h.2.1) (fun i zs H' _ h=>⟨h.1.seq (SqL.of e4'),h.1.seq (SqL.of e5)⟩) ?_ ?_
 ·rintro i zs x y H6 T1 ex ey ⟨s6,e6,F6,n6⟩ hT C hC
  have hi:i < X.length:=by have:=(List.getElem?_eq_some_iff.mp ey).1;omega
  obtain⟨t,l,r,rfl,er,ht,hl⟩:=W3.get ey
  have er':r=wh (X.getD i []):=by
   rw[List.getElem?_map,Mq.getL hi] at er
   cases er;rfl
  subst er'
  obtain⟨u,r',rfl,eR,_,hu6⟩:=J2.get ex
  have eR':r'=Mq.iw (X.getD i []):=by
   rw[List.getElem?_map,Mq.getL hi] at eR
   cases eR;rfl
  subst eR'
  have sT:=same_new hT (.tup [.ref u,.ref t])
  refine⟨T1,_,rfl,SqT.of upd_same,rfl,_,_,rfl,_,_,rfl,rfl,keep2.1,keep2.2,iteT ?_⟩
  generalize upd H6 T1 (.tup [.ref u,.ref t])=H7 at sT ⊢
  have s37:=(s35.trans s6).trans sT
  have s27:=s3.trans s37
  refine⟨_,rfl,_,rfl,((0:Nat):Int),rfl,u,_,rfl,SqL.of (s27 _ _ hu6),fun L hL=>?_⟩
  rw[cut_fromI,List.drop_zero]
  have sL:=same_new hL (.lst ((Mq.iw (X.getD i [])).map V.int))
  have eL:upd H7 L (.lst ((Mq.iw (X.getD i [])).map V.int)) L=some (.lst ((Mq.iw (X.getD i [])).map V.int)):=upd_same
  generalize upd H7 L (.lst ((Mq.iw (X.getD i [])).map V.int))=H8 at sL eL ⊢
  have s38:=s37.trans sL
  obtain⟨rl,rp,rb,rlow⟩:=rw' hi
  obtain⟨f1,f2,f3⟩:=Mq.lcmB_facts rp rb _ (Nat.le_refl _)
  rw[List.take_length] at f1 f2 f3
  rw[rl] at f2
  have b1:Mq.B 1 1:=by show (1:Nat) < 2 ^ 1;decide
  have ne:1*Mq.lcmB (X.getD i [])≠0:=by omega
  refine⟨_,rfl,d,_,rfl,(elim_get (s38 _ _ ed)).2.2.1,_,rfl,t,_,_,_,rfl,rfl,s38.seqT ht,rfl,rd_mulB b1 f2 (by omega) (by omega) ?_⟩
  refine⟨L,Mq.iw (X.getD i []),_,1+(1+n*w'),rfl,SqL.of eL,by unfold Mq.iw;rw[List.length_map];omega,ne,b1.mul f2,by omega,fun l' zs' H9 s9 nl' e9 F9=>?_⟩
  have eq:(Mq.iw (X.getD i [])).map (fun t=>Mq.red t (1*Mq.lcmB (X.getD i [])))=X.getD i []:=by
   unfold Mq.iw
   rw[List.map_map]
   refine(List.map_congr_left fun p hp=>?_).trans (List.map_id _)
   obtain⟨k,hk⟩:=f3 p hp
   exact red_iw (rlow p hp) (by omega) ⟨k,by rw[hk,Int.mul_comm]⟩
  have F9:Fqs K H9 zs' ((Mq.iw (X.getD i [])).map (fun t=>Mq.red t (1*Mq.lcmB (X.getD i [])))):=F9
  rw[eq] at F9
  have eA:=s9 _ _ (sL _ _ (sT _ _ e6))
  have lz:=F6.l
  rw[List.length_take] at lz
  have nlD:l'≠D:=fun z=>by rw[z,sL _ _ (sT _ _ e6)] at nl';cases nl'
  refine⟨eA,small1000 (by omega),hC _ _ ⟨(s6.trans (sT.trans (sL.trans s9))).change hD,upd_same,?_,fun z hz=>?_⟩⟩
  ·rw[List.take_add_one,Mq.getL hi]
   refine((F6.same (sT.trans (sL.trans s9))).snoc (SqL.of e9) F9).upd eA fun z hz=>?_
   rcases List.mem_append.mp hz with c | c
   ·exact n6 z c
   ·have:z=.ref l':=by simpa using c
    rw[this];exact fun c=>nlD (by injection c)
  ·rcases List.mem_append.mp hz with c | c
   ·exact n6 z c
   ·have:z=.ref l':=by simpa using c
    rw[this];exact fun c=>nlD (by injection c)
 rintro zs H6 ⟨s6,e6,F6,n6⟩
 rw[lz1,lz2,Nat.min_self,List.take_length] at F6
 exact q D zs H6 ((sB.trans s35).trans s6) e6 F6
end
end K56
namespace L2
open PySem PySem.Spec PyProof.Rows
def rIndex (K:PySem.W.Frag):V→List V→Hp→VK→Prop:=fun x vs H Q=>∃(p:Addr) (ns:List Int) (k:Int),x=.ref p∧vs=[.int k]∧SqL K H p (ns.map V.int)∧k∈ns∧(PyData.list (ns.map PyData.int)).layable0=true∧Q (.int (ns.idxOf k:Nat)) H
theorem ints_are:∀{ns:List Int} {us:List Value},Vals (ns.map V.int) us→IntsAre us ns
 | [],_,.nil=>.nil
 |n :: ns,_,.cons ⟨t,e⟩ q=>by subst e;exact .cons _ _ (ints_are q)
theorem mt_index {X:Cx}:MtR X "list.index" (rIndex X.K):=by
 intro pins s σ H x xs v us Q I rx rv h
 obtain⟨p,ns,k,rfl,rfl,hq,hk,hl,q⟩:=h
 cases rx
 obtain⟨u,rfl,t,rfl⟩:=vals1 rv
 obtain⟨its,r,pl,hz⟩:=I.list hq
 refine index_list_ints pl.isList (ints_are r) hl hk ⟨.int _,H,I.tok _,⟨_,rfl⟩,q⟩
theorem mt_indexK {X:Cx}{K:PySem.W.Frag}(h:X.K=K):MtR X "list.index" (rIndex K):=by subst h;exact mt_index
theorem ints_weight : ∀ {ns : List Int}, (∀ n ∈ ns, n.natAbs < 32) → PyData.weightAll (ns.map PyData.int) ≤ 6 * ns.length
  | [], _ => by rw [List.map_nil, PyData.weightAll.eq_1]; exact Nat.zero_le _
  | n :: ns, h => by
    have ih := ints_weight fun x hx => h x (List.mem_cons_of_mem _ hx)
    have hn := h n (by simp)
    rw [List.map_cons, PyData.weightAll.eq_2, PyData.weight.eq_5, List.length_cons]
    have : (if (n == 0) = true then 0 else n.natAbs.log2 + 1) ≤ 5 := by
      split
      · omega
      · rename_i c
        have n0 : n.natAbs ≠ 0 := fun z => c (by have : n = 0 := by omega
                                                 rw [this]; rfl)
        have := (Nat.log2_lt n0 (k := 5)).mpr (by omega)
        omega
    omega
theorem ints_layable {ns:List Int}(h:∀n∈ns,n.natAbs < 32)(hl:ns.length≤100):(PyData.list (ns.map PyData.int)).layable0=true:=by
 have w:=ints_weight h
 have d:=ints_depth ns
 have l:=ints_lay ns
 unfold PyData.layable0
 rw[show (PyData.list (ns.map PyData.int)).canLay0=true from l,PyData.weight.eq_2]
 have d2:(PyData.list (ns.map PyData.int)).depth≤64:=by simp only[PyData.depth];omega
 have w2:PyData.weightAll (ns.map PyData.int)≤2 ^ 20:=by
  have:(2:Nat) ^ 20=1048576:=by decide
  omega
 rw[decide_eq_true d2,decide_eq_true w2]
 rfl
end L2
namespace K56
open PySem L2 Shp
section
variable {P:Program} {w:World} {K:PySem.W.Frag} {mg:Str→Option Value} {base:Heap} {f g1 g2 g3 g4 g5 g6 g7 g8:Addr} {fd gd1 gd2 gd3 gd4 gd5 gd6 gd7 gd8:FuncData} {CX:CXT}
variable {CR:Addr} {CK:Kd→Addr} {fW fJ fT fS:Kd→Addr} {fdW fdJ fdT fdS:Kd→FuncData}
theorem call_list_ofK {X:Cx}{K:PySem.W.Frag}(h:X.K=K):CallR X (.type "list") (fun xs H Q=>∃p ys,xs=[.ref p]∧(SqL K H p ys∨SqT K H p ys)∧∀l,H l=none→Q (.ref l) (upd H l (.lst ys))):=by subst h;exact call_list_of
theorem nd_line:(["line"]:List Str).Nodup:=by decide +kernel
abbrev sTMat:Stmt:=inClass (top 54) 2
theorem scTMat:FnScope ["self"] ["self"] (defScope sTMat):=⟨rfl,rfl,rfl,by decide +kernel,rfl,by decide +kernel,by decide +kernel⟩
theorem ok_tmat {dV:Value}{CT:Addr}(F:FunD K "matrix" "Table.matrix" sTMat dV f fd)(TBx:TB K mg CT)(mli:mg "list"=none):FnOk P w K mg base CX 1 f fd ["self"] (spTMat CT K):=by
 refine F.ok scTMat (fun vs H Q E h=>?_) (fun cdv A outer s H vs Q E hr h=>?_)
 ·obtain⟨t,es,X,cs,rfl,⟨⟨dx,p,l,a,us,ys,ht,hp,hU,hL0,ha,hC⟩⟩,h100,q⟩:=h
  rfl
 obtain⟨t,es,X,cs,rfl,⟨⟨dx,p,l,a,us,ys,ht,hp,hU,hL0,ha,hC⟩⟩,h100,q⟩:=h
 refine⟨_,(pss_one (ps_ret (pe_comp (nl:=1) (fr:=[]) (Nc:=["line"]) (cl:=[]) rfl ⟨rfl,rfl,by decide +kernel,by decide +kernel,fun x c h=>(by cases h),has_of rfl,rfl,fun i n h=>(by simp at h)⟩
    (pi_list (pe_fld (pv 0) rfl)) (fun C s3 H3 fp pins=>(pg_name (i:=0) nd_line rfl (Or.inl rfl))) (fun C s3 H3 fp pins=>pif_nil)
    (fun C s3 H3 fp pins=>(pe_callTy (call_list_ofK (K:=K) rfl) rfl mli PyProof.Rows.boot_list (pa_cons (pv 0) pa_nil)))))),?_⟩
 refine⟨_,rfl,t,CT,_,_,_,rfl,ht,TBx.cl,TBx.nL,tflds_l _ _ _,l,rfl,⟨_,hU⟩,fun D hD=>?_⟩
 have sD:=same_new hD (.lst [])
 refine comp_list (xs:=us) (fun i zs H'=>Same H H'∧H' D=some (.lst zs)∧LnH K H' zs (X.take i)∧∀x∈zs,x≠.ref D) ⟨sD,upd_same,by rw[List.take_zero];exact .nil,fun x hx=>by cases hx⟩ (fun i zs H' h=>h.2.1) (fun i zs H' _ h=>h.1.seq hU) ?_ ?_
 ·rintro i zs x H2 hx ⟨s2,e2,G2,n2⟩ C' hC'
  have hi:i < X.length:=by have:=(List.getElem?_eq_some_iff.mp hx).1;have:=hL0.l;omega
  have hc:X[i]?=some X[i]:=List.getElem?_eq_getElem hi
  obtain⟨ra,rx,rfl,era,Sra⟩:=(hL0.same s2).r i x _ hx hc
  have lz:=G2.l
  rw[List.length_take] at lz
  refine⟨keep1.1,keep1.2,iteT ?_⟩
  refine⟨_,rfl,ra,rx,rfl,.inl era,fun L hL=>?_⟩
  have sL:=same_new hL (.lst rx)
  have eL:upd H2 L (.lst rx) L=some (.lst rx):=upd_same
  generalize upd H2 L (.lst rx)=H3' at sL eL ⊢
  have e23:=sL _ _ e2
  have nLK:L≠D:=Ne.symm (ne_of_none e2 hL)
  refine⟨e23,small1000 (by omega),hC' _ _ ⟨(s2.trans sL).change hD,upd_same,?_,fun y hy=>?_⟩⟩
  ·rw[List.take_add_one,hc]
   refine((G2.same sL).snoc eL (Sra.same sL)).upd e23 fun y hy=>?_
   rcases List.mem_append.mp hy with z | z
   ·exact n2 y z
   ·have:y=.ref L:=by simpa using z
    rw[this];exact fun z=>nLK (by injection z)
  ·rcases List.mem_append.mp hy with z | z
   ·exact n2 y z
   ·have:y=.ref L:=by simpa using z
    rw[this];exact fun z=>nLK (by injection z)
 rintro zs HZ ⟨sZ,eZ,GZ,nZ⟩
 rw[hL0.l,List.take_length] at GZ
 exact q D zs HZ sZ eZ GZ
abbrev sTEnds:Stmt:=inClass (top 54) 1
theorem scTEnds:FnScope ["self"] ["self"] (defScope sTEnds):=⟨rfl,rfl,rfl,by decide +kernel,rfl,by decide +kernel,by decide +kernel⟩
theorem ok_tends {dV:Value}{CT:Addr}(F:FunD K "ends" "Table.ends" sTEnds dV f fd)(TBx:TB K mg CT)(mli:mg "list"=none):FnOk P w K mg base CX 1 f fd ["self"] (spTEnds CT K):=by
 refine F.ok scTEnds (fun vs H Q E h=>?_) (fun cdv A outer s H vs Q E hr h=>?_)
 ·obtain⟨t,es,X,cs,rfl,⟨⟨dx,p,l,a,us,ys,ht,hp,hU,hL0,ha,hC⟩⟩,q⟩:=h
  rfl
 obtain⟨t,es,X,cs,rfl,⟨⟨dx,p,l,a,us,ys,ht,hp,hU,hL0,ha,hC⟩⟩,q⟩:=h
 refine⟨_,(pss_one (ps_ret (pe_callTy call_list_of rfl mli PyProof.Rows.boot_list (pa_cons (pe_fld (pv 0) rfl) pa_nil)))),?_⟩
 refine⟨_,rfl,t,CT,_,_,_,rfl,ht,TBx.cl,TBx.nP,tflds_p _ _ _,p,_,rfl,.inl hp,fun a' ha'=>?_⟩
 exact q a' _ (same_new ha' _) ha' upd_same
abbrev sTComes:Stmt:=inClass (top 54) 3
theorem scTComes:FnScope ["self"] ["self"] (defScope sTComes):=⟨rfl,rfl,rfl,by decide +kernel,rfl,by decide +kernel,by decide +kernel⟩
theorem ok_tcomes {dV:Value}{CT:Addr}(F:FunD K "comes" "Table.comes" sTComes dV f fd)(TBx:TB K mg CT)(mli:mg "list"=none):FnOk P w K mg base CX 1 f fd ["self"] (spTComes CT K):=by
 refine F.ok scTComes (fun vs H Q E h=>?_) (fun cdv A outer s H vs Q E hr h=>?_)
 ·obtain⟨t,es,X,cs,rfl,⟨⟨dx,p,l,a,us,ys,ht,hp,hU,hL0,ha,hC⟩⟩,q⟩:=h
  rfl
 obtain⟨t,es,X,cs,rfl,⟨⟨dx,p,l,a,us,ys,ht,hp,hU,hL0,ha,hC⟩⟩,q⟩:=h
 refine⟨_,(pss_one (ps_ret (pe_callTy call_list_of rfl mli PyProof.Rows.boot_list (pa_cons (pe_fld (pv 0) rfl) pa_nil)))),?_⟩
 refine⟨_,rfl,t,CT,_,_,_,rfl,ht,TBx.cl,TBx.nA,tflds_a _ _ _,a,_,rfl,.inl ha,fun a' ha'=>?_⟩
 have sa:=same_new ha' (.lst ys)
 exact q a' _ _ sa upd_same (hC.same sa)
abbrev sTInit:Stmt:=inClass (top 54) 0
theorem scTInit:FnScope ["self","ends","matrix","comes"] ["self","ends","matrix","comes"] (defScope sTInit):=⟨rfl,rfl,rfl,by decide +kernel,rfl,by decide +kernel,by decide +kernel⟩
theorem op_notIn_seqK {X:Cx}{K:PySem.W.Frag}(h:X.K=K):OpR X (compareOp .NotIn) (rIn K true):=by subst h;exact op_notIn_seq
theorem eqV_int (p c:Int):eqV (.int p) (.int c)=decide (p=c):=by unfold eqV;first | rfl | simp
theorem inV_ints (c:Int):∀ps:List Int,inV (.int c) (ps.map V.int)=decide (c∈ps)
 | []=>rfl
 |p :: ps=>by
  have ih:=inV_ints c ps
  show (eqV (.int p) (.int c) || inV (.int c) (ps.map V.int))=_
  rw[ih,eqV_int]
  by_cases h:p=c
  ·subst h;simp
  ·have h':c≠p:=fun z=>h z.symm
   simp[h,h']
theorem flat_ints:∀ps:List Int,(ps.map V.int).all flatV=true
 | []=>rfl
 |p :: ps=>by show (true && (ps.map V.int).all flatV)=true;rw[flat_ints ps];rfl
abbrev nats (ks:List Nat):List V:=ks.map fun (i:Nat)=>V.int (i:Int)
def pickX (ks:List Nat)(X:List (List Mq.Q2)):List (List Mq.Q2):=ks.map fun i=>ks.map fun j=>Mq.ix2 X i j
def spPicked (K:PySem.W.Frag):Sp:=fun vs H Q _=>∃(g l:Addr) (us:List V) (X:List (List Mq.Q2)) (ks:List Nat) (w:Nat),vs=[.ref g,.ref l]∧SqL K H g us∧Lns K H us X∧X.length=w∧(∀row∈X,row.length=w)∧SqL K H l (nats ks)∧(∀k∈ks,k < w)∧ks.length≤100∧∀l' zs H',Same H H'→H' l'=some (.lst zs)→LnH K H' zs (pickX ks X)→Q (.ref l') H'
theorem nd_line_places_matrix:(["line","places","matrix"]:List Str).Nodup:=by decide +kernel
theorem nd_column_matrix_line:(["column","matrix","line"]:List Str).Nodup:=by decide +kernel
abbrev sPick:Stmt:=top 56
theorem scPick:FnScope ["matrix","places"] ["matrix","places"] (defScope sPick):=⟨rfl,rfl,rfl,by decide +kernel,rfl,by decide +kernel,by decide +kernel⟩
theorem ok_pick {dV:Value}(F:FunD K "picked" "picked" sPick dV f fd) :
  FnOk P w K mg base CX 1 f fd ["matrix","places"] (spPicked K):=by
 refine F.ok scPick (fun vs H Q E h=>?_) (fun cdv A outer s H vs Q E hr h=>?_)
 ·obtain⟨g,l,us,X,ks,w',rfl,hU,hX,lX,wX,hK,hk,h100,q⟩:=h
  rfl
 obtain⟨g,l,us,X,ks,w',rfl,hU,hX,lX,wX,hK,hk,h100,q⟩:=h
 refine⟨_,(pss_one (ps_ret (pe_comp1 (nl:=1) (fr:=[1,0]) (Nc:=["line","places","matrix"]) (cl:=[("places",s.heap.objs.size+2),("matrix",s.heap.objs.size+1)]) (x0:="line") rfl ⟨rfl,rfl,by decide +kernel,fun _=>rfl,fun _=>rfl,rfl,(sub_cons rfl (sub_cons rfl (sub_nil))),fun _=>has_of rfl,rfl,fun i n h=>match i,h with | 0,h=>by cases h;exact⟨1,rfl,rfl,rfl,rfl,.inl rfl⟩ | 1,h=>by cases h;exact⟨0,rfl,rfl,rfl,rfl,.inl rfl⟩ | k+2,h=>by rw[show 1+(k+2)=k+3 by omega] at h;cases h⟩
    (pi_list (pv 1)) (fun C s3 H3 fp pins=>(pg_name (i:=0) nd_line_places_matrix rfl (Or.inr rfl))) (fun C s3 H3 fp pins=>pif_nil)
    (fun C s3 H3 fp pins=>(pe_comp (nl:=1) (fr:=[2,0]) (Nc:=["column","matrix","line"]) (cl:=[("matrix",s.heap.objs.size+1),("line",C+1)]) rfl ⟨rfl,rfl,by decide +kernel,by decide +kernel,(sub_cons rfl (sub_cons rfl (sub_nil))),has_of rfl,rfl,fun i n h=>match i,h with | 0,h=>by cases h;exact⟨2,rfl,rfl,rfl,rfl,.inl rfl⟩ | 1,h=>by cases h;exact⟨0,rfl,rfl,rfl,rfl,.inl rfl⟩ | k+2,h=>by rw[show 1+(k+2)=k+3 by omega] at h;cases h⟩
    (pi_listK (K:=K) rfl (pv 1)) (fun C s3 H3 fp pins=>(pg_name (i:=0) nd_column_matrix_line rfl (Or.inl rfl))) (fun C s3 H3 fp pins=>pif_nil)
    (fun C s3 H3 fp pins=>(pe_ix (ix_listK (K:=K) rfl) (pe_ix (ix_listK (K:=K) rfl) (pv 1) (pv 2) (fun _ _=>rfl)) (pv 0) (fun _ _=>rfl)))))))),?_⟩
 have ek:∀i x,(nats ks)[i]?=some x→i < ks.length∧x=.int (ks.getD i 0:Nat)∧ks[i]?=some (ks.getD i 0)∧ks.getD i 0 < w':=fun i x h=>by
  rw[List.getElem?_map] at h
  cases e:ks[i]? with
  |none=>rw[e] at h;cases h
  |some k=>
   rw[e] at h
   cases h
   have g:ks.getD i 0=k:=by rw[List.getD_eq_getElem?_getD,e];rfl
   rw[g]
   exact⟨(List.getElem?_eq_some_iff.mp e).1,rfl,rfl,hk k (List.mem_of_getElem? e)⟩
 refine⟨_,rfl,l,rfl,⟨_,hK⟩,fun D hD=>?_⟩
 have sD:=same_new hD (.lst [])
 refine comp_list (xs:=nats ks) (fun i zs H'=>Same H H'∧H' D=some (.lst zs)∧LnH K H' zs ((pickX ks X).take i)∧∀x∈zs,x≠.ref D) ⟨sD,upd_same,by rw[List.take_zero];exact .nil,fun x hx=>by cases hx⟩ (fun i zs H' h=>h.2.1) (fun i zs H' _ h=>h.1.seq hK) ?_ ?_
 ·rintro i zs x H1 hx ⟨s1,e1,F1,n1⟩ C hC
  obtain⟨hi,rfl,ei,li⟩:=ek i x hx
  obtain⟨u,xs,eu,hu,fu⟩:=hX.at (Mq.getL (show ks.getD i 0 < X.length by omega))
  have wr:=wX _ (List.mem_of_getElem? (Mq.getL (show ks.getD i 0 < X.length by omega)))
  have lz:=F1.l
  rw[List.length_take] at lz
  have lp:(pickX ks X).length=ks.length:=by unfold pickX;simp
  rw[lp] at lz
  refine⟨keep1.1,keep1.2,iteT ?_⟩
  refine⟨_,rfl,l,rfl,⟨_,s1.seq hK⟩,fun L hL=>?_⟩
  have sL:=same_new hL (.lst [])
  refine comp_list (xs:=nats ks) (fun j zs' H'=>Same H1 H'∧H' L=some (.lst zs')∧Fqs K H' zs' ((ks.map fun j=>Mq.ix2 X (ks.getD i 0) j).take j)) ⟨sL,upd_same,.nil⟩ (fun j zs' H' h=>h.2.1) (fun j zs' H' _ h=>h.1.seq (s1.seq hK)) ?_ ?_
  ·rintro j zs' y H2 hy ⟨s2,e2,F2⟩ C' hC'
   obtain⟨hj,rfl,ej,lj⟩:=ek j y hy
   obtain⟨v,ev,fv⟩:=fu.at (Mq.getQ1 (show ks.getD j 0 < (X.getD (ks.getD i 0) []).length by omega))
   have lz':=F2.length
   rw[List.length_take,List.length_map] at lz'
   refine⟨keep1.1,keep1.2,iteT ?_⟩
   have s02:=s1.trans s2
   refine⟨_,rfl,_,rfl,g,us,_,_,rfl,rfl,s02.seq hU,atI_nat eu,_,rfl,u,xs,_,_,rfl,rfl,s02.seq hu,atI_nat ev,?_⟩
   refine⟨e2,small1000 (by omega),hC' _ _ ⟨s2.change hL,upd_same,?_⟩⟩
   rw[List.take_add_one,List.getElem?_map,ej]
   exact(F2.app (.cons (s02.seqT fv) .nil)).upd e2
  rintro zs' H2 ⟨s2,e2,F2⟩
  rw[List.length_map,List.take_of_length_le (by simp)] at F2
  have eA:=s2 _ _ e1
  have nLD:L≠D:=fun z=>by rw[z,e1] at hL;cases hL
  refine⟨eA,small1000 (by omega),hC _ _ ⟨(s1.trans s2).change hD,upd_same,?_,fun z hz=>?_⟩⟩
  ·have:(pickX ks X)[i]?=some (ks.map fun j=>Mq.ix2 X (ks.getD i 0) j):=by unfold pickX;rw[List.getElem?_map,ei];rfl
   rw[List.take_add_one,this]
   refine((F1.same s2).snoc e2 F2).upd eA fun z hz=>?_
   rcases List.mem_append.mp hz with c | c
   ·exact n1 z c
   ·have:z=.ref L:=by simpa using c
    rw[this];exact fun c=>nLD (by injection c)
  ·rcases List.mem_append.mp hz with c | c
   ·exact n1 z c
   ·have:z=.ref L:=by simpa using c
    rw[this];exact fun c=>nLD (by injection c)
 rintro zs H1 ⟨s1,e1,F1,n1⟩
 rw[List.length_map,List.take_of_length_le (by unfold pickX;simp)] at F1
 exact q D zs H1 s1 e1 F1
theorem pe_bmK {X:Cx}{K:PySem.W.Frag}(hK:X.K=K){o e:Expr}{es:List Expr}{to:TE}{t:TA}{name:Str}{apos cpos:Pos}{T id:String}{r:V→List V→Hp→VK→Prop}(pa:PySem.PlainAttrs T)(slot:PySem.Slot T name id)(hty:typeOf (.builtin id)=pure (.type "method_descriptor"))(hm:MtR X id r)(ho:PE X o to)(ha:PA X (e :: es) t)(hbase:attributeBase o name X.env (eval o X.env)=eval o X.env:=by rfl)(hfew:((backTo cpos (starEach (e :: es) X.env)).all (fun x=>!x.1) && (backToKw cpos (keywordEach [] X.env)).all (fun x=>x.1.isSome)
   && decide ((e :: es).length+([]:List Keyword).length+(if ([]:List Keyword).isEmpty then 0 else 1) < 30))=true:=by rfl)(hline:(apos.endLine == cpos.line)=true:=by rfl)(hs:starEach (e :: es) X.env=(false,eval e X.env) :: starEach es X.env:=by rfl)(hplain:(backTo cpos (starEach es X.env)).any (·.1)=false:=by rfl) :
  PE X (.Call (.Attribute o name apos) (e :: es) [] cpos) (tBM K T r to t):=by subst hK;exact pe_bm pa slot hty hm ho ha hbase hfew hline hs hplain
theorem cut_last (xs:List V)(h:1≤xs.length):cutV xs none (some (-1))=xs.take (xs.length - 1):=by
 unfold cutV
 have h1:HT.sIx xs.length 0 none=0:=rfl
 have h2:HT.sIx xs.length xs.length (some (-1))=xs.length - 1:=by simp[HT.sIx];omega
 rw[h1,h2];rfl
theorem at_last {xs:List V}{n:Nat}{v:V}(hl:xs.length=n+1)(h:xs[n]?=some v):atI xs (-1)=some v:=by
 have e:xs=xs.take n++[v]:=by
  have:=List.take_append_drop n xs
  have d:xs.drop n=[v]:=by
   refine List.ext_getElem? fun i=>?_
   rw[List.getElem?_drop]
   cases i with
   |zero=>rw[Nat.add_zero,h];rfl
   |succ j=>rw[List.getElem?_eq_none (by omega)];simp
  rw[d] at this
  exact this.symm
 rw[e];exact atI_last _ _
theorem same_make {H H':Hp}{x dx:Addr}{C:Addr}(hx:H x=none)(hd:H dx=none)(nd:dx≠x)(s:SameX x (upd (upd H dx (.own x)) x (.ins C dx [])) H'):Same H H':=fun b o h=>by
 have n1:b≠x:=fun z=>by rw[z,hx] at h;cases h
 have n2:b≠dx:=fun z=>by rw[z,hd] at h;cases h
 exact s b o (by rw[upd_ne n1,upd_ne n2];exact h) n1
theorem seq_make {K:PySem.W.Frag}{H:Hp}{x dx:Addr}{C:Addr}(hx:H x=none)(hd:H dx=none)(nd:dx≠x):Same H (upd (upd H dx (.own x)) x (.ins C dx [])):=fun b o h=>by
 have n1:b≠x:=fun z=>by rw[z,hx] at h;cases h
 have n2:b≠dx:=fun z=>by rw[z,hd] at h;cases h
 rw[upd_ne n1,upd_ne n2];exact h
def upTo (m:Nat):List Int:=(List.range m).map fun (i:Nat)=>(i:Int)
theorem ints_len (m:Nat):(upTo m).length=m:=by unfold upTo;rw[List.length_map,List.length_range]
theorem ints_at {m i:Nat}(h:i < m):(upTo m)[i]?=some (i:Int):=by unfold upTo;rw[List.getElem?_map,List.getElem?_range h];rfl
theorem ints_mem {m i:Nat}(h:i < m):(i:Int)∈upTo m:=List.mem_of_getElem? (ints_at h)
theorem ints_nd (m:Nat):(upTo m).Nodup:=by
 unfold upTo
 refine List.pairwise_map.mpr ((List.nodup_range (n:=m)).imp fun {a b} h z=>h ?_)
 omega
theorem ints_idx {m i:Nat}(h:i < m):(upTo m).idxOf (i:Int)=i:=by
 have hl:i < (upTo m).length:=by rw[ints_len];exact h
 have e:=ints_at h
 rw[List.getElem?_eq_getElem hl] at e
 injection e with e
 rw[← e]
 exact(ints_nd m).idxOf_getElem i hl
structure Sq (m n:Nat) (X:List (List Mq.Q2)) (cs:List Mq.Q2):Prop where
 m1:1≤m
 m20:m≤20
 lX:X.length=m
 rX:∀row∈X,row.length=m∧∀p∈row,Mq.Low p∧Mq.Bd n p
 lc:cs.length=m
 rc:∀p∈cs,Mq.Low p∧Mq.Bd n p
 bits:10+n+n*(m+1)≤8000
def znX (m:Nat)(X:List (List Mq.Q2))(cs:List Mq.Q2):List (List Mq.Q2):=(List.range m).map fun i=>X.getD i []++[cs.getD i Mq.z0]
theorem znX_len {m:Nat}{X:List (List Mq.Q2)}{cs:List Mq.Q2}:(znX m X cs).length=m:=by unfold znX;rw[List.length_map,List.length_range]
theorem znX_at {m i:Nat}{X:List (List Mq.Q2)}{cs:List Mq.Q2}(h:i < m):(znX m X cs)[i]?=some (X.getD i []++[cs.getD i Mq.z0]):=by unfold znX;rw[List.getElem?_map,List.getElem?_range h];rfl
theorem Sq.rd {m n:Nat}{X:List (List Mq.Q2)}{cs:List Mq.Q2}(h:Sq m n X cs):Rd0 n (m+1) (znX m X cs):=by
 refine⟨by rw[znX_len];have:=h.m20;omega,by have:=h.m20;omega,fun row hr=>?_,h.bits⟩
 obtain⟨i,hi,rfl⟩:=List.mem_map.mp hr
 have hi:=List.mem_range.mp hi
 obtain⟨a,b⟩:=h.rX _ (List.mem_of_getElem? (Mq.getL (show i < X.length by rw[h.lX];exact hi)))
 refine⟨by rw[List.length_append,a];rfl,fun p hp=>?_⟩
 rcases List.mem_append.mp hp with z | z
 ·exact b p z
 ·rw[List.mem_singleton.mp z]
  exact h.rc _ (List.mem_of_getElem? (Mq.getQ1 (show i < cs.length by rw[h.lc];exact hi)))
theorem pick_id {m n:Nat}{X:List (List Mq.Q2)}{cs:List Mq.Q2}(h:Sq m n X cs):pickX (List.range m) X=X:=by
 unfold pickX
 refine List.ext_getElem? fun i=>?_
 rw[List.getElem?_map]
 by_cases hi:i < m
 ·rw[List.getElem?_range hi,Mq.getL (show i < X.length by rw[h.lX];exact hi)]
  obtain⟨a,_⟩:=h.rX _ (List.mem_of_getElem? (Mq.getL (show i < X.length by rw[h.lX];exact hi)))
  show some _=some _
  congr 1
  refine List.ext_getElem? fun j=>?_
  rw[List.getElem?_map]
  by_cases hj:j < m
  ·rw[List.getElem?_range hj,Mq.getQ1 (show j < (X.getD i []).length by rw[a];exact hj)]
   rfl
  ·rw[List.getElem?_eq_none (by rw[List.length_range];omega),List.getElem?_eq_none (by rw[a];omega)]
   rfl
 ·rw[List.getElem?_eq_none (by rw[List.length_range];omega),List.getElem?_eq_none (by rw[h.lX];omega)]
  rfl
def spNar0 (CT:Addr)(K:PySem.W.Frag):Sp:=fun vs H Q _=>∃(t b:Addr) (m n:Nat) (X:List (List Mq.Q2)) (cs:List Mq.Q2),vs=[.ref t,.ref b]∧TabAt CT K H t (upTo m) X cs∧Sq m n X cs∧H b=some (.lst ((upTo m).map V.int))∧∀x H',Same H H'→TabAt CT K H' x (upTo m) X cs→Q (.ref x) H'
theorem nd_end_ends:(["end","ends"]:List Str).Nodup:=by decide +kernel
theorem nd_point_table:(["point","table"]:List Str).Nodup:=by decide +kernel
theorem nd_line_place_table:(["line","place","table"]:List Str).Nodup:=by decide +kernel
abbrev sNar:Stmt:=top 55
theorem scNar:FnScope ["table","ends","inner","order","lines","left"] ["table","ends"] (defScope sNar):=⟨rfl,rfl,rfl,by decide +kernel,rfl,by decide +kernel,by decide +kernel⟩
theorem ok_nar {dV:Value}(F:FunD K "narrowed" "narrowed" sNar dV f fd){CT:Addr}(TBx:TB K mg CT)(mz:mg "zip"=none)(ml:mg "len"=none){gTI:Addr}{gdTI:FuncData}(GTI:FnOk P w K mg base CX0 1 gTI gdTI ["self","ends","matrix","comes"] (spTInit CT K))(bTI:Binds K gdTI ["self","ends","matrix","comes"] [])(MT:Mk K CT gTI)(G1:FnOk P w K mg base CX0 1 g1 gd1 ["matrix","places"] (spPicked K))(b1:Binds K gd1 ["matrix","places"] [])(k1:PySem.W.keepIn K (.ref g1)=true)(m1:mg "picked"=some (.ref g1))(G2:FnOk P w K mg base CX0 4 g2 gd2 ["matrix","count"] (spRed0 K))(b2:Binds K gd2 ["matrix","count"] [])(k2:PySem.W.keepIn K (.ref g2)=true)(m2:mg "reduced"=some (.ref g2)) :
  FnOk P w K mg base CX 5 f fd ["table","ends"] (spNar0 CT K):=by
 refine F.ok scNar (fun vs H Q E h=>?_) (fun cdv A outer s H vs Q E hr h=>?_)
 ·obtain⟨t,b,m,n,X,cs,rfl,TA,SQ,hb,q⟩:=h
  rfl
 obtain⟨t,b,m,n,X,cs,rfl,TA,SQ,hb,q⟩:=h
 have r1:=hr.mono (show 1≤4 by omega)
 have r2:=hr.mono (show 2≤4 by omega)
 have hu:=hu_of hr
 refine⟨_,(pss_cons (ps_setC (i:=2) (nl:=1) (fr:=[1]) (Nc:=["end","ends"]) (cl:=[("ends",s.heap.objs.size+2)]) scNar.nd rfl rfl rfl ⟨rfl,rfl,by decide +kernel,by decide +kernel,(sub_cons rfl (sub_nil)),has_of rfl,rfl,fun i n h=>match i,h with | 0,h=>by cases h;exact⟨1,rfl,rfl,rfl,rfl,.inl rfl⟩ | k+1,h=>by rw[show 1+(k+1)=k+2 by omega] at h;cases h⟩
    (pi_list (pe_fld (pv 0) rfl)) (fun C s3 H3 fp pins=>(pg_name (i:=0) nd_end_ends rfl (Or.inl rfl))) (fun C s3 H3 fp pins=>(pif_one (pt_cmpR (op_notIn_seqK (K:=K) rfl) (pv 0) (pv 1) rfl)))
    (fun C s3 H3 fp pins=>(pv 0)) rfl)
  (pss_cons (ps_setC (i:=3) (nl:=1) (fr:=[0]) (Nc:=["point","table"]) (cl:=[("table",s.heap.objs.size+1)]) scNar.nd rfl rfl rfl ⟨rfl,rfl,by decide +kernel,by decide +kernel,(sub_cons rfl (sub_nil)),has_of rfl,rfl,fun i n h=>match i,h with | 0,h=>by cases h;exact⟨0,rfl,rfl,rfl,rfl,.inl rfl⟩ | k+1,h=>by rw[show 1+(k+1)=k+2 by omega] at h;cases h⟩
    (pi_list (pe_op op_cat (pv 2) (pv 1))) (fun C s3 H3 fp pins=>(pg_name (i:=0) nd_point_table rfl (Or.inl rfl))) (fun C s3 H3 fp pins=>pif_nil)
    (fun C s3 H3 fp pins=>(pe_bmK (K:=K) rfl PySem.F.plainAttrs_list PySem.F.slot_list_index PySem.F.type_list_index (mt_indexK (K:=K) rfl) (pe_fldK (K:=K) rfl (pv 1) rfl) (pa_cons (pv 0) pa_nil))) rfl)
  (pss_cons (ps_setC (i:=4) (nl:=2) (fr:=[0]) (Nc:=["line","place","table"]) (cl:=[("table",s.heap.objs.size+1)]) (g:=(gTup K 2 (gCons (gName 0) (gCons (gName 1) gNil)))) scNar.nd rfl rfl rfl ⟨rfl,rfl,by decide +kernel,by decide +kernel,(sub_cons rfl (sub_nil)),has_of rfl,rfl,fun i n h=>match i,h with | 0,h=>by cases h;exact⟨0,rfl,rfl,rfl,rfl,.inl rfl⟩ | k+1,h=>by rw[show 2+(k+1)=k+3 by omega] at h;cases h⟩
    (pi_zip rfl mz rfl (pa_cons (pe_call G1 r1 rfl m1 k1 b1 .nil pass0 (pa_cons (pe_fld (pv 0) rfl) (pa_cons (pv 3) pa_nil))) (pa_cons (pv 3) pa_nil))) (fun C s3 H3 fp pins=>(pg_tup rfl (pgs_cons (pg_name (i:=0) nd_line_place_table rfl (Or.inl rfl)) (pgs_cons (pg_name (i:=1) nd_line_place_table rfl (Or.inl rfl)) pgs_nil)))) (fun C s3 H3 fp pins=>pif_nil)
    (fun C s3 H3 fp pins=>(pe_op op_cat (pv 0) (pe_lst (pa_cons (pe_ix (ix_listK (K:=K) rfl) (pe_fldK (K:=K) rfl (pv 2) rfl) (pv 1) (fun _ _=>rfl)) pa_nil)))) rfl)
  (pss_cons (ps_set (i:=5) scNar.nd rfl (Or.inl rfl) (pe_call G2 hr rfl m2 k2 b2 .nil pass0 (pa_cons (pv 4) (pa_cons (pe_callB call_len_seq rfl ml PySem.boot_len (pa_cons (pv 2) pa_nil)) pa_nil))))
  (pss_one (ps_ret (pe_make MT GTI r2 rfl TBx.mT bTI .nil pass0 (pa_cons (pv 1) (pa_cons (pe_comp (nl:=1) (fr:=[]) (Nc:=["line"]) (cl:=[]) rfl ⟨rfl,rfl,by decide +kernel,by decide +kernel,fun x c h=>(by cases h),has_of rfl,rfl,fun i n h=>(by simp at h)⟩
    (pi_list (pv 5)) (fun C s3 H3 fp pins=>(pg_name (i:=0) nd_line rfl (Or.inl rfl))) (fun C s3 H3 fp pins=>pif_nil)
    (fun C s3 H3 fp pins=>(pe_slice (sl_listK (K:=K) rfl) (pv 0) po_none (po_some (pe_un un_neg pe_int))))) (pa_cons (pe_comp (nl:=1) (fr:=[]) (Nc:=["line"]) (cl:=[]) rfl ⟨rfl,rfl,by decide +kernel,by decide +kernel,fun x c h=>(by cases h),has_of rfl,rfl,fun i n h=>(by simp at h)⟩
    (pi_list (pv 5)) (fun C s3 H3 fp pins=>(pg_name (i:=0) nd_line rfl (Or.inl rfl))) (fun C s3 H3 fp pins=>pif_nil)
    (fun C s3 H3 fp pins=>(pe_ix (ix_listK (K:=K) rfl) (pv 0) (pe_un un_neg pe_int) (fun _ _=>rfl)))) pa_nil)))))))))),?_⟩
 obtain⟨⟨dx,p,l,a,us,zc,ht,hp,hU,hL0,ha,hC⟩⟩:=TA
 have m1:=SQ.m1
 have m20:=SQ.m20
 have lX:=SQ.lX
 have lc:=SQ.lc
 have li:=ints_len m
 have gi:∀{i:Nat} {x:V},((upTo m).map V.int)[i]?=some x→i < m∧x=.int (i:Int):=fun {i x} h=>by
  have hl:=(List.getElem?_eq_some_iff.mp h).1
  rw[List.length_map,li] at hl
  rw[List.getElem?_map,ints_at hl] at h
  cases h
  exact⟨hl,rfl⟩
 refine⟨_,rfl,t,CT,_,_,_,rfl,ht,TBx.cl,TBx.nP,tflds_p _ _ _,p,rfl,⟨_,hp⟩,fun D1 hD1=>?_⟩
 have sD1:=same_new hD1 (.lst [])
 refine comp_list (xs:=(upTo m).map V.int) (fun i zs H'=>Same H H'∧H' D1=some (.lst zs)∧zs=[]) ⟨sD1,upd_same,rfl⟩ (fun i zs H' h=>h.2.1) (fun i zs H' _ h=>h.1.seq hp) ?_ ?_
 ·rintro i zs x H1 hx ⟨s1,e1,rfl⟩ C hC
  obtain⟨hi,rfl⟩:=gi hx
  refine⟨keep1.1,keep1.2,_,rfl,_,rfl,b,_,rfl,.inl (SqL.of (s1 _ _ hb)),rfl,flat_ints _,?_⟩
  rw[inV_ints,decide_eq_true (ints_mem hi)]
  refine⟨_,rfl,L2.ifF rfl ?_⟩
  exact hC _ _ ⟨s1,e1,rfl⟩
 rintro zs1 H1 ⟨s1,e1,rfl⟩
 refine⟨_,rfl,_,rfl,D1,b,_,_,rfl,rfl,e1,s1 _ _ hb,?_,fun B hB=>?_⟩
 ·rw[List.length_map,List.length_nil,li]
  exact Nat.le_trans (show _≤100 by omega) (by decide)
 rw[List.nil_append]
 have s2:=same_new hB (.lst ((upTo m).map V.int))
 have e2:upd H1 B (.lst ((upTo m).map V.int)) B=some (.lst ((upTo m).map V.int)):=upd_same
 generalize upd H1 B (.lst ((upTo m).map V.int))=H2 at s2 e2 ⊢
 have s02:=s1.trans s2
 refine⟨B,rfl,⟨_,SqL.of e2⟩,fun D3 hD3=>?_⟩
 have sD3:=same_new hD3 (.lst [])
 refine comp_list (xs:=(upTo m).map V.int) (fun i zs H'=>Same H2 H'∧H' D3=some (.lst zs)∧zs=(nats (List.range m)).take i) ⟨sD3,upd_same,rfl⟩ (fun i zs H' h=>h.2.1) (fun i zs H' _ h=>h.1.seq (SqL.of e2)) ?_ ?_
 ·rintro i zs x H3 hx ⟨s3,e3,rfl⟩ C hC
  obtain⟨hi,rfl⟩:=gi hx
  have s03:=s02.trans s3
  refine⟨keep1.1,keep1.2,iteT ?_⟩
  refine⟨_,rfl,t,CT,_,_,_,rfl,s03 _ _ ht,TBx.cl,TBx.nP,tflds_p _ _ _,.inl ⟨rfl,_,s03.seq hp⟩,_,rfl,p,upTo m,_,rfl,rfl,s03.seq hp,ints_mem hi,ints_layable (fun e he=>?_) (by omega),?_⟩
  ·obtain⟨j,hj,rfl⟩:=List.mem_map.mp he
   have:=List.mem_range.mp hj
   omega
  rw[ints_idx hi]
  refine⟨e3,small1000 (by rw[List.length_take];omega),hC _ _ ⟨s3.change hD3,upd_same,?_⟩⟩
  rw[List.take_add_one,List.getElem?_map,List.getElem?_range hi];rfl
 rintro zs3 H3 ⟨s3,e3,rfl⟩
 rw[List.length_map,li,List.take_of_length_le (by rw[List.length_map,List.length_range];omega)] at e3
 have s03:=s02.trans s3
 refine⟨_,rfl,t,CT,_,_,_,rfl,s03 _ _ ht,TBx.cl,TBx.nL,tflds_l _ _ _,_,rfl,l,D3,us,X,List.range m,m,rfl,s03.seq hU,hL0.same s03,lX,fun row hr=>(SQ.rX row hr).1,SqL.of e3,fun j hj=>List.mem_range.mp hj,by rw[List.length_range];omega,fun P zP H4 s4 e4 LP=>?_⟩
 rw[pick_id SQ] at LP
 have s04:=s03.trans s4
 have lPz:zP.length=m:=by rw[LP.l,lX]
 refine⟨_,rfl,P,D3,rfl,⟨_,SqL.of e4⟩,⟨_,SqL.of (s4 _ _ e3)⟩,fun D5 hD5=>?_⟩
 have sD5:=same_new hD5 (.lst [])
 refine comp_zip (xs:=zP) (ys:=nats (List.range m)) (fun i zs H'=>Same H4 H'∧H' D5=some (.lst zs)∧LnH K H' zs ((znX m X cs).take i)∧∀x∈zs,x≠.ref D5) ⟨sD5,upd_same,by rw[List.take_zero];exact .nil,fun x hx=>by cases hx⟩ (fun i zs H' h=>h.2.1) (fun i zs H' _ h=>⟨h.1.seq (SqL.of e4),h.1.seq (SqL.of (s4 _ _ e3))⟩) ?_ ?_
 ·rintro i zs x y H5 T1 ex ey ⟨s5,e5,F5,n5⟩ hT C hC'
  have hi:i < m:=by have:=(List.getElem?_eq_some_iff.mp ex).1;omega
  have ey':y=.int (i:Int):=by
   rw[List.getElem?_map,List.getElem?_range hi] at ey
   cases ey;rfl
  subst ey'
  have gX:=Mq.getL (show i < X.length by omega)
  obtain⟨u,xs,rfl,hu,fu⟩:=LP.r i x _ ex gX
  obtain⟨v,ev,fv⟩:=hC.at (Mq.getQ1 (show i < cs.length by omega))
  have lz:=F5.l
  rw[List.length_take,znX_len] at lz
  have sT:=same_new hT (.tup [.ref u,.int (i:Int)])
  refine⟨T1,_,rfl,SqT.of upd_same,rfl,_,_,rfl,_,_,rfl,rfl,keep2.1,keep2.2,iteT ?_⟩
  generalize upd H5 T1 (.tup [.ref u,.int (i:Int)])=H6 at sT ⊢
  have s46:=s5.trans sT
  have s06:=s04.trans s46
  refine⟨_,rfl,_,rfl,t,CT,_,_,_,rfl,s06 _ _ ht,TBx.cl,TBx.nA,tflds_a _ _ _,_,rfl,a,zc,_,_,rfl,rfl,s06.seq ha,atI_nat ev,(by show 1≤sizeLine;decide),fun L hL=>?_⟩
  have sL:=same_new hL (.lst [V.ref v])
  have eL:upd H6 L (.lst [V.ref v]) L=some (.lst [V.ref v]):=upd_same
  generalize upd H6 L (.lst [V.ref v])=H7 at sL eL ⊢
  have lxs:=fu.length
  rw[(SQ.rX _ (List.mem_of_getElem? gX)).1] at lxs
  refine⟨u,L,xs,[V.ref v],rfl,rfl,sL _ _ (s46 _ _ hu),eL,?_,fun M hM=>?_⟩
  ·rw[lxs]
   exact Nat.le_trans (show _≤100 by simp only[List.length_cons,List.length_nil];omega) (by decide)
  have sM:=same_new hM (.lst (xs++[V.ref v]))
  have eM:upd H7 M (.lst (xs++[V.ref v])) M=some (.lst (xs++[V.ref v])):=upd_same
  generalize upd H7 M (.lst (xs++[V.ref v]))=H8 at sM eM ⊢
  have s58:=sT.trans (sL.trans sM)
  have eA:=s58 _ _ e5
  have nMD:M≠D5:=fun z=>by rw[z,sL _ _ (sT _ _ e5)] at hM;cases hM
  refine⟨eA,small1000 (by omega),hC' _ _ ⟨(s5.trans s58).change hD5,upd_same,?_,fun z hz=>?_⟩⟩
  ·rw[List.take_add_one,znX_at hi]
   refine((F5.same s58).snoc eM ((fu.same (s5.trans s58)).app (.cons ((s04.trans (s5.trans s58)).seqT fv) .nil))).upd eA fun z hz=>?_
   rcases List.mem_append.mp hz with c | c
   ·exact n5 z c
   ·have:z=.ref M:=by simpa using c
    rw[this];exact fun c=>nMD (by injection c)
  ·rcases List.mem_append.mp hz with c | c
   ·exact n5 z c
   ·have:z=.ref M:=by simpa using c
    rw[this];exact fun c=>nMD (by injection c)
 rintro zs5 H5 ⟨s5,e5,F5,n5⟩
 rw[lPz,List.length_map,List.length_range,Nat.min_self,List.take_of_length_le (by rw[znX_len];omega)] at F5
 have s05:=s04.trans s5
 refine⟨_,rfl,_,rfl,D1,_,rfl,.inl (SqL.of ((s2.trans (s3.trans (s4.trans s5))) _ _ e1)),D5,zs5,znX m X cs,n,m+1,rfl,SqL.of e5,F5.lns,SQ.rd,fun R zR H6 s6 e6 LR=>?_⟩
 have s06:=s05.trans s6
 have lR:=LR.l
 rw[znX_len] at lR
 have rowR:∀{i:Nat},i < m→(X.getD i []).length=m:=fun hi=>(SQ.rX _ (List.mem_of_getElem? (Mq.getL (by omega)))).1
 refine⟨_,rfl,_,rfl,R,rfl,⟨_,SqL.of e6⟩,fun D7 hD7=>?_⟩
 have sD7:=same_new hD7 (.lst [])
 refine comp_list (xs:=zR) (fun i zs H'=>Same H6 H'∧H' D7=some (.lst zs)∧LnH K H' zs (X.take i)∧∀x∈zs,x≠.ref D7) ⟨sD7,upd_same,by rw[List.take_zero];exact .nil,fun x hx=>by cases hx⟩ (fun i zs H' h=>h.2.1) (fun i zs H' _ h=>h.1.seq (SqL.of e6)) ?_ ?_
 ·rintro i zs x H7 hx ⟨s7,e7,F7,n7⟩ C hC'
  have hi:i < m:=by have:=(List.getElem?_eq_some_iff.mp hx).1;omega
  obtain⟨u,xs,rfl,hu,fu⟩:=LR.r i x _ hx (znX_at hi)
  have lxs:=fu.length
  rw[List.length_append,rowR hi] at lxs
  simp only[List.length_cons,List.length_nil] at lxs
  have lz:=F7.l
  rw[List.length_take,lX] at lz
  refine⟨keep1.1,keep1.2,iteT ?_⟩
  refine⟨_,rfl,_,rfl,_,rfl,u,xs,rfl,s7.seq hu,fun L hL=>?_⟩
  rw[cut_last xs (by omega),show xs.length - 1=m by omega]
  have sL:=same_new hL (.lst (xs.take m))
  have eL:upd H7 L (.lst (xs.take m)) L=some (.lst (xs.take m)):=upd_same
  generalize upd H7 L (.lst (xs.take m))=H8 at sL eL ⊢
  have eA:=sL _ _ e7
  have nLD:L≠D7:=fun z=>by rw[z,e7] at hL;cases hL
  have ft:=(fu.same (s7.trans sL)).take m
  rw[List.take_left' (rowR hi)] at ft
  refine⟨eA,small1000 (by omega),hC' _ _ ⟨(s7.trans sL).change hD7,upd_same,?_,fun z hz=>?_⟩⟩
  ·rw[List.take_add_one,Mq.getL (show i < X.length by omega)]
   refine((F7.same sL).snoc eL ft).upd eA fun z hz=>?_
   rcases List.mem_append.mp hz with c | c
   ·exact n7 z c
   ·have:z=.ref L:=by simpa using c
    rw[this];exact fun c=>nLD (by injection c)
  ·rcases List.mem_append.mp hz with c | c
   ·exact n7 z c
   ·have:z=.ref L:=by simpa using c
    rw[this];exact fun c=>nLD (by injection c)
 rintro zs7 H7 ⟨s7,e7,F7,n7⟩
 rw[lR,List.take_of_length_le (by omega)] at F7
 refine⟨_,rfl,R,rfl,⟨_,SqL.of (s7 _ _ e6)⟩,fun D8 hD8=>?_⟩
 have sD8:=same_new hD8 (.lst [])
 refine comp_list (xs:=zR) (fun i zs H'=>Same H7 H'∧H' D8=some (.lst zs)∧Fqs K H' zs (cs.take i)) ⟨sD8,upd_same,.nil⟩ (fun i zs H' h=>h.2.1) (fun i zs H' _ h=>h.1.seq (SqL.of (s7 _ _ e6))) ?_ ?_
 ·rintro i zs x H8 hx ⟨s8,e8,F8⟩ C hC'
  have hi:i < m:=by have:=(List.getElem?_eq_some_iff.mp hx).1;omega
  obtain⟨u,xs,rfl,hu,fu⟩:=LR.r i x _ hx (znX_at hi)
  have lxs:=fu.length
  rw[List.length_append,rowR hi] at lxs
  simp only[List.length_cons,List.length_nil] at lxs
  obtain⟨v,ev,fv⟩:=fu.at (i:=m) (p:=cs.getD i Mq.z0) (by rw[List.getElem?_append_right (by rw[rowR hi];omega),rowR hi,Nat.sub_self];rfl)
  have lz:=F8.length
  rw[List.length_take,lc] at lz
  refine⟨keep1.1,keep1.2,iteT ?_⟩
  refine⟨_,rfl,_,rfl,u,xs,-1,_,rfl,rfl,(s7.trans s8).seq hu,at_last (n:=m) (by omega) ev,?_⟩
  refine⟨e8,small1000 (by omega),hC' _ _ ⟨s8.change hD8,upd_same,?_⟩⟩
  rw[List.take_add_one,Mq.getQ1 (show i < cs.length by omega)]
  exact(F8.app (.cons ((s7.trans s8).seqT fv) .nil)).upd e8
 rintro zs8 H8 ⟨s8,e8,F8⟩
 rw[lR,List.take_of_length_le (by omega)] at F8
 have s08:=s06.trans (s7.trans s8)
 intro x dx' hx hdx ndx
 have sN:Same H8 (upd (upd H8 dx' (.own x)) x (.ins CT dx' [])):=seq_make (K:=K) hx hdx ndx
 refine⟨x,dx',b,D7,D8,upTo m,zs7,zs8,_,_,rfl,upd_same,sN.seq (SqL.of (s08 _ _ hb)),sN.seq (SqL.of (s8 _ _ e7)),(F7.lns.same s8).same sN,?_,sN.seq (SqL.of e8),F8.same sN,fun H9 s9 T9=>⟨rfl,q x H9 (s08.trans (same_make hx hdx ndx s9)) T9⟩⟩
 have:=F7.l
 omega
end
end K56
set_option maxHeartbeats 2000000
namespace L2
open PySem PySem.Spec PyProof.Rows
section
variable {X:Cx} {pins:List (Addr × Obj)} {σ:St} {H:Hp} {s:Shared} {a:Addr} {k:Key} {kvs:List (Key × V)} {u r:Value} {z:V} {A:Around} {E:Value→Shared→Prop}
theorem RelO.some_inv {o:Option V}{w:Value}(r:RelO o (some w)):∃v,o=some v∧RelV v w:=by
 cases o with
 |none=>cases r
 |some v=>exact⟨v,rfl,r⟩
theorem d_setd {Q:Value→Shared→Prop}(I:Inv X pins σ H s)(e:H a=some (.dK kvs))(ry:RelV (kV k) u)(rz:RelV z r)(hl:kvs.length < sizeLine)(h1:∀v w' s',valV kvs k=some v→Inv X pins σ H s'→RelV v w'→Q w' s')(h2:valV kvs k=none→∀s',Inv X pins σ (upd H a (.dK (putK kvs k z))) s'→Q r s') :
  wpAny (model X.prog X.w) A (call (.builtin "dict.setdefault") [.ref a,u,r]) Q E s:=by
 obtain⟨z',hd,vs,rel,dd⟩:=dk_of I.hok e
 refine call_meetsIn PySem.F.slot_dict_setdefault dd.typeIs PySem.F.entry_dict_setdefault (PySem.F.args_dict_setdefault_3 _ _ _) (kt_meets_setdefault (mixKind X.prog X.w) a (kV_is ry) hd r)
  ⟨vs,dd,by rw[← rel.length];exact z',fun v hv=>?_,fun hv h' dd' hs=>?_⟩
 ·have rv:=rel.val k
  rw[hv] at rv
  obtain⟨x,ex,rx⟩:=RelO.some_inv rv
  exact h1 x v _ ex (I.tok _) rx
 ·have hn:valV kvs k=none:=by
   have:=(rel.val k).isSome_eq
   rw[hv] at this
   cases c:valV kvs k with
   |none=>rfl
   |some x=>rw[c] at this;cases this
  have he:∃q,h'.get? a=some q:=let ⟨q,_,_,hq,_⟩:=dd';⟨q,hq⟩
  refine h2 hn _ (d_write I (by rw[e];exact True.intro) hs he (dk_new ?_ hd (rel.put k rz) dd'))
  have:=length_putK kvs k z
  omega
end
def tDSetD (td ty tx:TE):TE:=fun σ H Q=>td σ H fun x H1=>∃a,x=.ref a∧IsD H1 a∧ty σ H1 fun y H2=>tx σ H2 fun z H3=>∃kvs k,H3 a=some (.dK kvs)∧y=kV k∧kvs.length < sizeLine∧
 (∀v,valV kvs k=some v→Q v H3)∧(valV kvs k=none→Q z (upd H3 a (.dK (putK kvs k z))))
section
variable {X:Cx} {o e f:Expr} {apos cpos:Pos} {td ty tx:TE}
theorem pe_dsetd (ho:PE X o td)(he:PE X e ty)(hf:PE X f tx)(m:M2 X o "setdefault" apos e f cpos):PE X (.Call (.Attribute o "setdefault" apos) [e,f] [] cpos) (tDSetD td ty tx):=by
 intro pins s σ H Q I h
 refine wpAny_Call_method m.base m.few m.line PySem.F.plainAttrs_dict PySem.F.slot_dict_setdefault PySem.F.type_dict_setdefault (thn (ho pins s σ H _ I h) fun u s1 ⟨x,H1,I1,rx,a,ex,d,q1⟩=>?_)
 subst ex
 obtain rfl:u=Value.ref a:=rx
 obtain⟨t1,t2,_⟩:=isD_at I1 d
 refine⟨t1,t2,?_⟩
 rw[m.trees]
 refine Calls.callWith_builtin rfl (Calls.evalArgs_plain (Calls.spliced_cons (thn (he pins s1 σ H1 _ I1 q1) fun iv s2 ⟨y,H2,I2,ry,q2⟩=>
  Calls.spliced_cons (thn (hf pins s2 σ H2 _ I2 q2) fun fv s3 ⟨z,H3,I3,rz,kvs,k,ea,ey,hl,q3,q4⟩=>Calls.spliced_nil ?_))))
 subst ey
 exact d_setd I3 ea ry rz hl (fun v w' s4 ev I4 rw'=>⟨v,_,I4,rw',q3 v ev⟩) (fun en s4 I4=>⟨z,_,I4,rz,q4 en⟩)
end
def tVals (td:TE):TE:=fun σ H Q=>td σ H fun x H1=>∃a kvs,x=.ref a∧H1 a=some (.dK kvs)∧∀l,H1 l=none→Q (.ref l) (upd H1 l (.lst (kvs.map (·.2))))
theorem KV.snd {κ:Type}:∀{kvs:List (κ × V)} {vs:List (κ × Value)},KV kvs vs→Vals (kvs.map (·.2)) (vs.map (·.2))
 |_,_,.nil=>.nil
 |_,_,.cons h r=>.cons h.2 (KV.snd r)
section
variable {X:Cx} {o:Expr} {apos cpos pos p:Pos} {td:TE}
theorem pe_listvals (hc:X.calm=true)(hg:Gl X "list")(hm:X.mg "list"=none)(ho:PE X o td)(hbase:attributeBase o "values" X.env (eval o X.env)=eval o X.env:=by rfl)(hline:(apos.endLine == cpos.line)=true:=by rfl)(he:starEach [.Call (.Attribute o "values" apos) [] [] cpos] X.env=(false,eval (.Call (.Attribute o "values" apos) [] [] cpos) X.env) :: starEach [] X.env:=by rfl)(hpl:(backTo pos (starEach [] X.env)).any (·.1)=false:=by rfl) :
  PE X (.Call (.Name "list" p) [.Call (.Attribute o "values" apos) [] [] cpos] [] pos) (tVals td):=by
 intro pins s σ H Q I h
 refine wpAny_Call_Name_kw (ld_blt I hg hm PyProof.Rows.boot_list ?_)
 refine PyProof.Rows.callWith_type1 ?_ he hpl
 rw[he]
 show wpAny _ _ (spliced ((false,eval (.Call (.Attribute o "values" apos) [] [] cpos) X.env) :: backTo pos (starEach [] X.env))) _ _ s
 refine Calls.spliced_cons ?_
 refine wpAny_Call_method0_late hbase hline (thn (ho pins s σ H _ I h) fun v s1 ⟨x,H1,I1,rx,a,kvs,ex,ea,q⟩=>?_)
 subst ex
 obtain rfl:v=Value.ref a:=rx
 obtain⟨t1,t2,_⟩:=isD_at I1 (.inl ⟨kvs,.inl ea⟩)
 obtain⟨z',hd,vs,rel,dd⟩:=dk_of I1.hok ea
 refine⟨"dict","dict.values",PySem.F.plainAttrs_dict,PySem.F.slot_dict_values,PySem.F.type_dict_values,t1,t2,Calls.callWith_builtin rfl (PySem.evalArgs_none ?_)⟩
 refine call_meetsIn PySem.F.slot_dict_values dd.typeIs PySem.F.entry_dict_values (PySem.F.args_dict_values_1 _) (meets_dict_values (mixKind X.prog X.w) a hd) ⟨⟨vs,dd⟩,?_⟩
 refine Calls.spliced_nil ?_
 have I2:Inv X pins σ H1 { s1 with heap:=s1.heap.push { cls:=.type "dict_values",data:=.fields #[.ref a] },toks:=s1.toks }:=I1.kept (t':=s1.toks) (fun b ob e=>Heap.get?_push_of_some _ e)
 obtain⟨ob,es,ep,g1,g2⟩:=dd
 have hv:(s1.heap.push { cls:=.type "dict_values",data:=.fields #[.ref a] }).IsValuesView s1.heap.objs.size a:=⟨_,Heap.get?_push_size _ rfl,rfl,rfl⟩
 have hda:Heap.DictAt (mixKind X.prog X.w) (s1.heap.push { cls:=.type "dict_values",data:=.fields #[.ref a] }) a vs ep:=⟨ob,es,Heap.get?_push_of_some _ g1,g2⟩
 refine PySem.W.kdl_call (s:={ s1 with heap:=s1.heap.push { cls:=.type "dict_values",data:=.fields #[.ref a] },toks:=s1.toks }) PySem.W.kdl_values (I2.ok.hd hc) ⟨hv,hda⟩ (by rw[← rel.length];exact z') (fun h' tk acc' c' kp e items=>?_)
 have ev:acc'.toList=vs.map (·.2):=PySem.W.kdl_vals_eq acc'.toList (by rw[Array.length_toList];exact items.1) (fun j v hj=>items.2 j v (by rw[← Array.getElem?_toList];exact hj))
 have rl:Vals (kvs.map (·.2)) acc'.toList:=by rw[ev];exact KV.snd rel
 exact⟨.ref _,_,I2.laid (t':=tk) kp (Nat.le_refl _) (show ObjOk X.prog X.w _ h' _ (.lst (kvs.map (·.2))) from ⟨by rw[List.length_map];exact z',acc'.toList,c',rl,e⟩),rfl,q _ (I2.hok.fresh (Nat.le_refl _))⟩
end
def tLRange (ta:TA):TE:=fun σ H Q=>ta σ H fun vs H1=>∃n:Nat,vs=[.int (n:Int)]∧n≤1000∧∀l,H1 l=none→Q (.ref l) (upd H1 l (.lst ((List.range n).map fun (i:Nat)=>V.int (i:Int))))
theorem vals_range:∀{n:Nat} {acc:List Value},acc.length=n→(∀(j:Nat) (v:Value),acc[j]?=some v→∃t,v=Value.int (j:Int) t)→Vals ((List.range n).map fun (i:Nat)=>V.int (i:Int)) acc
 |0,[],_,_=>.nil
 |n+1,acc,hl,h=>by
  have e:acc=acc.take n++[acc[n]'(by omega)]:=by
   have h1:acc.take (n+1)=acc:=List.take_of_length_le (by omega)
   have h2:acc.take (n+1)=acc.take n++[acc[n]'(by omega)]:=by rw[List.take_add_one,List.getElem?_eq_getElem (by omega)];rfl
   rw[h1] at h2;exact h2
  rw[List.range_succ,List.map_append,e]
  refine Vals.append (vals_range (by rw[List.length_take];omega) fun j v hj=>?_) (.cons ?_ .nil)
  ·have hjn:j < n:=by
    have:=(List.getElem?_eq_some_iff.mp hj).1
    rw[List.length_take] at this
    omega
   rw[List.getElem?_take,if_pos hjn] at hj
   exact h j v hj
  ·obtain⟨t,ht⟩:=h n _ (List.getElem?_eq_getElem (by omega))
   rw[ht]
   exact⟨t,rfl⟩
section
variable {X:Cx} {a:Expr} {p p2 pos pos2:Pos} {ta:TA}
theorem pe_listrange (hc:X.calm=true)(hgl:Gl X "list")(hml:X.mg "list"=none)(hg:Gl X "range")(hm:X.mg "range"=none)(ha:PA X [a] ta)(hs:starEach [a] X.env=[(false,eval a X.env)]:=by rfl)(he:starEach [.Call (.Name "range" p2) [a] [] pos2] X.env=(false,eval (.Call (.Name "range" p2) [a] [] pos2) X.env) :: starEach [] X.env:=by rfl)(hpl:(backTo pos (starEach [] X.env)).any (·.1)=false:=by rfl) :
  PE X (.Call (.Name "list" p) [.Call (.Name "range" p2) [a] [] pos2] [] pos) (tLRange ta):=by
 intro pins s σ H Q I h
 refine wpAny_Call_Name_kw (ld_blt I hgl hml PyProof.Rows.boot_list ?_)
 refine PyProof.Rows.callWith_type1 ?_ he hpl
 rw[he]
 show wpAny _ _ (spliced ((false,eval (.Call (.Name "range" p2) [a] [] pos2) X.env) :: backTo pos (starEach [] X.env))) _ _ s
 refine Calls.spliced_cons ?_
 refine wpAny_Call_Name_kw (ld_blt I hg hm boot_range (PyProof.Rows.callWith_type1 (thn (ha pos2 pins s σ H _ I h) fun us s1 ⟨vs,H1,I1,r1,q1⟩=>?_) hs rfl))
 obtain⟨n,e,hn,q⟩:=q1
 subst e
 cases r1 with
 |cons r rr=>
  cases rr
  obtain⟨t,rfl⟩:=r
  refine call_range_1 ?_
  refine Calls.spliced_nil ?_
  have I2:∀(ob:Obj) (tk:Nat),Inv X pins σ H1 { s1 with heap:=s1.heap.push ob,toks:=tk }:=fun ob tk=>I1.kept (t':=tk) (fun b ob e=>Heap.get?_push_of_some _ e)
  have hn24:(n:Nat)≤2 ^ 24:=by omega
  refine call_list_range (n:=n) (I1.ok.hd hc) (IsRange.new ..) (small_one (by omega) (by omega) (by omega) (by omega)) (by rw[rangeSize_one];split<;>omega) hn24 (fun h' tk acc' c' kp e items=>?_)
  have rl:Vals ((List.range n).map fun (i:Nat)=>V.int (i:Int)) acc'.toList:=vals_range (by rw[Array.length_toList];exact items.1) (fun j v hj=>by
   obtain⟨t,ht⟩:=items.2 j v (by rw[← Array.getElem?_toList];exact hj)
   exact⟨t,by rw[ht];congr 1;omega⟩)
  have hz:((List.range n).map fun (i:Nat)=>V.int (i:Int)).length≤sizeLine:=by rw[List.length_map,List.length_range,sizeLine_eq];omega
  exact⟨.ref _,_,(I2 _ _).laid (t':=tk) kp (Nat.le_refl _) (show ObjOk X.prog X.w _ h' _ (.lst ((List.range n).map fun (i:Nat)=>V.int (i:Int))) from ⟨hz,acc'.toList,c',rl,e⟩),rfl,q _ ((I2 _ _).hok.fresh (Nat.le_refl _))⟩
end
end L2
set_option maxHeartbeats 1000000
namespace L2
open PySem PySem.Spec PyProof.Rows
def jn (ms:List Int)(s g:Nat):List Int:=ms.map fun x=>if x=ms.getD g 0 then ms.getD s 0 else x
def mks0 (m:Nat):List Int:=(List.range m).map fun (i:Nat)=>(i:Int)
def mstep (ms:List Int)(d:RD):List Int:=if d.1=.pu then ms else jn ms d.2.1.toNat d.2.2.1.toNat
def mks (m:Nat)(ds:List RD):List Int:=ds.foldl mstep (mks0 m)
def mk (m:Nat)(ds:List RD)(p:Nat):Int:=(mks m ds).getD p 0
theorem mks_snoc (m:Nat)(ds:List RD)(d:RD):mks m (ds++[d])=mstep (mks m ds) d:=by unfold mks;rw[List.foldl_append];rfl
theorem mstep_len (ms:List Int)(d:RD):(mstep ms d).length=ms.length:=by
 unfold mstep
 split
 ·rfl
 ·unfold jn;rw[List.length_map]
theorem foldm_len:∀(ds:List RD) (ms:List Int),(ds.foldl mstep ms).length=ms.length
 | [],_=>rfl
 |d :: ds,ms=>by show (ds.foldl mstep (mstep ms d)).length=_;rw[foldm_len ds,mstep_len]
theorem mks_len (m:Nat)(ds:List RD):(mks m ds).length=m:=by unfold mks mks0;rw[foldm_len,List.length_map,List.length_range]
def addp (G:List (Int × List Int))(k p:Int):List (Int × List Int):=if G.any (fun e=>decide (e.1=k)) then G.map (fun e=>if e.1=k then (e.1,e.2++[p]) else e) else G++[(k,[p])]
def grp (F:Nat→Int):Nat→List (Int × List Int)
 |0=>[]
 |n+1=>addp (grp F n) (F n) (n:Int)
def mem (F:Nat→Int)(n:Nat)(k:Int):List Int:=((List.range n).filter fun q=>decide (F q=k)).map fun (q:Nat)=>(q:Int)
def firsts (F:Nat→Int)(n:Nat):List Nat:=(List.range n).filter fun p=>(List.range p).all fun q=>decide (F q≠F p)
theorem mem_succ (F:Nat→Int)(n:Nat)(k:Int):mem F (n+1) k=if F n=k then mem F n k++[(n:Int)] else mem F n k:=by
 unfold mem
 rw[List.range_succ,List.filter_append,List.map_append]
 by_cases h:F n=k
 ·rw[if_pos h,List.filter_cons_of_pos (by exact decide_eq_true h)];rfl
 ·rw[if_neg h,List.filter_cons_of_neg (by simp[h])];simp
theorem firsts_succ (F:Nat→Int)(n:Nat):firsts F (n+1)=if (List.range n).all (fun q=>decide (F q≠F n)) then firsts F n++[n] else firsts F n:=by
 unfold firsts
 rw[List.range_succ,List.filter_append]
 by_cases h:((List.range n).all fun q=>decide (F q≠F n))=true
 ·rw[if_pos h,List.filter_cons_of_pos (p:=fun p=>(List.range p).all fun q=>decide (F q≠F p)) (a:=n) h];rfl
 ·rw[if_neg h,List.filter_cons_of_neg (p:=fun p=>(List.range p).all fun q=>decide (F q≠F p)) (a:=n) h];simp
theorem first_of (F:Nat→Int):∀(n q:Nat),q < n→∃p∈firsts F n,F p=F q
 |n+1,q,h=>by
  rw[firsts_succ]
  by_cases c:q < n
  ·obtain⟨p,hp,e⟩:=first_of F n q c
   refine⟨p,?_,e⟩
   split
   ·exact List.mem_append_left _ hp
   ·exact hp
  ·have:q=n:=by omega
   subst this
   by_cases a:((List.range q).all fun x=>decide (F x≠F q))=true
   ·rw[if_pos a];exact⟨q,by simp,rfl⟩
   ·rw[if_neg a]
    have:∃x,x < q∧F x=F q:=by
     refine Classical.byContradiction fun z=>a ?_
     rw[List.all_eq_true]
     intro x hx
     refine decide_eq_true fun y=>z ⟨x,List.mem_range.mp hx,y⟩
    obtain⟨x,hx,e⟩:=this
    obtain⟨p,hp,e'⟩:=first_of F q x hx
    exact⟨p,hp,e'.trans e⟩
theorem grp_eq (F:Nat→Int):∀n:Nat,grp F n=(firsts F n).map fun p=>(F p,mem F n (F p))
 |0=>rfl
 |n+1=>by
  show addp (grp F n) (F n) (n:Int)=_
  rw[grp_eq F n,firsts_succ]
  unfold addp
  by_cases a:((List.range n).all fun q=>decide (F q≠F n))=true
  ·have no:∀q,q < n→F q≠F n:=fun q hq=>of_decide_eq_true (List.all_eq_true.mp a q (List.mem_range.mpr hq))
   have hany:(((firsts F n).map fun p=>(F p,mem F n (F p))).any fun e=>decide (e.1=F n))=false:=by
    rw[List.any_eq_false]
    intro e he
    obtain⟨p,hp,rfl⟩:=List.mem_map.mp he
    have:=List.mem_range.mp (List.mem_filter.mp hp).1
    simp
    exact no p this
   rw[if_pos a,hany,if_neg (by decide),List.map_append]
   congr 1
   ·refine List.map_congr_left fun p hp=>?_
    have:=List.mem_range.mp (List.mem_filter.mp hp).1
    rw[mem_succ,if_neg (fun z=>no p this z.symm)]
   ·show [(F n,[(n:Int)])]=[(F n,mem F (n+1) (F n))]
    rw[mem_succ,if_pos rfl]
    have:mem F n (F n)=[]:=by
     unfold mem
     rw[List.filter_eq_nil_iff.mpr (fun q hq=>by simp;exact no q (List.mem_range.mp hq))]
     rfl
    rw[this];rfl
  ·have hex:∃x,x < n∧F x=F n:=by
    refine Classical.byContradiction fun z=>a ?_
    rw[List.all_eq_true]
    intro x hx
    exact decide_eq_true fun y=>z ⟨x,List.mem_range.mp hx,y⟩
   obtain⟨x,hx,ex⟩:=hex
   obtain⟨p,hp,ep⟩:=first_of F n x hx
   have hany:(((firsts F n).map fun p=>(F p,mem F n (F p))).any fun e=>decide (e.1=F n))=true:=by
    rw[List.any_eq_true]
    exact⟨(F p,mem F n (F p)),List.mem_map.mpr ⟨p,hp,rfl⟩,decide_eq_true (ep.trans ex)⟩
   rw[if_neg a,hany,if_pos rfl,List.map_map]
   refine List.map_congr_left fun q hq=>?_
   show (if F q=F n then (F q,mem F n (F q)++[(n:Int)]) else (F q,mem F n (F q)))=(F q,mem F (n+1) (F q))
   rw[mem_succ]
   by_cases c:F q=F n
   ·rw[if_pos c,if_pos c.symm]
   ·rw[if_neg c,if_neg (fun z=>c z.symm)]
inductive Gd (H0 H:Hp):List (Key × V)→List (Int × List Int)→List Addr→Prop where
 |nil:Gd H0 H [] [] []
 |cons {a:Addr} {k:Int} {ps:List Int} {kvs:List (Key × V)} {G:List (Int × List Int)} {as:List Addr} (n:H0 a=none) (h:H a=some (.lst (ps.map V.int))) (r:Gd H0 H kvs G as):Gd H0 H ((Sum.inl k,.ref a) :: kvs) ((k,ps) :: G) (a :: as)
section
variable {H0 H H':Hp} {kvs:List (Key × V)} {G:List (Int × List Int)} {as:List Addr}
theorem Gd.out (g:Gd H0 H kvs G as)(e:∀a∈as,H' a=H a):Gd H0 H' kvs G as:=by
 induction g with
 |nil=>exact .nil
 |cons n h r ih=>exact .cons n ((e _ (List.mem_cons_self ..)).trans h) (ih fun a ha=>e a (List.mem_cons_of_mem _ ha))
theorem Gd.new (g:Gd H0 H kvs G as):∀a∈as,H0 a=none∧∃xs,H a=some (.lst xs):=by
 induction g with
 |nil=>intro a h;cases h
 |cons n h r ih=>
  intro a ha
  rcases List.mem_cons.mp ha with rfl | z
  ·exact⟨n,_,h⟩
  ·exact ih a z
theorem Gd.lens (g:Gd H0 H kvs G as):kvs.length=G.length:=by
 induction g with
 |nil=>rfl
 |cons n h r ih=>rw[List.length_cons,List.length_cons,ih]
theorem Gd.app {a:Addr}{k:Int}{ps:List Int}(g:Gd H0 H kvs G as)(n:H0 a=none)(h:H a=some (.lst (ps.map V.int))):Gd H0 H (kvs++[(Sum.inl k,.ref a)]) (G++[(k,ps)]) (as++[a]):=by
 induction g with
 |nil=>exact .cons n h .nil
 |cons n' h' r ih=>exact .cons n' h' ih
theorem Gd.keys (g:Gd H0 H kvs G as)(k:Int):(kvs.any fun kv=>decide (kv.1=Sum.inl k))=G.any fun e=>decide (e.1=k):=by
 induction g with
 |nil=>rfl
 |cons n h r ih=>
  rw[List.any_cons,List.any_cons,ih]
  congr 1
  exact decide_eq_decide.mpr ⟨fun z=>Sum.inl.inj z,fun z=>congrArg Sum.inl z⟩
theorem map_out {k p:Int}:∀{G:List (Int × List Int)},k∉G.map (·.1)→G.map (fun e=>if e.1=k then (e.1,e.2++[p]) else e)=G
 | [],_=>rfl
 |e :: G,h=>by
  rw[List.map_cons,List.mem_cons,not_or] at h
  rw[List.map_cons,if_neg (fun z=>h.1 z.symm),map_out h.2]
theorem Gd.find {k:Int}(g:Gd H0 H kvs G as):as.Nodup→(G.map (·.1)).Nodup→∀{v:V},valV kvs (Sum.inl k)=some v→∃(a:Addr) (ps:List Int),v=.ref a∧a∈as∧H0 a=none∧H a=some (.lst (ps.map V.int))∧(G.any fun e=>decide (e.1=k))=true∧(∃e∈G,e.2=ps)∧
  ∀p:Int,Gd H0 (upd H a (.lst (ps.map V.int++[V.int p]))) kvs (G.map (fun e=>if e.1=k then (e.1,e.2++[p]) else e)) as:=by
 induction g with
 |nil=>intro _ _ v h;cases h
 | @cons a' k' ps' kvs' G' as' n h r ih=>
  intro nd nk v hv
  obtain⟨na,nd'⟩:=List.nodup_cons.mp nd
  rw[List.map_cons] at nk
  obtain⟨nk1,nk'⟩:=List.nodup_cons.mp nk
  by_cases c:k'=k
  ·subst c
   rw[valV_pos rfl] at hv
   cases hv
   refine⟨a',ps',rfl,List.mem_cons_self ..,n,h,?_,⟨_,List.mem_cons_self ..,rfl⟩,fun p=>?_⟩
   ·rw[List.any_cons];simp
   ·rw[List.map_cons,if_pos rfl,map_out nk1]
    refine .cons n ?_ (r.out fun b hb=>upd_ne fun z=>na (z ▸ hb))
    rw[upd_same,List.map_append];rfl
  ·rw[valV_neg (fun z=>c (Sum.inl.inj z))] at hv
   obtain⟨a,ps,ev,ma,na0,ea,hany,⟨e,he,hp⟩,q⟩:=ih nd' nk' hv
   refine⟨a,ps,ev,List.mem_cons_of_mem _ ma,na0,ea,?_,⟨e,List.mem_cons_of_mem _ he,hp⟩,fun p=>?_⟩
   ·rw[List.any_cons,hany,Bool.or_true]
   ·rw[List.map_cons,if_neg c]
    have ne:a'≠a:=fun z=>na (z ▸ ma)
    exact .cons n (by rw[upd_ne ne];exact h) (q p)
theorem valV_none {κ:Type}[DecidableEq κ]{kvs:List (κ × V)}{k:κ}(h:valV kvs k=none):(kvs.any fun kv=>decide (kv.1=k))=false:=by
 unfold valV at h
 rw[Option.map_eq_none_iff,List.find?_eq_none] at h
 rw[List.any_eq_false]
 intro x hx
 exact h x hx
end
theorem keys_addp {G:List (Int × List Int)}{k p:Int}(h:(G.map (·.1)).Nodup):((addp G k p).map (·.1)).Nodup:=by
 unfold addp
 by_cases c:(G.any fun e=>decide (e.1=k))=true
 ·rw[if_pos c,List.map_map]
  have e:G.map ((·.1) ∘ fun e:Int × List Int=>if e.1=k then (e.1,e.2++[p]) else e)=G.map (·.1):=List.map_congr_left fun x _=>by
   show (if x.1=k then (x.1,x.2++[p]) else x).1=x.1
   split<;>rfl
  rw[e];exact h
 ·rw[if_neg c,List.map_append]
  refine List.nodup_append.mpr ⟨h,by simp,?_⟩
  intro x hx y hy z
  rw[List.map_cons,List.map_nil,List.mem_singleton] at hy
  obtain⟨e,he,rfl⟩:=List.mem_map.mp hx
  exact c (List.any_eq_true.mpr ⟨e,he,decide_eq_true (z.trans hy)⟩)
theorem grp_keys (F:Nat→Int):∀n,((grp F n).map (·.1)).Nodup
 |0=>List.nodup_nil
 |n+1=>keys_addp (grp_keys F n)
theorem addp_len (G:List (Int × List Int))(k p:Int):(addp G k p).length≤G.length+1:=by
 unfold addp
 split
 ·rw[List.length_map];omega
 ·rw[List.length_append];exact Nat.le_refl _
theorem grp_len (F:Nat→Int):∀n,(grp F n).length≤n
 |0=>Nat.le_refl _
 |n+1=>by
  have h1:=addp_len (grp F n) (F n) (n:Int)
  have h2:=grp_len F n
  show (addp (grp F n) (F n) (n:Int)).length≤n+1
  omega
theorem addp_small {G:List (Int × List Int)}{k p:Int}{n:Nat}(h:∀e∈G,e.2.length≤n):∀e∈addp G k p,e.2.length≤n+1:=by
 intro e he
 unfold addp at he
 split at he
 ·obtain⟨x,hx,rfl⟩:=List.mem_map.mp he
  have:=h x hx
  split
  ·rw[List.length_append];simp only[List.length_cons,List.length_nil];omega
  ·omega
 ·rcases List.mem_append.mp he with z | z
  ·have:=h e z;omega
  ·rw[List.mem_singleton] at z;rw[z];simp
theorem grp_small (F:Nat→Int):∀n,∀e∈grp F n,e.2.length≤n
 |0=>fun e h=>by cases h
 |n+1=>addp_small (grp_small F n)
structure Ils (H0 H:Hp) (us:List V) (X:List (List Int)):Prop where
 l:us.length=X.length
 r:∀(i:Nat) (x:V) (ps:List Int),us[i]?=some x→X[i]?=some ps→∃a:Addr,x=.ref a∧H0 a=none∧H a=some (.lst (ps.map V.int))
theorem Ils.from0 {H0 H0' H:Hp}{us:List V}{X:List (List Int)}(f:Ils H0 H us X)(h:∀a,H0 a=none→H0' a=none):Ils H0' H us X:=⟨f.l,fun i x ps h1 h2=>let ⟨a,e,n,r⟩:=f.r i x ps h1 h2;⟨a,e,h a n,r⟩⟩
theorem Gd.ils {H0 H:Hp}{kvs:List (Key × V)}{G:List (Int × List Int)}{as:List Addr}(g:Gd H0 H kvs G as):Ils H0 H (kvs.map (·.2)) (G.map (·.2)):=by
 refine⟨by rw[List.length_map,List.length_map,g.lens],?_⟩
 induction g with
 |nil=>intro i x ps h;cases h
 |cons n h r ih=>
  intro i x ps h1 h2
  cases i with
  |zero=>cases h1;cases h2;exact⟨_,rfl,n,h⟩
  |succ j=>exact ih j x ps h1 h2
theorem Gd.vals {H0 H:Hp}{kvs:List (Key × V)}{G:List (Int × List Int)}{as:List Addr}(g:Gd H0 H kvs G as):∀x∈kvs.map (·.2),∃a∈as,x=.ref a:=by
 induction g with
 |nil=>intro x h;cases h
 |cons n h r ih=>
  intro x hx
  rw[List.map_cons,List.mem_cons] at hx
  rcases hx with rfl | z
  ·exact⟨_,List.mem_cons_self ..,rfl⟩
  ·obtain⟨a,ha,e⟩:=ih x z
   exact⟨a,List.mem_cons_of_mem _ ha,e⟩
end L2
set_option maxHeartbeats 4000000
namespace K56
open PySem L2
section
variable {P:Program} {w:World} {K:PySem.W.Frag} {mg:Str→Option Value} {base:Heap} {f g1 g2 g3 g4 g5 g6 g7 g8:Addr} {fd gd1 gd2 gd3 gd4 gd5 gd6 gd7 gd8:FuncData} {CX:CXT}
variable {CR:Addr} {CK:Kd→Addr} {fW fJ fT fS:Kd→Addr} {fdW fdJ fdT fdS:Kd→FuncData}
abbrev sJoins_pc:Stmt:=inClass (top 27) 1
theorem scJoins_pc:FnScope ["self"] ["self"] (defScope sJoins_pc):=⟨rfl,rfl,rfl,by decide +kernel,rfl,by decide +kernel,by decide +kernel⟩
theorem ok_joins_pc {dV:Value}(F:FunD K "joins" "Piece.joins" sJoins_pc dV f fd):FnOk P w K mg base CX 1 f fd ["self"] (spJoins .pc):=by
 refine F.ok scJoins_pc (fun vs H Q E h=>?_) (fun cdv A outer s H vs Q E hr h=>?_)
 ·obtain⟨x,rfl,_⟩:=h
  rfl
 obtain⟨x,rfl,q⟩:=h
 exact⟨_,(pss_one (ps_ret pe_bl)),q⟩
abbrev sJoins_pu:Stmt:=inClass (top 28) 1
theorem scJoins_pu:FnScope ["self"] ["self"] (defScope sJoins_pu):=⟨rfl,rfl,rfl,by decide +kernel,rfl,by decide +kernel,by decide +kernel⟩
theorem ok_joins_pu {dV:Value}(F:FunD K "joins" "Push.joins" sJoins_pu dV f fd):FnOk P w K mg base CX 1 f fd ["self"] (spJoins .pu):=by
 refine F.ok scJoins_pu (fun vs H Q E h=>?_) (fun cdv A outer s H vs Q E hr h=>?_)
 ·obtain⟨x,rfl,_⟩:=h
  rfl
 obtain⟨x,rfl,q⟩:=h
 exact⟨_,(pss_one (ps_ret pe_bl)),q⟩
abbrev sJoins_ho:Stmt:=inClass (top 29) 1
theorem scJoins_ho:FnScope ["self"] ["self"] (defScope sJoins_ho):=⟨rfl,rfl,rfl,by decide +kernel,rfl,by decide +kernel,by decide +kernel⟩
theorem ok_joins_ho {dV:Value}(F:FunD K "joins" "Hold.joins" sJoins_ho dV f fd):FnOk P w K mg base CX 1 f fd ["self"] (spJoins .ho):=by
 refine F.ok scJoins_ho (fun vs H Q E h=>?_) (fun cdv A outer s H vs Q E hr h=>?_)
 ·obtain⟨x,rfl,_⟩:=h
  rfl
 obtain⟨x,rfl,q⟩:=h
 exact⟨_,(pss_one (ps_ret pe_bl)),q⟩
theorem sub_nil {ec:List (Str × Addr)}:∀(x:Str) (c:Addr),([]:List (Str × Addr)).lookup x=some c→ec.lookup x=some c:=fun _ _ h=>by cases h
theorem sub_cons {ec cl:List (Str × Addr)}{a:Str}{d:Addr}(h:ec.lookup a=some d)(r:∀x c,cl.lookup x=some c→ec.lookup x=some c):∀x c,((a,d) :: cl).lookup x=some c→ec.lookup x=some c:=fun x c e=>by
 rw[List.lookup_cons] at e
 cases q:x == a with
 |true=>rw[q] at e;rw[eq_of_beq q,h];exact e
 |false=>rw[q] at e;exact r x c e
def spJoined (K:PySem.W.Frag)(CK:Kd→Addr):Sp:=fun vs H Q _=>∃(a x:Addr) (ms:List Int) (k:Kd) (s g:Nat) (z:V),vs=[.ref a,.ref x]∧SqL K H a (ms.map V.int)∧Rw CK H x k (.int (s:Int)) (.int (g:Int)) z∧s < ms.length∧g < ms.length∧ms.length≤100∧∀l H',Same H H'→H l=none→H' l=some (.lst ((jn ms s g).map V.int))→Q (.ref l) H'
def spMarks (CN:Addr)(K:PySem.W.Frag):Sp:=fun vs H Q _=>∃(n l:Addr) (m:Nat) (ds:List RD),vs=[.ref n]∧NetAt CN K H n l (m:Int) ds∧(∀d∈ds,PtOk (m:Int) d.2.1 d.2.2.1)∧m≤20∧ds.length≤100∧∀l' H',Same H H'→H l'=none→H' l'=some (.lst ((mks m ds).map V.int))→Q (.ref l') H'
def spGroups (CN:Addr)(K:PySem.W.Frag):Sp:=fun vs H Q _=>∃(n l:Addr) (m:Nat) (ds:List RD),vs=[.ref n]∧NetAt CN K H n l (m:Int) ds∧(∀d∈ds,PtOk (m:Int) d.2.1 d.2.2.1)∧1≤m∧m≤20∧ds.length≤100∧∀l' us H',Same H H'→H l'=none→H' l'=some (.lst us)→Ils H H' us ((grp (mk m ds) m).map (·.2))→(∀x∈us,x≠.ref l')→Q (.ref l') H'
theorem nd_mark_lost_kept:(["mark","lost","kept"]:List Str).Nodup:=by decide +kernel
abbrev sJoined:Stmt:=top 24
theorem scJoined:FnScope ["marks","row","kept","lost"] ["marks","row"] (defScope sJoined):=⟨rfl,rfl,rfl,by decide +kernel,rfl,by decide +kernel,by decide +kernel⟩
theorem ok_joined {dV:Value}(F:FunD K "joined" "joined" sJoined dV f fd)(T:RT K mg CR CK) :
  FnOk P w K mg base CX 1 f fd ["marks","row"] (spJoined K CK):=by
 refine F.ok scJoined (fun vs H Q E h=>?_) (fun cdv A outer s H vs Q E hr h=>?_)
 ·obtain⟨a,x,ms,k,s0,g0,z,rfl,hS,rw,hs,hg,h100,q⟩:=h
  rfl
 obtain⟨a,x,ms,k,s0,g0,z,rfl,hS,rw,hs,hg,h100,q⟩:=h
 refine⟨_,(pss_cons (ps_set (i:=2) scJoined.nd rfl (Or.inr rfl) (pe_ix ix_list (pv 0) (pe_fld (pv 1) rfl) (fun _ _=>rfl)))
  (pss_cons (ps_set (i:=3) scJoined.nd rfl (Or.inr rfl) (pe_ix ix_list (pv 0) (pe_fld (pv 1) rfl) (fun _ _=>rfl)))
  (pss_one (ps_ret (pe_comp (nl:=1) (fr:=[3,2]) (Nc:=["mark","lost","kept"]) (cl:=[("lost",s.heap.objs.size+2),("kept",s.heap.objs.size+1)]) rfl ⟨rfl,rfl,by decide +kernel,by decide +kernel,(sub_cons rfl (sub_cons rfl (sub_nil))),has_of rfl,rfl,fun i n h=>match i,h with | 0,h=>by cases h;exact⟨3,rfl,rfl,rfl,rfl,.inl rfl⟩ | 1,h=>by cases h;exact⟨2,rfl,rfl,rfl,rfl,.inl rfl⟩ | k+2,h=>by rw[show 1+(k+2)=k+3 by omega] at h;cases h⟩
    (pi_list (pv 0)) (fun C s3 H3 fp pins=>(pg_name (i:=0) nd_mark_lost_kept rfl (Or.inl rfl))) (fun C s3 H3 fp pins=>pif_nil)
    (fun C s3 H3 fp pins=>(pe_ifExp (pt_cmpR op_eq (pv 0) (pv 1) (nomark _)) (pv 2) (pv 0)))))))),?_⟩
 obtain⟨dx,hx⟩:=id rw
 have gi:∀{j:Nat},j < ms.length→atI (ms.map V.int) (j:Int)=some (.int (ms.getD j 0)):=fun h=>atI_nat (by rw[List.getElem?_map,List.getElem?_eq_getElem h,List.getD_eq_getElem?_getD,List.getElem?_eq_getElem h];rfl)
 refine⟨_,rfl,_,rfl,x,CK _,_,_,_,rfl,hx,T.cl _,T.nS _,rflds_start _ _ _,a,_,_,_,rfl,rfl,hS,gi hs,?_⟩
 refine⟨_,rfl,_,rfl,x,CK _,_,_,_,rfl,hx,T.cl _,T.nG _,rflds_goal _ _ _,a,_,_,_,rfl,rfl,hS,gi hg,?_⟩
 refine⟨_,rfl,a,rfl,⟨_,hS⟩,fun D hD=>?_⟩
 have sD:=same_new hD (.lst [])
 refine comp_list (xs:=ms.map V.int) (fun i zs H'=>Same H H'∧H' D=some (.lst zs)∧zs=((jn ms s0 g0).take i).map V.int) ⟨sD,upd_same,rfl⟩ (fun i zs H' h=>h.2.1) (fun i zs H' _ h=>h.1.seq hS) ?_ ?_
 ·rintro i zs x H1 hx' ⟨s1,e1,rfl⟩ C hC
  rw[List.getElem?_map] at hx'
  obtain⟨c,hc,rfl⟩:=Option.map_eq_some_iff.mp hx'
  have hi:i < ms.length:=(List.getElem?_eq_some_iff.mp hc).1
  have ej:(jn ms s0 g0)[i]?=some (if c=ms.getD g0 0 then ms.getD s0 0 else c):=by unfold jn;rw[List.getElem?_map,hc];rfl
  have lj:(jn ms s0 g0).length=ms.length:=by unfold jn;rw[List.length_map]
  refine⟨keep1.1,keep1.2,iteT ?_⟩
  refine⟨_,rfl,_,rfl,rfl,_,rfl,?_⟩
  by_cases h:c=ms.getD g0 0
  ·rw[if_pos h] at ej
   refine ifT (decide_eq_true (by rw[h])) ⟨_,rfl,e1,small1000 (by rw[List.length_map,List.length_take];omega),hC _ _ ⟨s1.change hD,upd_same,?_⟩⟩
   rw[List.take_add_one,ej,List.map_append];rfl
  ·rw[if_neg h] at ej
   refine ifF (decide_eq_false (fun z=>h (by injection z))) ⟨_,rfl,e1,small1000 (by rw[List.length_map,List.length_take];omega),hC _ _ ⟨s1.change hD,upd_same,?_⟩⟩
   rw[List.take_add_one,ej,List.map_append];rfl
 ·rintro zs H1 ⟨s1,e1,rfl⟩
  have lj:(jn ms s0 g0).length=ms.length:=by unfold jn;rw[List.length_map]
  rw[List.length_map,← lj,List.take_length] at e1
  exact q D H1 s1 hD e1
abbrev sMarks:Stmt:=top 23
theorem scMarks:FnScope ["net","marks","row"] ["net"] (defScope sMarks):=⟨rfl,rfl,rfl,by decide +kernel,rfl,by decide +kernel,by decide +kernel⟩
theorem ok_marks {dV:Value}(F:FunD K "marks_of" "marks_of" sMarks dV f fd){CN:Addr}(mli:mg "list"=none)(mra:mg "range"=none)(NTx:NT K mg CN)(T:RT K mg CR CK){fJ:Kd→Addr}{fdJ:Kd→FuncData}(GJ:∀k,FnOk P w K mg base CX0 1 (fJ k) (fdJ k) ["self"] (spJoins k))(bJ:∀k,Binds K (fdJ k) ["self"] [])(mJ:∀k,Meth K (CK k) "joins" (fJ k)){gMa:Addr}{gdMa:FuncData}(GMa:FnOk P w K mg base CX0 1 gMa gdMa ["self"] (spMany CN K))(bMa:Binds K gdMa ["self"] [])(mMa:Meth K CN "many" gMa){gRo:Addr}{gdRo:FuncData}(GRo:FnOk P w K mg base CX0 4 gRo gdRo ["self"] (spRows CN K CK))(bRo:Binds K gdRo ["self"] [])(mRo:Meth K CN "rows" gRo)(G1:FnOk P w K mg base CX0 1 g1 gd1 ["marks","row"] (spJoined K CK))(b1:Binds K gd1 ["marks","row"] [])(k1:PySem.W.keepIn K (.ref g1)=true)(m1:mg "joined"=some (.ref g1)) :
  FnOk P w K mg base CX 5 f fd ["net"] (spMarks CN K):=by
 refine F.ok scMarks (fun vs H Q E h=>?_) (fun cdv A outer s H vs Q E hr h=>?_)
 ·obtain⟨n,l,m,ds,rfl,nt,pt,hm,h100,q⟩:=h
  rfl
 obtain⟨n,l,m,ds,rfl,nt,pt,hm,h100,q⟩:=h
 have r1:=hr.mono (show 1≤4 by omega)
 refine⟨_,(pss_cons (ps_set (i:=1) scMarks.nd rfl (Or.inl rfl) (pe_listrange rfl rfl mli rfl mra (pa_cons (pe_meth0 (pv 0) NTx.cl mMa GMa r1 bMa .nil pass0) pa_nil)))
  (pss_cons (ps_for PassesOwn.never rfl (pi_list (pe_meth0 (pv 0) NTx.cl mRo GRo hr bRo .nil pass0)) (pg_name (i:=2) scMarks.nd rfl (Or.inl rfl))
   (pss_one (ps_if (pt_val (pe_methD0 (pv 2) T.cl mJ GJ r1 bJ .nil pass0)) (pss_one (ps_set (i:=1) scMarks.nd rfl (Or.inl rfl) (pe_call G1 r1 rfl m1 k1 b1 .nil pass0 (pa_cons (pv 1) (pa_cons (pv 2) pa_nil))))) pss_nil)))
  (pss_one (ps_ret (pv 1))))),?_⟩
 obtain⟨dx,hn⟩:=nt.ob
 refine⟨_,rfl,n,dx,_,rfl,hn,nflds_no _ _ (by decide +kernel) (by decide +kernel),n,l,_,ds,rfl,nt,m,rfl,by omega,fun D hD=>?_⟩
 have sD:=same_new hD (.lst ((List.range m).map fun (i:Nat)=>V.int (i:Int)))
 have eD:upd H D (.lst ((List.range m).map fun (i:Nat)=>V.int (i:Int))) D=some (.lst ((mks m (ds.take 0)).map V.int)):=by
  rw[upd_same];show some (HO.lst _)=some (HO.lst ((mks0 m).map V.int));unfold mks0;rw[List.map_map];rfl
 generalize upd H D (.lst ((List.range m).map fun (i:Nat)=>V.int (i:Int)))=H1 at sD eD ⊢
 refine⟨_,rfl,n,dx,_,rfl,sD _ _ hn,nflds_no _ _ (by decide +kernel) (by decide +kernel),n,l,_,ds,rfl,nt.same sD,h100,fun a xs H2 s2 na ea Rb=>?_⟩
 have lxs:=Rb.length
 refine⟨a,rfl,⟨_,SqL.of ea⟩,?_⟩
 refine for_list (xs:=xs) (fun i σ H'=>Same H2 H'∧∃(c:Addr) (z:Option V),σ=[some (.ref n),some (.ref c),z]∧H c=none∧H' c=some (.lst ((mks m (ds.take i)).map V.int))) ⟨Same.refl _,D,none,rfl,hD,s2 _ _ eD⟩ (fun i σ H' _ h=>h.1.seq (SqL.of ea)) ?_ ?_
 ·rintro i x σ H3 hx ⟨s3,c,z,rfl,nc,ec⟩
  have hi:i < ds.length:=by
   have:=(List.getElem?_eq_some_iff.mp hx).1
   omega
  obtain⟨⟨k,u,v,p⟩,hd⟩:∃d,ds[i]?=some d:=⟨_,List.getElem?_eq_getElem hi⟩
  obtain⟨y,z',ey,rw,fz⟩:=Rb.at hd
  have ex:x=.ref y:=by rw[ey] at hx;exact(Option.some.inj hx).symm
  subst ex
  have rw3:=rw.same s3
  obtain⟨dr,hy⟩:=id rw3
  have et:ds.take (i+1)=ds.take i++[(k,u,v,p)]:=by rw[List.take_add_one,hd];rfl
  obtain⟨u0,u1,v0,v1⟩:PtOk (m:Int) u v:=pt _ (List.mem_of_getElem? hd)
  refine⟨_,rfl,k,y,dr,_,rfl,hy,(rflds_no _ _ _ (by decide +kernel) (by decide +kernel) (by decide +kernel)),_,rfl,_,rfl,?_⟩
  by_cases hk:k=.pu
  ·refine ifF (decide_eq_false (fun z=>z hk)) ⟨s3,c,_,rfl,nc,?_⟩
   rw[et,mks_snoc]
   unfold mstep
   rw[if_pos hk]
   exact ec
  ·refine ifT (decide_eq_true hk) ⟨_,rfl,_,rfl,c,y,mks m (ds.take i),k,u.toNat,v.toNat,.ref z',rfl,SqL.of ec,?_,by rw[mks_len];omega,by rw[mks_len];omega,by rw[mks_len];omega,fun c' H4 s4 nc' ec'=>⟨s3.trans s4,c',_,rfl,?_,?_⟩⟩
   ·rw[show ((u.toNat:Nat):Int)=u by omega,show ((v.toNat:Nat):Int)=v by omega]
    exact rw3
   ·exact((sD.trans s2).trans s3).free nc'
   ·rw[et,mks_snoc]
    unfold mstep
    rw[if_neg hk]
    exact ec'
 ·rintro σ H3 ⟨s3,c,z,rfl,nc,ec⟩
  rw[show ds.take xs.length=ds by rw[lxs,List.take_length]] at ec
  exact⟨_,rfl,q c H3 ((sD.trans s2).trans s3) nc ec⟩
abbrev sGroups:Stmt:=top 22
theorem scGroups:FnScope ["net","found","point","mark"] ["net"] (defScope sGroups):=⟨rfl,rfl,rfl,by decide +kernel,rfl,by decide +kernel,by decide +kernel⟩
theorem ok_groups {dV:Value}(F:FunD K "groups" "groups" sGroups dV f fd){CN:Addr}(men:mg "enumerate"=none)(mli:mg "list"=none)(G1:FnOk P w K mg base CX0 5 g1 gd1 ["net"] (spMarks CN K))(b1:Binds K gd1 ["net"] [])(k1:PySem.W.keepIn K (.ref g1)=true)(m1:mg "marks_of"=some (.ref g1)) :
  FnOk P w K mg base CX 6 f fd ["net"] (spGroups CN K):=by
 refine F.ok scGroups (fun vs H Q E h=>?_) (fun cdv A outer s H vs Q E hr h=>?_)
 ·obtain⟨n,l,m,ds,rfl,nt,pt,h1,hm,h100,q⟩:=h
  rfl
 obtain⟨n,l,m,ds,rfl,nt,pt,h1,hm,h100,q⟩:=h
 refine⟨_,(pss_cons (ps_set (i:=1) scGroups.nd rfl (Or.inl rfl) pe_dnewK)
  (pss_cons (ps_for PassesOwn.never rfl (pi_enum rfl men rfl (pa_cons (pe_call G1 hr rfl m1 k1 b1 .nil pass0 (pa_cons (pv 0) pa_nil)) pa_nil)) (pg_tup rfl (pgs_cons (pg_name (i:=2) scGroups.nd rfl (Or.inl rfl)) (pgs_cons (pg_name (i:=3) scGroups.nd rfl (Or.inl rfl)) pgs_nil)))
   (pss_one (ps_expr (pe_bm PySem.F.plainAttrs_list PySem.F.slot_list_append PySem.F.type_list_append mt_append (pe_dsetd (pv 1) (pv 3) (pe_lst pa_nil) ⟨rfl,rfl,rfl,rfl⟩) (pa_cons (pv 2) pa_nil)))))
  (pss_one (ps_ret (pe_listvals rfl rfl mli (pv 1)))))),?_⟩
 refine fun F hF=>?_
 have sF:=same_new hF (.dK [])
 have eF:upd H F (.dK []) F=some (.dK []):=upd_same
 generalize upd H F (.dK [])=H1 at sF eF ⊢
 refine⟨_,rfl,n,l,m,ds,rfl,nt.same sF,pt,hm,h100,fun M H2 s2 nM eM=>?_⟩
 have mlen:=mks_len m ds
 have hS:SqL K H2 M ((mks m ds).map V.int):=SqL.of eM
 have e2F:=s2 _ _ eF
 have neM:M≠F:=fun z=>by rw[z,eF] at nM;cases nM
 refine⟨M,rfl,⟨_,hS⟩,?_⟩
 refine for_enum (xs:=(mks m ds).map V.int) (fun i σ H'=>SameX F H2 H'∧∃(kvs:List (Key × V)) (as:List Addr) (z1 z2:Option V),σ=[some (.ref n),some (.ref F),z1,z2]∧H' F=some (.dK kvs)∧Gd H2 H' kvs (grp (mk m ds) i) as∧as.Nodup) ⟨fun b o h _=>h,[],[],none,none,rfl,e2F,.nil,List.nodup_nil⟩ (fun i σ H' _ h=>SqL.of (h.1 _ _ eM neM)) ?_ ?_
 ·rintro i x σ H3 T3 hx ⟨s3,kvs,as,z1,z2,rfl,e3,g3,nd3⟩ hT
  rw[List.getElem?_map] at hx
  obtain⟨c,hc,rfl⟩:=Option.map_eq_some_iff.mp hx
  have hi:i < m:=by have:=(List.getElem?_eq_some_iff.mp hc).1;omega
  have ec:c=mk m ds i:=by unfold mk;rw[List.getD_eq_getElem?_getD,hc];rfl
  subst ec
  have sT:=same_new hT (.tup [.int (i:Int),.int (mk m ds i)])
  refine⟨T3,_,rfl,SqT.of upd_same,rfl,_,_,rfl,_,_,rfl,rfl,?_⟩
  generalize upd H3 T3 (.tup [.int (i:Int),.int (mk m ds i)])=H4 at sT ⊢
  have g4:Gd H2 H4 kvs (grp (mk m ds) i) as:=g3.out fun a ha=>by
   obtain⟨_,xs,hx⟩:=g3.new a ha
   rw[hx,sT _ _ hx]
  have s4:SameX F H2 H4:=fun b o h ne=>sT _ _ (s3 b o h ne)
  have e4:=sT _ _ e3
  refine⟨_,rfl,F,rfl,.inl ⟨kvs,.inl e4⟩,?_⟩
  refine⟨_,rfl,by show 0≤sizeLine;exact Nat.zero_le _,fun L hL=>?_⟩
  have sL:=same_new hL (.lst [])
  have eL:upd H4 L (.lst []) L=some (.lst []):=upd_same
  have neLF:L≠F:=fun z=>by rw[z,e4] at hL;cases hL
  have nL2:H2 L=none:=by
   cases q2:H2 L with
   |none=>rfl
   |some o=>rw[s4 L o q2 neLF] at hL;cases hL
  have nLa:∀a∈as,a≠L:=fun a ha z=>by
   obtain⟨_,xs,hx⟩:=g4.new a ha
   rw[z,hL] at hx;cases hx
  generalize upd H4 L (.lst [])=H5 at sL eL ⊢
  have g5:Gd H2 H5 kvs (grp (mk m ds) i) as:=g4.out fun a ha=>by
   obtain⟨_,xs,hx⟩:=g4.new a ha
   rw[hx,sL _ _ hx]
  have s5:SameX F H2 H5:=fun b o h ne=>sL _ _ (s4 b o h ne)
  have e5:=sL _ _ e4
  have lk:kvs.length≤20:=by
   have:=g5.lens
   have:=grp_len (mk m ds) i
   omega
  have lt20:∀{n:Nat},n≤20→n < sizeLine:=fun h=>by rw[sizeLine_eq];omega
  have nF:∀a,H2 a=none→a≠F:=fun a h z=>by rw[z,e2F] at h;cases h
  refine⟨kvs,Sum.inl (mk m ds i),e5,rfl,lt20 lk,fun v hv=>?_,fun hv=>?_⟩
  ·obtain⟨a,ps,rfl,ma,na,ea,hany,⟨e,he,hp⟩,gq⟩:=g5.find nd3 (grp_keys _ _) hv
   have sm:=grp_small (mk m ds) i e he
   rw[hp] at sm
   refine⟨.inl ⟨rfl,_,SqL.of ea⟩,_,rfl,a,_,_,rfl,rfl,ea,lt20 (by rw[List.length_map];omega),?_⟩
   refine⟨fun b o h ne=>?_,kvs,as,_,_,rfl,?_,?_,nd3⟩
   ·have nb:b≠a:=fun z=>by rw[z,na] at h;cases h
    rw[upd_ne nb];exact s5 b o h ne
   ·rw[upd_ne (nF a na).symm];exact e5
   ·show Gd _ _ _ (addp (grp (mk m ds) i) (mk m ds i) (i:Int)) _
    unfold addp
    rw[if_pos hany]
    exact gq i
  ·have ha:=valV_none hv
   have pk:putK kvs (Sum.inl (mk m ds i)) (.ref L)=kvs++[(Sum.inl (mk m ds i),.ref L)]:=by unfold putK;rw[if_neg (by rw[ha];simp)]
   rw[pk]
   have e6:upd H5 F (.dK (kvs++[(Sum.inl (mk m ds i),.ref L)])) L=some (.lst []):=by rw[upd_ne neLF];exact eL
   refine⟨.inl ⟨rfl,_,SqL.of e6⟩,_,rfl,L,_,_,rfl,rfl,e6,lt20 (Nat.zero_le _),?_⟩
   refine⟨fun b o h ne=>?_,_,as++[L],_,_,rfl,by rw[upd_ne neLF.symm,upd_same],?_,?_⟩
   ·have nb:b≠L:=fun z=>by rw[z,nL2] at h;cases h
    rw[upd_ne nb,upd_ne ne];exact s5 b o h ne
   ·show Gd _ _ _ (addp (grp (mk m ds) i) (mk m ds i) (i:Int)) _
    unfold addp
    rw[if_neg (by rw[← g5.keys,ha];simp)]
    refine Gd.app (ps:=[(i:Int)]) (g5.out fun a ha'=>?_) nL2 upd_same
    rw[upd_ne (nLa a ha'),upd_ne (nF a (g5.new a ha').1)]
   ·refine List.nodup_append.mpr ⟨nd3,by simp,fun x hx y hy z=>?_⟩
    rw[List.mem_singleton] at hy
    exact nLa x hx (z.trans hy)
 ·rintro σ H3 ⟨s3,kvs,as,z1,z2,rfl,e3,g3,nd3⟩
  rw[List.length_map,mlen] at g3
  refine⟨_,rfl,F,kvs,rfl,e3,fun L hL=>?_⟩
  have sL:=same_new hL (.lst (kvs.map (·.2)))
  have s0:Same H H3:=fun b o h=>s3 b o (s2 _ _ (sF _ _ h)) (fun z=>by rw[z,hF] at h;cases h)
  have g4:Gd H2 (upd H3 L (.lst (kvs.map (·.2)))) kvs (grp (mk m ds) m) as:=g3.out fun a ha=>by
   obtain⟨_,xs,hx⟩:=g3.new a ha
   rw[hx,sL _ _ hx]
  refine q L _ _ (s0.trans sL) (s0.free hL) upd_same (g4.ils.from0 (fun a h=>(sF.trans s2).free h)) ?_
  intro x hx z
  obtain⟨a,ha,e⟩:=g3.vals x hx
  obtain⟨_,xs,h⟩:=g3.new a ha
  rw[z] at e
  cases e
  rw[hL] at h;cases h
end
end K56
namespace L2
open PySem PySem.Spec PyProof.Rows
section
variable {X:Cx}
def rAny (K:PySem.W.Frag):List V→Hp→VK→Prop:=fun xs H Q=>∃(p:Addr) (bs:List Bool),xs=[.ref p]∧SqL K H p (bs.map V.bl)∧Q (.bl (bs.any id)) H
theorem call_any (hc:X.calm=true):CallR X (.builtin "any") (rAny X.K):=by
 intro pins s σ H xs us Q I r h
 obtain⟨p,bs,rfl,hq,q⟩:=h
 obtain⟨u,rfl,rx⟩:=vals1 r
 cases rx
 obtain⟨its,rv,pl,hz⟩:=I.list hq
 have hlen:its.toArray.size=bs.length:=by rw[List.size_toArray,← rv.length,List.length_map]
 have hne:p≠s.heap.objs.size:=by
  obtain⟨o,e,_⟩:=pl.isList
  exact Nat.ne_of_lt (Heap.lt_size e)
 refine call_any_walk (wpAny_pyIter_list pl.isList ?_)
 refine⟨s.heap.objs.size,_,_,_,_,_,fun i=>bs.getD i false,rfl,Walks.list (by exact I.ok.hd hc) s.heap.objs.size p hne its.toArray,⟨⟨_,Heap.get?_push_size _ rfl,rfl,rfl⟩,?_⟩,?_,?_⟩
 ·obtain⟨o,e,c⟩:=pl.isList
  exact⟨o,Heap.get?_push_of_some _ e,c⟩
 ·intro i v s' Q' E' hv q'
  have hv':its[i]?=some v:=by simpa using hv
  have hi:i < its.length:=(List.getElem?_eq_some_iff.mp hv').1
  have hb:(bs.map V.bl)[i]?=some (.bl (bs.getD i false)):=by
   rw[List.getElem?_map,List.getElem?_eq_getElem (by rw[← hlen];simpa using hi)]
   simp[List.getD,List.getElem?_eq_getElem (show i < bs.length by rw[← hlen];simpa using hi)]
  obtain⟨u,hu,ru⟩:=rv.get hb
  have e:u=v:=by rw[hv'] at hu;cases hu;rfl
  subst e
  cases ru
  exact wpAny_truthy_bool q'
 ·intro h' tk kk
  have e:(List.range its.toArray.size).any (fun i=>bs.getD i false)=bs.any id:=by
   rw[hlen,Bool.eq_iff_iff,List.any_eq_true,List.any_eq_true]
   constructor
   ·rintro ⟨i,hi,z⟩
    have hi':=List.mem_range.mp hi
    exact⟨bs[i],List.getElem_mem hi',by simpa[List.getD,List.getElem?_eq_getElem hi'] using z⟩
   ·rintro ⟨x,hb,z⟩
    obtain⟨i,hi,rfl⟩:=List.getElem_of_mem hb
    exact⟨i,List.mem_range.mpr hi,by simpa[List.getD,List.getElem?_eq_getElem hi] using z⟩
  rw[e]
  refine⟨.bl _,H,I.kept (t':=tk) fun b o hb=>?_,rfl,q⟩
  have hb2:b≠s.heap.objs.size:=Nat.ne_of_lt (Heap.lt_size hb)
  exact kk b o (by simpa using hb2) (Heap.get?_push_of_some _ hb)
theorem ints_of:∀{ns:List Int} {its:List Value},Vals (ns.map V.int) its→IntsAre its ns
 | [],_,.nil=>.nil
 |n :: ns,_,.cons h r=>by
  obtain⟨t,rfl⟩:=h
  exact .cons n t (ints_of r)
theorem of_ints {ns:List Int}{its:List Value}(h:IntsAre its ns):Vals (ns.map V.int) its:=by
 induction h with
 |nil=>exact .nil
 |cons n t _ ih=>exact .cons ⟨t,rfl⟩ ih
def rSorted (K:PySem.W.Frag):List V→Hp→VK→Prop:=fun xs H Q=>∃(p:Addr) (ns:List Int),xs=[.ref p]∧SqL K H p (ns.map V.int)∧ns.length < 64∧∀(l:Addr) (ns':List Int),H l=none→ns'.Perm ns→ns'.Pairwise (·≤·)→Q (.ref l) (upd H l (.lst (ns'.map V.int)))
theorem call_sorted:CallR X (.builtin "sorted") (rSorted X.K):=by
 intro pins s σ H xs us Q I r h
 obtain⟨p,ns,rfl,hq,h64,q⟩:=h
 obtain⟨u,rfl,rx⟩:=vals1 r
 cases rx
 obtain⟨its,rv,pl,hz⟩:=I.list hq
 have hlen:its.length=ns.length:=by rw[← rv.length,List.length_map]
 refine sorted_ints pl.isList (ints_of rv) (by omega) fun out ns' a1 a2 a3=>?_
 obtain⟨e,he⟩:=sortedAll_at s.heap its out
 have lo:=a2.length_eq
 have rl:=of_ints a1
 have zl:(ns'.map V.int).length≤sizeLine:=by rw[List.length_map,lo,sizeLine_eq];omega
 refine⟨.ref (s.heap.objs.size+1),_,I.laid (a:=s.heap.objs.size+1) (o:=.lst (ns'.map V.int)) (t':=s.toks) (fun _ _=>sortedAll_old) (Nat.le_succ _) ⟨zl,out.toList,e,rl,?_⟩,rfl,q _ ns' (I.hok.fresh (Nat.le_succ _)) a2 a3⟩
 rw[Array.toArray_toList]
 exact he
end
end L2
namespace L2
open PySem PyProof.Rows
section
variable {P:Program} {w:World} {A:Around} {E:Value→Shared→Prop} {s:Shared} {b:Bool}
section
variable {R:Result→Shared→Prop} {I:Addr} {fp wr:List Addr} {G:Array GenState→Array GenState→Prop} {n:Nat} {Pv:Nat→Value→Prop} {St:Nat→Shared→Prop}
theorem SetOf_eq {K:Type}[DecidableEq K]{knd:PySem.KeyKind P w K}{h:Heap}{a:Addr}{S S':K→Bool}{n n':Nat}(q:h.SetOf knd a S n)(e:S=S')(en:n=n'):h.SetOf knd a S' n':=by subst e en;exact q
end
end
abbrev emp (g:Bool):Obj:={ cls:=.type "set",dict:=none,data:=.set #[] 0 (.fresh 0 0 g) }
theorem set_boot:bootBuiltins "set"=some (.type "set"):=by decide +kernel
end L2
set_option maxHeartbeats 2000000
namespace L2
open PySem PySem.Spec PyProof.Rows
variable {X:Cx}
theorem vint {ns:List Int}{its:List Value}(rv:Vals (ns.map V.int) its){i:Nat}{p:Int}(h:ns[i]?=some p):∃t,its[i]?=some (.int p t):=by
 obtain⟨u,hu,ru⟩:=rv.get (show (ns.map V.int)[i]?=some (.int p) by rw[List.getElem?_map,h];rfl)
 obtain⟨t,rfl⟩:=(show ∃t,u=Value.int p t from ru)
 exact⟨t,hu⟩
end L2
set_option maxHeartbeats 4000000
namespace L2
open PySem PyProof.Rows
def ddlS (acc:List Int)(x:Int):List Int:=if x∈acc then acc else acc++[x]
def ddl (ns:List Int):List Int:=ns.foldl ddlS []
theorem ddl_snoc (ns:List Int)(x:Int):ddl (ns++[x])=if x∈ddl ns then ddl ns else ddl ns++[x]:=by
 unfold ddl
 rw[List.foldl_append];rfl
theorem snoc_ind {P:List Int→Prop}(h0:P [])(h1:∀l x,P l→P (l++[x]))(l:List Int):P l:=by
 have:∀n (l:List Int),l.length=n→P l:=by
  intro n
  induction n with
  |zero=>intro l h;rw[List.length_eq_zero_iff.mp h];exact h0
  |succ n ih=>
   intro l h
   have hn:l≠[]:=by intro z;rw[z] at h;cases h
   rw[← List.dropLast_concat_getLast hn]
   exact h1 _ _ (ih _ (by rw[List.length_dropLast,h];rfl))
 exact this _ l rfl
theorem ddl_mem (ns:List Int):∀x,x∈ddl ns↔x∈ns:=by
 refine snoc_ind (P:=fun ns=>∀x,x∈ddl ns↔x∈ns) (fun x=>Iff.rfl) (fun l y ih x=>?_) ns
 rw[ddl_snoc,List.mem_append]
 split
 ·rename_i h
  rw[ih]
  refine⟨.inl,fun z=>z.elim id fun z=>?_⟩
  have:x=y:=by simpa using z
  rw[this];exact(ih y).mp h
 ·rw[List.mem_append,ih]
theorem ddl_le (ns:List Int):(ddl ns).length≤ns.length:=by
 refine snoc_ind (P:=fun ns=>(ddl ns).length≤ns.length) (Nat.le_refl _) (fun l y ih=>?_) ns
 rw[ddl_snoc,List.length_append]
 split
 ·omega
 ·rw[List.length_append];omega
section
variable {P:Program} {w:World} {A:Around} {E:Value→Shared→Prop} {s:Shared}
section
variable {R:Result→Shared→Prop} {I:Addr} {fp wr:List Addr} {G:Array GenState→Array GenState→Prop} {n:Nat} {Pv:Nat→Value→Prop} {St:Nat→Shared→Prop}
theorem upd_int (W:WalksS P w A.in1 I fp wr G n Pv St)(T:Addr)(hT:T∉fp){ns:List Int}(hn:n=ns.length)(hn9:ns.length≤1000)(hv:∀i v,Pv i v→∃z t,ns[i]?=some z∧v=.int z t):∀(k i:Nat) (s:Shared),n - i=k→i≤n→St i s→s.heap.SetOf (intKind P w) T (fun z=>decide (z∈ns.take i)) (ddl (ns.take i)).length→
   (∀s',Moved (T :: wr) G s s'→s'.heap.SetOf (intKind P w) T (fun z=>decide (z∈ns.take n)) (ddl (ns.take n)).length→R (.ok (.ret .none)) s')→codeAny (model P w) A (.builtin "set.update.loop" ⟨[.ref T,.ref I],[]⟩) R s:=by
 have hTw:T∉wr:=fun h=>hT (W.sub _ h)
 have up:∀x∈wr,x∈T :: wr:=fun x hx=>List.mem_cons_of_mem _ hx
 intro k
 induction k with
 |zero=>
  intro i s hk hi st hS hR
  obtain rfl:i=n:=by omega
  refine codeAny_builtin PyProof.Rows.F.entry_set_update_loop ?_
  rw[Around.under_plainId PyProof.Rows.F.plain_set_update_loop _]
  refine wpAny_bind (m:=pyNext (.ref I)) (W.done s _ _ st fun s' mv=>?_)
  refine wpAny_pure (hR s' (mv.mono up) ?_)
  obtain⟨o,es,ep,t,ho,q⟩:=hS
  exact⟨o,es,ep,t,mv.heap T _ hTw ho,q⟩
 |succ k ih=>
  intro i s hk hi st hS hR
  have lt:i < n:=by omega
  refine codeAny_builtin PyProof.Rows.F.entry_set_update_loop ?_
  rw[Around.under_plainId PyProof.Rows.F.plain_set_update_loop _]
  refine wpAny_bind (m:=pyNext (.ref I)) (W.item i s _ _ lt st fun v s' hp st' mv=>?_)
  obtain⟨z,tz,hz,rfl⟩:=hv i v hp
  have hS1:s'.heap.SetOf (intKind P w) T (fun z=>decide (z∈ns.take i)) (ddl (ns.take i)).length:=by
   obtain⟨o,es,ep,t,ho,q⟩:=hS
   exact⟨o,es,ep,t,mv.heap T _ hTw ho,q⟩
  refine wpAny_bind (m:=holding [Value.int z tz] (setAdd T (.int z tz))) (wpAny_holding ?_)
  unfold setAdd
  refine wpAny_holding (wpAny_bind ((intKind P w).pyHash (k:=z) (intKind_is _ _ _ _) ?_))
  refine wpAny_setAddHashed_of (knd:=intKind P w) (k:=z) (s:={ s' with toks:=s'.toks+1 }) (intKind_is _ _ _ _) rfl hS1 (by have:=ddl_le (ns.take i);rw[List.length_take] at this;unfold scanBound;omega) fun h' sb hS2=>?_
  have et:ns.take (i+1)=ns.take i++[z]:=by rw[List.take_add_one,hz];rfl
  have hS3:h'.SetOf (intKind P w) T (fun z=>decide (z∈ns.take (i+1))) (ddl (ns.take (i+1))).length:=by
   refine SetOf_eq hS2 (by funext u;rw[et];simp) ?_
   rw[et,ddl_snoc]
   by_cases h0:z∈ns.take i
   ·rw[if_pos (by simpa using h0),if_pos ((ddl_mem _ z).mpr h0)]
   ·rw[if_neg (by simpa using h0),if_neg (fun y=>h0 ((ddl_mem _ z).mp y)),List.length_append];rfl
  refine wpAny_pure ⟨plainId_quiet PyProof.Rows.F.plain_set_update_loop _,ih (i+1) _ (by omega) lt (W.frame _ s' _ _ st' (Nat.le_succ _) fun x hx o e=>?_) hS3 fun s2 mv2 q=>?_⟩
  ·rw[sb.2 x (fun z=>hT (by rw[← z];exact hx))];exact e
  ·refine hR s2 (Moved.trans W.gtrans ((mv.mono up).then_heap (Nat.le_succ _) fun x o hx e=>?_) mv2) q
   rw[sb.2 x (fun z=>hx (by rw[z];exact List.mem_cons_self))];exact e
end
def IntS (P:Program)(w:World)(ns:List Int)(s:Shared)(h':Heap):Prop:=
 h'.SetOf (intKind P w) s.heap.objs.size (fun z=>decide (z∈ns)) (ddl ns).length∧∀x o,x < s.heap.objs.size→s.heap.get? x=some o→h'.get? x=some o
theorem call_setI {l:Addr}{ns:List Int}{its:Array Value}{Q:Value→Shared→Prop}(hh:A.handled=none)(hl:s.heap.IsList l its)(hn9:ns.length≤1000)(hsz:its.size=ns.length)(hi:∀(i:Nat) (v:Value),its[i]?=some v→∃z t,ns[i]?=some z∧v=.int z t)(h:∀(h':Heap) (tk:Nat),IntS P w ns s h'→Q (.ref s.heap.objs.size) { s with heap:=h',toks:=tk }):wpAny (model P w) A (call (.type "set") [.ref l]) Q E s:=by
 obtain⟨c,tl,mro⟩:=PySem.F.called_set.mro
 have made:=PySem.F.called_set.made
 have sub:=PySem.F.called_set.sub
 have nt:=PySem.F.called_set.notType
 have cc:=PySem.F.called_set.canCreate
 have tc:=PySem.F.typeCall_set_1 (.ref l)
 refine wpAny_call (codeAny_of_tree (show wpAny _ _ (callAny (.type "set") _) _ _ _ from wpAny_pure ⟨Code.quiet_builtin _ (by decide +kernel),codeAny_builtin PySem.F.entry_type_call ?_⟩))
 rw[Around.under_plain (weight_type_call_type "set" [.ref l] []) rfl]
 repeat (any_goals (first | assumption | wp_step))
 refine codeAny_mono (code_set_new_1 (.ref l) (E:=E) (Q₁:=fun x t=>∃g:Bool,x=.ref s.heap.objs.size∧t={ s with heap:=s.heap.push (emp g) }) fun g=>⟨g,rfl,rfl⟩) fun r t hr=>?_
 cases r with
 |error e=>exact hr
 |ok fl=>
  cases fl with
  |ret x=>
   obtain⟨g,rfl,rfl⟩:=hr
   have hS:(s.heap.push (emp g)).get? s.heap.objs.size=some (emp g):=Heap.get?_push_size _ rfl
   have hT:Shared.TypeIs { s with heap:=s.heap.push (emp g) } (.ref s.heap.objs.size) "set":=⟨_,hS,rfl⟩
   have li:=PySem.F.called_set.init.lookup
   have bi:=PySem.F.called_set.init.bind (.ref s.heap.objs.size)
   repeat (any_goals (first | assumption | wp_step))
   refine codeAny_mono (codeAny_call_builtin (R:=wants (fun r t=>r=.none∧∃h' tk,t={ s with heap:=h',toks:=tk }∧IntS P w ns s h') E) PySem.F.called_set.init.plain PySem.F.entry_set_init (check_set_init_1 hT ?_)) fun r t hr=>?_
   ·obtain⟨ol,hol,hc,m,hd⟩:=hl
    obtain⟨cls,dict,data,sls⟩:=ol
    simp only at hc hd
    subst hc hd
    have hol':(s.heap.push (emp g)).get? l=some ⟨.type "list",dict,.seq its m,sls⟩:=Heap.get?_push_of_some _ hol
    have n1:=PySem.F.sub_list_set
    have n2:=PySem.F.sub_list_frozenset
    have n3:(Value.type "list" == Value.type "dict")=false:=rfl
    have hl1:(s.heap.push (emp g)).IsList l its:=⟨_,hol',rfl,m,rfl⟩
    unfold Builtin.«set.__init__» noKeywords Builtin.Frozenset.updateFrom
    generalize hPI:pyIter=PI
    wp_walk
    subst hPI
    refine wpAny_pyIter_list hl1 (wpAny_bind (wpAny_runValue ?_))
    have lts:l < s.heap.objs.size:=Heap.lt_size hol
    have h3:A.in1.in1.in1.handled=none:=by simp[hh]
    have sz:(s.heap.push (emp g)).objs.size=s.heap.objs.size+1:=Heap.size_push ..
    have ne1:l≠(s.heap.push (emp g)).objs.size:=by rw[sz];exact Nat.ne_of_lt (Nat.lt_succ_of_lt lts)
    have ne2:s.heap.objs.size∉[(s.heap.push (emp g)).objs.size,l]:=by rw[sz];simp only[List.mem_cons,List.not_mem_nil,or_false,not_or];exact⟨Nat.ne_of_lt (Nat.lt_succ_self _),Nat.ne_of_gt lts⟩
    refine upd_int ((Walks.list h3 _ l ne1 its).toS) s.heap.objs.size ne2 (ns:=ns) hsz hn9 hi (its.size - 0) 0 _ rfl (Nat.zero_le _) ⟨⟨_,Heap.get?_push_size _ rfl,rfl,rfl⟩,hl1.push _⟩ ?s0 ?sR
    case s0=>
     exact SetOf_eq ((setObjOf_fresh (knd:=intKind P w) g).setOf (Heap.get?_push_of_some _ hS) (by unfold scanBound;omega)) rfl rfl
    case sR=>
     intro s' mv hS'
     obtain⟨h',g',d',tk',os'⟩:=s'
     have eg:g'=s.gens:=mv.gens
     have ed:d'=s.drawn:=mv.drawn
     have eo:os'=s.os:=mv.os
     subst eg ed eo
     refine wpAny_pure (show wpAny _ _ (ret Value.none) _ _ _ from wpAny_pure ⟨rfl,h',tk',rfl,SetOf_eq hS' (by rw[hsz,List.take_length]) (by rw[hsz,List.take_length]),fun x o hx e=>?_⟩)
     refine mv.heap x o ?_ (Heap.get?_push_of_some _ (Heap.get?_push_of_some _ e))
     rw[sz]
     simp only[List.mem_cons,List.not_mem_nil,or_false,not_or]
     exact⟨Nat.ne_of_lt hx,Nat.ne_of_lt (Nat.lt_succ_of_lt hx)⟩
   ·cases r with
    |error e=>exact hr
    |ok fl=>
     cases fl with
     |ret r=>
      obtain⟨rfl,h',tk,rfl,q⟩:=hr
      repeat (any_goals (first | assumption | wp_step))
      exact h _ _ q
     |_=>exact hr.elim
  |_=>exact hr.elim
end
section
variable {X:Cx}
def tLenSetI (K:PySem.W.Frag)(ta:TE):TE:=fun σ H Q=>tCons ta tNil σ H fun vs H1=>∃p ns,vs=[.ref p]∧SqL K H1 p (ns.map V.int)∧ns.length≤1000∧Q (.int ((ddl ns).length:Nat)) H1
theorem pe_lensetI {e:Expr}{ta:TE}{p p2 pos pos2:Pos}(hc:X.calm=true)(hgl:Gl X "len")(hml:X.mg "len"=none)(hgs:Gl X "set")(hms:X.mg "set"=none)(ha:PE X e ta)(hs:starEach [e] X.env=(false,eval e X.env) :: starEach [] X.env:=by rfl)(hs2:starEach [.Call (.Name "set" p2) [e] [] pos2] X.env=(false,eval (.Call (.Name "set" p2) [e] [] pos2) X.env) :: starEach [] X.env:=by rfl) :
  PE X (.Call (.Name "len" p) [.Call (.Name "set" p2) [e] [] pos2] [] pos) (tLenSetI X.K ta):=by
 intro pins s σ H Q I h
 refine wpAny_Call_Name_kw (ld_blt I hgl hml PySem.boot_len (PyProof.Rows.callWith_builtin1 ?_ hs2 rfl))
 rw[hs2]
 show wpAny _ _ (spliced ((false,eval (.Call (.Name "set" p2) [e] [] pos2) X.env) :: backTo pos (starEach [] X.env))) _ _ s
 refine Calls.spliced_cons (wpAny_Call_Name_kw (ld_blt I hgs hms set_boot (PyProof.Rows.callWith_type1 ?_ hs rfl)))
 refine thn (pa_cons ha pa_nil hs pos2 pins s σ H _ I h) fun us s1 ⟨vs,H1,I1,r1,pq,ns,e1,hq,hn9,q⟩=>?_
 cases e1
 obtain⟨u,rfl,rx⟩:=vals1 r1
 cases rx
 obtain⟨its,rv,pl,hz⟩:=I1.list hq
 have hlen:its.toArray.size=ns.length:=by rw[List.size_toArray,← rv.length,List.length_map]
 refine call_setI (ns:=ns) (I1.ok.hd hc) pl.isList hn9 hlen (fun i v hv=>?_) fun h' tk ⟨⟨o,es,ep,t,ho,ex,hd,_,_,hbd,hf,hn⟩,kp⟩=>?_
 ·have hv':its[i]?=some v:=by simpa using hv
  have hi:i < its.length:=(List.getElem?_eq_some_iff.mp hv').1
  have hi':i < ns.length:=by rw[← hlen];simpa using hi
  obtain⟨t,ht⟩:=vint rv (List.getElem?_eq_getElem hi')
  rw[hv'] at ht
  cases ht
  exact⟨_,t,List.getElem?_eq_getElem hi',rfl⟩
 ·refine Calls.spliced_nil ?_
  have le:=ddl_le ns
  refine call_len_set ho ex hd hf (by rw[hn];omega) ?_
  rw[hn]
  exact⟨.int ((ddl ns).length:Nat),H1,I1.kept (t':=_) fun x o e=>kp x o (Heap.lt_size e) e,⟨_,rfl⟩,q⟩
end
end L2
namespace K56
open PySem L2
section
variable {P:Program} {w:World} {K:PySem.W.Frag} {mg:Str→Option Value} {base:Heap} {f g1 g2 g3 g4 g5 g6 g7 g8:Addr} {fd gd1 gd2 gd3 gd4 gd5 gd6 gd7 gd8:FuncData} {CX:CXT}
variable {CR:Addr} {CK:Kd→Addr} {fW fJ fT fS:Kd→Addr} {fdW fdJ fdT fdS:Kd→FuncData}
def spRPG (K:PySem.W.Frag):Sp:=fun vs H Q _=>∃(l:Addr) (ns:List Int) (m:Int),vs=[.ref l,.int m]∧SqL K H l (ns.map V.int)∧(∀x∈ns,0≤x∧x < m)∧ns.length≤100∧∀H',Same H H'→Q .non H'
theorem ok_rpg {dV:Value}(F:FunD K "refuse_points" "refuse_points" sRP dV f fd)(ma:mg "all"=none)(G1:FnOk P w K mg base CX0 2 g1 gd1 ["thing","bound"] spNB)(b1:Binds K gd1 ["thing","bound"] [])(k1:PySem.W.keepIn K (.ref g1)=true)(m1:mg "is_number_below"=some (.ref g1)) :
  FnOk P w K mg base CX 3 f fd ["some","many"] (spRPG K):=by
 refine F.ok scRP (fun vs H Q E h=>?_) (fun cdv A outer s H vs Q E hr h=>?_)
 ·obtain⟨l,ns,m,rfl,hl,hn,h100,q⟩:=h
  rfl
 obtain⟨l,ns,m,rfl,hl,hn,h100,q⟩:=h
 refine⟨_,(pss_one (ps_if (pt_not (pt_val (pe_callB (call_all rfl) rfl ma PyProof.Rows.boot_all (pa_cons (pe_comp (nl:=1) (fr:=[1]) (Nc:=["point","many"]) (cl:=[("many",s.heap.objs.size+1)]) rfl ⟨rfl,rfl,by decide +kernel,by decide +kernel,fun x c h=>h,has_of rfl,rfl,fun i n h=>match i,h with | 0,h=>by cases h;exact⟨1,rfl,rfl,rfl,rfl,.inl rfl⟩ | k+1,h=>by rw[show 1+(k+1)=k+2 by omega] at h;cases h⟩
    (pi_list (pv 0)) (fun C s3 H3 fp pins=>(pg_name (i:=0) nd_point_many rfl (Or.inl rfl))) (fun C s3 H3 fp pins=>pif_nil)
    (fun C s3 H3 fp pins=>(pe_call G1 hr rfl m1 k1 b1 .nil pass0 (pa_cons (pv 0) (pa_cons (pv 1) pa_nil))))) pa_nil)))) (pss_one ps_never) pss_nil)),?_⟩
 refine⟨_,rfl,l,rfl,⟨_,hl⟩,fun D hD=>?_⟩
 have sD:=same_new hD (.lst [])
 refine comp_list (xs:=ns.map V.int) (fun k zs H'=>Same H H'∧H' D=some (.lst zs)∧zs=(List.replicate k true).map V.bl) ⟨sD,upd_same,rfl⟩ (fun k zs H' h=>h.2.1) (fun k zs H' _ h=>h.1.seq hl) ?_ ?_
 ·rintro k zs x H1 hx ⟨s1,e1,rfl⟩ C hC
  have hk:k < ns.length:=by have:=(List.getElem?_eq_some_iff.mp hx).1;rwa [List.length_map] at this
  obtain⟨y,hy,rfl⟩:=List.mem_map.mp (List.mem_of_getElem? hx)
  obtain⟨y0,y1⟩:=hn y hy
  refine⟨keep1.1,keep1.2,iteT ?_⟩
  refine⟨_,rfl,_,rfl,y,m,rfl,y0,y1,e1,small1000 (by rw[List.length_map,List.length_replicate];omega),hC _ _ ⟨s1.change hD,upd_same,?_⟩⟩
  rw[List.replicate_succ',List.map_append];rfl
 ·rintro zs H1 ⟨s1,e1,rfl⟩
  refine⟨D,_,rfl,SqL.of e1,_,rfl,ifF ?_ ?_⟩
  ·simp
  ·exact q _ s1
theorem rp_two {g:Addr}{gd:FuncData}(F:FnOk P w K mg base CX0 3 g gd ["some","many"] (spRPG K)):FnOk P w K mg base CX0 3 g gd ["some","many"] (spRP K):=
 F.weak fun vs H Q E h=>by
  obtain⟨l,i,j,m,rfl,hl,i0,i1,j0,j1,q⟩:=h
  refine⟨l,[i,j],m,rfl,hl,fun x hx=>?_,by show 2≤100;decide,q⟩
  rcases List.mem_cons.mp hx with rfl | hx
  ·exact⟨i0,i1⟩
  ·rw[List.mem_singleton.mp hx];exact⟨j0,j1⟩
def NoHo (ds:List RD):Prop:=∀d∈ds,d.1≠.ho
def spRHo (CN:Addr)(K:PySem.W.Frag):Sp:=fun vs H Q _=>∃(n l:Addr) (m:Int) (ds:List RD),vs=[.ref n]∧NetAt CN K H n l m ds∧ds.length≤100∧NoHo ds∧∀H',Same H H'→Q .non H'
abbrev sRHo:Stmt:=top 39
theorem scRHo:FnScope ["net","number","row"] ["net"] (defScope sRHo):=⟨rfl,rfl,rfl,by decide +kernel,rfl,by decide +kernel,by decide +kernel⟩
theorem ok_rho {dV:Value}(F:FunD K "refuse_holds" "refuse_holds" sRHo dV f fd){CN:Addr}(NTx:NT K mg CN)(men:mg "enumerate"=none){CR:Addr}{CK:Kd→Addr}{fW:Kd→Addr}{fdW:Kd→FuncData}(T:RT K mg CR CK)(GW:∀k,FnOk P w K mg base CX0 1 (fW k) (fdW k) ["self"] (spWord k))(bW:∀k,Binds K (fdW k) ["self"] [])(mW:∀k,Meth K (CK k) "word" (fW k)){gRo:Addr}{gdRo:FuncData}(GRo:FnOk P w K mg base CX0 4 gRo gdRo ["self"] (spRows CN K CK))(bRo:Binds K gdRo ["self"] [])(mRo:Meth K CN "rows" gRo) :
  FnOk P w K mg base CX 5 f fd ["net"] (spRHo CN K):=by
 refine F.ok scRHo (fun vs H Q E h=>?_) (fun cdv A outer s H vs Q E hr h=>?_)
 ·obtain⟨n,l,m,ds,rfl,nt,h100,nh,q⟩:=h
  rfl
 obtain⟨n,l,m,ds,rfl,nt,h100,nh,q⟩:=h
 have r1:=hr.mono (show 1≤4 by omega)
 refine⟨_,(pss_one (ps_for PassesOwn.never rfl (pi_enum rfl men rfl (pa_cons (pe_meth0 (pv 0) NTx.cl mRo GRo hr bRo .nil pass0) pa_nil)) (pg_tup rfl (pgs_cons (pg_name (i:=1) scRHo.nd rfl (Or.inl rfl)) (pgs_cons (pg_name (i:=2) scRHo.nd rfl (Or.inl rfl)) pgs_nil)))
   (pss_one (ps_if (pt_cmpR op_eq (pe_methD0 (f:=fW) (fd:=fdW) (sp:=spWord) (pv 2) T.cl mW GW r1 bW .nil pass0) pe_str (nomark _)) (pss_one ps_never) pss_nil)))),?_⟩
 obtain⟨dn,hn⟩:=nt.ob
 refine⟨_,rfl,n,dn,_,rfl,hn,nflds_no _ _ (by decide +kernel) (by decide +kernel),n,l,m,ds,rfl,nt,h100,fun a xs H1 s1 na e1 hR=>?_⟩
 refine⟨a,rfl,⟨_,SqL.of e1⟩,?_⟩
 refine for_enum (xs:=xs) (fun i σ H'=>Same H1 H'∧∃z1 z2,σ=[some (.ref n),z1,z2]) ⟨Same.refl _,_,_,rfl⟩ (fun i σ H' _ h=>h.1.seq (SqL.of e1)) ?_ ?_
 ·rintro i x σ H2 T2 hx ⟨s2,z1,z2,rfl⟩ hT
  have hi:i < ds.length:=by have:=(List.getElem?_eq_some_iff.mp hx).1;rw[hR.length] at this;exact this
  obtain⟨r,z,hx',_,_⟩:=hR.at (List.getElem?_eq_getElem hi)
  rw[hx] at hx'
  cases hx'
  have sT:=same_new hT (.tup [.int (i:Int),.ref r])
  refine⟨T2,_,rfl,SqT.of upd_same,rfl,_,_,rfl,_,_,rfl,rfl,?_⟩
  generalize upd H2 T2 (.tup [.int (i:Int),.ref r])=H3 at sT ⊢
  obtain⟨r',z',hx'',rw3,_⟩:=(hR.same (s2.trans sT)).at (List.getElem?_eq_getElem hi)
  rw[hx] at hx''
  cases hx''
  have hd:=List.getElem?_eq_getElem hi
  generalize ds[i]=d at rw3 hd
  obtain⟨dx,hx3⟩:=id rw3
  have nk:=nh d (List.mem_of_getElem? hd)
  refine⟨_,rfl,d.1,r,dx,_,rfl,hx3,(rflds_no _ _ _ (by decide +kernel) (by decide +kernel) (by decide +kernel)),_,rfl,rfl,_,rfl,ifF (by show decide (V.str d.1.wd=V.str Kd.ho.wd)=false;rw[dec_wd];exact decide_eq_false nk) ⟨s2.trans sT,_,_,rfl⟩⟩
 ·rintro σ H2 ⟨s2,_⟩
  exact q H2 (s1.trans s2)
theorem op_in_seqK {X:Cx}{K:PySem.W.Frag}(h:X.K=K):OpR X (compareOp .In) (rIn K false):=by subst h;exact op_in_seq
theorem grp_ok {F:Nat→Int}{m:Nat}{ps:List Int}(h:ps∈(grp F m).map (·.2)):ps≠[]∧(∀x∈ps,x∈upTo m)∧ps.length≤m:=by
 rw[grp_eq,List.map_map] at h
 obtain⟨p,hp,rfl⟩:=List.mem_map.mp h
 have pm:p < m:=by
  unfold firsts at hp
  exact List.mem_range.mp (List.mem_filter.mp hp).1
 show mem F m (F p)≠[]∧(∀x∈mem F m (F p),x∈upTo m)∧(mem F m (F p)).length≤m
 unfold mem
 refine⟨fun z=>?_,fun x hx=>?_,?_⟩
 ·have:(p:Int)∈((List.range m).filter fun q=>decide (F q=F p)).map fun (q:Nat)=>(q:Int):=List.mem_map.mpr ⟨p,List.mem_filter.mpr ⟨List.mem_range.mpr pm,by simp⟩,rfl⟩
  rw[z] at this
  cases this
 ·obtain⟨q,hq,rfl⟩:=List.mem_map.mp hx
  exact ints_mem (List.mem_range.mp (List.mem_filter.mp hq).1)
 ·rw[List.length_map]
  have:=List.length_filter_le (fun q=>decide (F q=F p)) (List.range m)
  rw[List.length_range] at this
  exact this
def spLoose0 (CN:Addr)(K:PySem.W.Frag):Sp:=fun vs H Q _=>∃(n l b:Addr) (m:Nat) (ds:List RD),vs=[.ref n,.ref b]∧NetAt CN K H n l (m:Int) ds∧(∀d∈ds,PtOk (m:Int) d.2.1 d.2.2.1)∧1≤m∧m≤20∧ds.length≤100∧H b=some (.lst ((upTo m).map V.int))∧∀l' H',Same H H'→H' l'=some (.lst [])→Q (.ref l') H'
def spREnds0 (CN:Addr)(K:PySem.W.Frag):Sp:=fun vs H Q _=>∃(n l b:Addr) (m:Nat) (ds:List RD),vs=[.ref n,.ref b]∧NetAt CN K H n l (m:Int) ds∧(∀d∈ds,PtOk (m:Int) d.2.1 d.2.2.1)∧1≤m∧m≤20∧ds.length≤100∧NoHo ds∧H b=some (.lst ((upTo m).map V.int))∧∀H',Same H H'→Q .non H'
theorem nd_point_ends:(["point","ends"]:List Str).Nodup:=by decide +kernel
abbrev sLoose:Stmt:=top 59
theorem scLoose:FnScope ["net","ends","loose","group"] ["net","ends"] (defScope sLoose):=⟨rfl,rfl,rfl,by decide +kernel,rfl,by decide +kernel,by decide +kernel⟩
theorem ok_loose {dV:Value}(F:FunD K "loose_points" "loose_points" sLoose dV f fd){CN:Addr}(man:mg "any"=none)(mso:mg "sorted"=none)(G1:FnOk P w K mg base CX0 6 g1 gd1 ["net"] (spGroups CN K))(b1:Binds K gd1 ["net"] [])(k1:PySem.W.keepIn K (.ref g1)=true)(m1:mg "groups"=some (.ref g1)) :
  FnOk P w K mg base CX 7 f fd ["net","ends"] (spLoose0 CN K):=by
 refine F.ok scLoose (fun vs H Q E h=>?_) (fun cdv A outer s H vs Q E hr h=>?_)
 ·obtain⟨n,l,b,m,ds,rfl,nt,pt,mo,m20,h100,hb,q⟩:=h
  rfl
 obtain⟨n,l,b,m,ds,rfl,nt,pt,mo,m20,h100,hb,q⟩:=h
 refine⟨_,(pss_cons (ps_set (i:=2) scLoose.nd rfl (Or.inl rfl) (pe_lst pa_nil))
  (pss_cons (ps_for PassesOwn.never rfl (pi_list (pe_call G1 hr rfl m1 k1 b1 .nil pass0 (pa_cons (pv 0) pa_nil))) (pg_name (i:=3) scLoose.nd rfl (Or.inl rfl))
   (pss_one (ps_if (pt_not (pt_val (pe_callB (call_any rfl) rfl man PyProof.Rows.boot_any (pa_cons (pe_comp (nl:=1) (fr:=[1]) (Nc:=["point","ends"]) (cl:=[("ends",s.heap.objs.size+1)]) rfl ⟨rfl,rfl,by decide +kernel,by decide +kernel,fun x c h=>h,has_of rfl,rfl,fun i n h=>match i,h with | 0,h=>by cases h;exact⟨1,rfl,rfl,rfl,rfl,.inl rfl⟩ | k+1,h=>by rw[show 1+(k+1)=k+2 by omega] at h;cases h⟩
    (pi_list (pv 3)) (fun C s3 H3 fp pins=>(pg_name (i:=0) nd_point_ends rfl (Or.inl rfl))) (fun C s3 H3 fp pins=>pif_nil)
    (fun C s3 H3 fp pins=>(pe_cmpR (op_in_seqK (K:=K) rfl) (pv 0) (pv 1) rfl))) pa_nil)))) (pss_one (ps_expr (pe_bm PySem.F.plainAttrs_list PySem.F.slot_list_extend PySem.F.type_list_extend mt_extend (pv 2) (pa_cons (pv 3) pa_nil)))) pss_nil)))
  (pss_one (ps_ret (pe_callB call_sorted rfl mso PyProof.Rows.boot_sorted (pa_cons (pv 2) pa_nil)))))),?_⟩
 refine⟨by show 0≤sizeLine;decide,fun L hL=>?_⟩
 have s1:=same_new hL (.lst [])
 have eL:upd H L (.lst []) L=some (.lst []):=upd_same
 generalize upd H L (.lst [])=H1 at s1 eL ⊢
 dsimp only[gName]
 refine cut1 (fun σ H'=>(∃z3,σ=[some (.ref n),some (.ref b),some (.ref L),z3])∧Same H1 H') (fun X hX=>?_) ?_
 ·refine⟨_,rfl,n,l,m,ds,rfl,nt.same s1,pt,mo,m20,h100,fun g us H2 s2 ng eg Ig ne=>?_⟩
  refine⟨g,rfl,⟨_,SqL.of eg⟩,?_⟩
  refine for_list (xs:=us) (fun i σ H'=>(∃z3,σ=[some (.ref n),some (.ref b),some (.ref L),z3])∧Same H2 H') ⟨⟨_,rfl⟩,Same.refl _⟩ (fun i σ H' _ h=>h.2.seq (SqL.of eg)) ?_ ?_
  ·rintro i x σ H3 hx ⟨⟨z3,rfl⟩,s3⟩
   have hi:i < ((grp (mk m ds) m).map (·.2)).length:=by rw[← Ig.l];exact(List.getElem?_eq_some_iff.mp hx).1
   obtain⟨a,rfl,_,ea⟩:=Ig.r i x _ hx (List.getElem?_eq_getElem hi)
   obtain⟨p0,pin,pl⟩:=grp_ok (List.getElem_mem hi)
   generalize ((grp (mk m ds) m).map (·.2))[i]=ps at ea p0 pin pl
   have ea3:=s3 _ _ ea
   refine⟨_,rfl,a,rfl,⟨_,SqL.of ea3⟩,fun D hD=>?_⟩
   have sD:=same_new hD (.lst [])
   refine comp_list (xs:=ps.map V.int) (fun k zs H'=>Same H3 H'∧H' D=some (.lst zs)∧zs=(List.replicate k true).map V.bl) ⟨sD,upd_same,rfl⟩ (fun k zs H' h=>h.2.1) (fun k zs H' _ h=>h.1.seq (SqL.of ea3)) ?_ ?_
   ·rintro k zs x H4 hx' ⟨s4,e4,rfl⟩ C hC
    have hk:k < ps.length:=by have:=(List.getElem?_eq_some_iff.mp hx').1;rwa [List.length_map] at this
    obtain⟨y,hy,rfl⟩:=List.mem_map.mp (List.mem_of_getElem? hx')
    have hb4:=(s1.trans (s2.trans (s3.trans s4))) _ _ hb
    refine⟨keep1.1,keep1.2,iteT ?_⟩
    refine⟨_,rfl,_,rfl,b,_,rfl,.inl (SqL.of hb4),rfl,flat_ints _,?_⟩
    rw[inV_ints,decide_eq_true (pin y hy)]
    refine⟨e4,small1000 (by rw[List.length_map,List.length_replicate];omega),hC _ _ ⟨s4.change hD,upd_same,?_⟩⟩
    rw[List.replicate_succ',List.map_append];rfl
   rintro zs H4 ⟨s4,e4,rfl⟩
   rw[List.length_map] at e4
   refine⟨D,_,rfl,SqL.of e4,_,rfl,ifF ?_ ⟨⟨_,rfl⟩,s3.trans s4⟩⟩
   cases ps with
   |nil=>exact absurd rfl p0
   |cons y r=>rfl
  ·rintro σ H3 ⟨⟨z3,rfl⟩,s3⟩
   exact hX _ _ ⟨⟨_,rfl⟩,s2.trans s3⟩
 rintro σ H2 ⟨⟨z3,rfl⟩,s2⟩
 refine⟨_,rfl,L,[],rfl,SqL.of (s2 _ _ eL),by decide,fun l' ns' hl' pm _=>?_⟩
 have:ns'=[]:=List.Perm.eq_nil pm
 subst this
 exact q l' _ (s1.trans (s2.trans (same_new hl' _))) upd_same
theorem ddl_upTo (m:Nat):(ddl (upTo m)).length=m:=by
 have a:=ddl_le (upTo m)
 have b:=List.Nodup.length_le_of_subset (ints_nd m) (fun x hx=>(ddl_mem (upTo m) x).mpr hx)
 rw[ints_len] at a b
 omega
abbrev sREnds:Stmt:=top 58
theorem scREnds:FnScope ["net","ends","loose"] ["net","ends"] (defScope sREnds):=⟨rfl,rfl,rfl,by decide +kernel,rfl,by decide +kernel,by decide +kernel⟩
theorem ok_rends {dV:Value}(F:FunD K "refuse_ends" "refuse_ends" sREnds dV f fd){CN:Addr}(NTx:NT K mg CN)(b:Bl mg)(ml:mg "len"=none)(mli:mg "list"=none)(mse:mg "set"=none){gMa:Addr}{gdMa:FuncData}(GMa:FnOk P w K mg base CX0 1 gMa gdMa ["self"] (spMany CN K))(bMa:Binds K gdMa ["self"] [])(mMa:Meth K CN "many" gMa)(G1:FnOk P w K mg base CX0 3 g1 gd1 ["some","many"] (spRPG K))(b1:Binds K gd1 ["some","many"] [])(k1:PySem.W.keepIn K (.ref g1)=true)(m1:mg "refuse_points"=some (.ref g1))(G2:FnOk P w K mg base CX0 5 g2 gd2 ["net"] (spRHo CN K))(b2:Binds K gd2 ["net"] [])(k2:PySem.W.keepIn K (.ref g2)=true)(m2:mg "refuse_holds"=some (.ref g2))(G3:FnOk P w K mg base CX0 7 g3 gd3 ["net","ends"] (spLoose0 CN K))(b3:Binds K gd3 ["net","ends"] [])(k3:PySem.W.keepIn K (.ref g3)=true)(m3:mg "loose_points"=some (.ref g3)) :
  FnOk P w K mg base CX 8 f fd ["net","ends"] (spREnds0 CN K):=by
 refine F.ok scREnds (fun vs H Q E h=>?_) (fun cdv A outer s H vs Q E hr h=>?_)
 ·obtain⟨n,l,b',m,ds,rfl,nt,pt,mo,m20,h100,nh,hb,q⟩:=h
  rfl
 obtain⟨n,l,b',m,ds,rfl,nt,pt,mo,m20,h100,nh,hb,q⟩:=h
 have r1:=hr.mono (show 1≤7 by omega)
 have r3:=hr.mono (show 3≤7 by omega)
 have r5:=hr.mono (show 5≤7 by omega)
 refine⟨_,(pss_cons (ps_if (PW.pt (pw_or (pt_not (pt_val (pe_isiQ (i:=1) rfl (Or.inl rfl) b.isi mli rfl rfl PyProof.Rows.boot_list))) (pw_or1 (pt_cmpR op_eq (pe_callB call_len_seq rfl ml PySem.boot_len (pa_cons (pv 1) pa_nil)) pe_int (nomark _))))) (pss_one ps_never) pss_nil)
  (pss_cons (ps_expr (pe_call G1 r3 rfl m1 k1 b1 .nil pass0 (pa_cons (pv 1) (pa_cons (pe_meth0 (pv 0) NTx.cl mMa GMa r1 bMa .nil pass0) pa_nil))))
  (pss_cons (ps_if (pt_cmpR op_lt (pe_lensetI rfl rfl ml rfl mse (pv 1)) (pe_callB call_len_seq rfl ml PySem.boot_len (pa_cons (pv 1) pa_nil)) (nomark _)) (pss_one ps_never) pss_nil)
  (pss_cons (ps_expr (pe_call G2 r5 rfl m2 k2 b2 .nil pass0 (pa_cons (pv 0) pa_nil)))
  (pss_cons (ps_set (i:=2) scREnds.nd rfl (Or.inl rfl) (pe_call G3 hr rfl m3 k3 b3 .nil pass0 (pa_cons (pv 0) (pa_cons (pv 1) pa_nil))))
  (pss_one (ps_if (pt_cmpR op_gt (pe_callB call_len_seq rfl ml PySem.boot_len (pa_cons (pv 2) pa_nil)) pe_int (nomark _)) (pss_one ps_never) pss_nil))))))),?_⟩
 have li:=ints_len m
 have hbS:=SqL.of (K:=K) hb
 refine⟨_,_,true,rfl,.lst hbS,rfl,_,rfl,iteF ⟨_,rfl,b',_,rfl,.inl hbS,rfl,_,rfl,ifF ?_ ?_⟩⟩
 ·rw[List.length_map,li]
  exact decide_eq_false (fun z=>by injection z;omega)
 obtain⟨dn,hn⟩:=nt.ob
 refine⟨_,rfl,_,rfl,n,dn,_,rfl,hn,nflds_no _ _ (by decide +kernel) (by decide +kernel),n,l,_,ds,rfl,nt,b',upTo m,_,rfl,hbS,fun x hx=>?_,by omega,fun H1 s1=>?_⟩
 ·obtain⟨j,hj,rfl⟩:=List.mem_map.mp hx
  have:=List.mem_range.mp hj
  omega
 refine⟨_,rfl,b',upTo m,rfl,s1.seq hbS,by omega,_,rfl,b',_,rfl,.inl (s1.seq hbS),_,_,rfl,rfl,_,rfl,ifF ?_ ?_⟩
 ·rw[ddl_upTo,List.length_map,li]
  exact decide_eq_false (by omega)
 refine⟨_,rfl,n,l,_,ds,rfl,nt.same s1,h100,nh,fun H2 s2=>?_⟩
 have s02:=s1.trans s2
 refine⟨_,rfl,_,rfl,n,l,b',m,ds,rfl,nt.same s02,pt,mo,m20,h100,s02 _ _ hb,fun l' H3 s3 e3=>?_⟩
 refine⟨_,rfl,l',_,rfl,.inl (SqL.of e3),_,_,rfl,rfl,_,rfl,ifF rfl ?_⟩
 exact q H3 (s02.trans s3)
theorem fqs_repl {K:PySem.W.Frag}{H:Hp}{t:Addr}{p:Mq.Q2}(f:Fq K H t p):∀n,Fqs K H (List.replicate n (.ref t)) (List.replicate n p)
 |0=>.nil
 |n+1=>.cons f (fqs_repl f n)
theorem flat_one (x:V):∀n,(List.replicate n [x]).flatten=List.replicate n x
 |0=>rfl
 |n+1=>by rw[List.replicate_succ,List.flatten_cons,flat_one x n];rfl
theorem zero_mx (w:Nat):MxB (List.replicate w (List.replicate w (0,1))) w w 1:=by
 refine⟨List.length_replicate,fun ps hp=>?_,fun ps hp p hp'=>?_⟩
 ·rw[List.eq_of_mem_replicate hp,List.length_replicate]
 ·rw[List.eq_of_mem_replicate hp] at hp'
  rw[List.eq_of_mem_replicate hp']
  exact⟨⟨by decide,by decide⟩,⟨show (0:Nat) < 2 ^ 1 by decide,show (1:Nat) < 2 ^ 1 by decide⟩⟩
theorem getD_repl (w j:Nat):(List.replicate w ((0,1):Mq.Q2)).getD j (0,1)=(0,1):=by
 rw[List.getD_eq_getElem?_getD]
 cases e:(List.replicate w ((0,1):Mq.Q2))[j]? with
 |none=>rfl
 |some p=>exact List.eq_of_mem_replicate (List.mem_of_getElem? e)
theorem zero_get (w i j:Nat):mget (List.replicate w (List.replicate w (0,1))) i j=(0,1):=by
 have e:(List.replicate w (List.replicate w ((0,1):Mq.Q2))).getD i []=[]∨(List.replicate w (List.replicate w ((0,1):Mq.Q2))).getD i []=List.replicate w (0,1):=by
  rw[List.getD_eq_getElem?_getD]
  cases e:(List.replicate w (List.replicate w ((0,1):Mq.Q2)))[i]? with
  |none=>exact .inl rfl
  |some ps=>exact .inr (List.eq_of_mem_replicate (List.mem_of_getElem? e))
 unfold mget
 rcases e with e | e
 ·rw[e];rfl
 ·rw[e];exact getD_repl w j
theorem zero_ln (w:Nat):LnB (List.replicate w (0,1)) w 1:=⟨List.length_replicate,fun p hp=>by
 rw[List.eq_of_mem_replicate hp]
 exact⟨⟨by decide,by decide⟩,⟨show (0:Nat) < 2 ^ 1 by decide,show (1:Nat) < 2 ^ 1 by decide⟩⟩⟩
theorem mx_eq {M X:List (List Mq.Q2)}{m n n':Nat}(b:MxB M m m n)(lX:X.length=m)(rX:∀row∈X,row.length=m∧∀p∈row,Mq.Low p∧Mq.Bd n' p)(v:∀i j,i < m→j < m→Mq.val (mget M i j)=Mq.val (mget X i j)):M=X:=by
 refine xs_ext b.h lX b.w (fun row hr=>(rX row hr).1) fun i j hi hj=>?_
 have g:=rX _ (List.mem_of_getElem? (Mq.getL (show i < X.length by omega)))
 exact Mq.low_ext (b.at hi hj).2.1 (g.2 _ (List.mem_of_getElem? (Mq.getQ1 (by rw[g.1];exact hj)))).1 (v i j hi hj)
theorem ln_eq {R cs:List Mq.Q2}{m n n':Nat}(b:LnB R m n)(lc:cs.length=m)(rc:∀p∈cs,Mq.Low p∧Mq.Bd n' p)(v:∀i,i < m→Mq.val (R.getD i (0,1))=Mq.val (cs.getD i (0,1))):R=cs:=
 qs_ext b.w lc fun i hi=>Mq.low_ext (b.at hi).2.1 (rc _ (List.mem_of_getElem? (Mq.getQ1 (by omega)))).1 (v i hi)
def spTall (CN CT:Addr)(K:PySem.W.Frag):Sp:=fun vs H Q _=>∃(n l:Addr) (m k b:Nat) (ds:List RD) (X:List (List Mq.Q2)) (cs:List Mq.Q2),vs=[.ref n]∧NetAt CN K H n l (m:Int) ds∧(∀d∈ds,RdOk (m:Int) d∧Mq.Bd k d.2.2.2)∧NoHo ds∧ds.length≤40∧(4*k+20)*ds.length+4*k+30≤8900∧Sq m b X cs∧(∀i j,i < m→j < m→eqM m ds i j=Mq.val (mget X i j))∧(∀i,i < m→eqR m ds i=Mq.val (cs.getD i (0,1)))∧∀x H',Same H H'→TabAt CT K H' x (upTo m) X cs→Q (.ref x) H'
abbrev sTall:Stmt:=top 60
theorem scTall:FnScope ["net","many","matrix","comes","row"] ["net"] (defScope sTall):=⟨rfl,rfl,rfl,by decide +kernel,rfl,by decide +kernel,by decide +kernel⟩
theorem ok_tall {dV:Value}(F:FunD K "table_of_all" "table_of_all" sTall dV f fd){CN CT:Addr}(TBx:TB K mg CT)(NTx:NT K mg CN)(T:RT K mg CR CK)(ml:mg "len"=none)(mr:mg "range"=none)(mli:mg "list"=none){aN:Addr}(fN:∀H,Fq K H aN (0,1))(mNO:mg "NOUGHT"=some (.ref aN))(GW:∀k,FnOk P w K mg base CX0 1 (fW k) (fdW k) ["self"] (spWord k))(bW:∀k,Binds K (fdW k) ["self"] [])(mW:∀k,Meth K (CK k) "word" (fW k)){gTI:Addr}{gdTI:FuncData}(GTI:FnOk P w K mg base CX0 1 gTI gdTI ["self","ends","matrix","comes"] (spTInit CT K))(bTI:Binds K gdTI ["self","ends","matrix","comes"] [])(MT:Mk K CT gTI){gRo:Addr}{gdRo:FuncData}(GRo:FnOk P w K mg base CX0 4 gRo gdRo ["self"] (spRows CN K CK))(bRo:Binds K gdRo ["self"] [])(mRo:Meth K CN "rows" gRo){gMa:Addr}{gdMa:FuncData}(GMa:FnOk P w K mg base CX0 1 gMa gdMa ["self"] (spMany CN K))(bMa:Binds K gdMa ["self"] [])(mMa:Meth K CN "many" gMa)(G1:FnOk P w K mg base CX0 6 g1 gd1 ["matrix","row"] (spEnterP K CK))(b1:Binds K gd1 ["matrix","row"] [])(k1:PySem.W.keepIn K (.ref g1)=true)(m1:mg "enter_piece"=some (.ref g1))(G2:FnOk P w K mg base CX0 5 g2 gd2 ["right","row"] (spEnterU K CK))(b2:Binds K gd2 ["right","row"] [])(k2:PySem.W.keepIn K (.ref g2)=true)(m2:mg "enter_push"=some (.ref g2)) :
  FnOk P w K mg base CX 7 f fd ["net"] (spTall CN CT K):=by
 refine F.ok scTall (fun vs H Q E h=>?_) (fun cdv A outer s H vs Q E hr h=>?_)
 ·obtain⟨n,l,m,k,b,ds,X,cs,rfl,nt,hK,nh,h40,hbig,SQ,hM,hRv,q⟩:=h
  rfl
 obtain⟨n,l,m,k,b,ds,X,cs,rfl,nt,hK,nh,h40,hbig,SQ,hM,hRv,q⟩:=h
 have r1:=hr.mono (show 1≤6 by omega)
 have r2:=hr.mono (show 2≤6 by omega)
 have r4:=hr.mono (show 4≤6 by omega)
 have r5:=hr.mono (show 5≤6 by omega)
 refine⟨_,(pss_cons (ps_set (i:=1) scTall.nd rfl (Or.inr rfl) (pe_meth0 (pv 0) NTx.cl mMa GMa r1 bMa .nil pass0))
  (pss_cons (ps_setC (i:=2) (nl:=1) (fr:=[1]) (Nc:=["point","many"]) (cl:=[("many",s.heap.objs.size+1)]) scTall.nd rfl rfl rfl ⟨rfl,rfl,by decide +kernel,by decide +kernel,fun x c h=>h,has_of rfl,rfl,fun i n h=>match i,h with | 0,h=>by cases h;exact⟨1,rfl,rfl,rfl,rfl,.inl rfl⟩ | k+1,h=>by rw[show 1+(k+1)=k+2 by omega] at h;cases h⟩
    (pi_range1 rfl mr (pa_cons (pv 1) pa_nil)) (fun C s3 H3 fp pins=>(pg_name (i:=0) nd_point_many rfl (Or.inl rfl))) (fun C s3 H3 fp pins=>pif_nil)
    (fun C s3 H3 fp pins=>(pe_op op_rep (pe_lst (pa_cons (pe_glob (v:=.ref aN) rfl mNO rfl) pa_nil)) (pv 1))) rfl)
  (pss_cons (ps_set (i:=3) scTall.nd rfl (Or.inl rfl) (pe_op op_rep (pe_lst (pa_cons (pe_glob (v:=.ref aN) rfl mNO rfl) pa_nil)) (pv 1)))
  (pss_cons (ps_for PassesOwn.never rfl (pi_list (pe_meth0 (pv 0) NTx.cl mRo GRo r4 bRo .nil pass0)) (pg_name (i:=4) scTall.nd rfl (Or.inl rfl))
   (pss_one (ps_if (pt_cmpR op_eq (pe_methD0 (pv 4) T.cl mW GW r1 bW .nil pass0) pe_str (nomark _)) (pss_one (ps_expr (pe_call G1 hr rfl m1 k1 b1 .nil pass0 (pa_cons (pv 2) (pa_cons (pv 4) pa_nil))))) (pss_one (ps_expr (pe_call G2 r5 rfl m2 k2 b2 .nil pass0 (pa_cons (pv 3) (pa_cons (pv 4) pa_nil))))))))
  (pss_one (ps_ret (pe_make MT GTI r2 rfl TBx.mT bTI .nil pass0 (pa_cons (pe_listrange rfl rfl mli rfl mr (pa_cons (pv 1) pa_nil)) (pa_cons (pv 2) (pa_cons (pv 3) pa_nil)))))))))),?_⟩
 have hm20:=SQ.m20
 have hm1:=SQ.m1
 obtain⟨dx,hn⟩:=nt.ob
 refine⟨_,rfl,n,dx,_,rfl,hn,nflds_no _ _ (by decide +kernel) (by decide +kernel),n,l,_,ds,rfl,nt,?_⟩
 obtain⟨W,hW⟩:∃W:Nat,W=m:=⟨_,rfl⟩
 have eW:(m:Int)=(W:Int):=by rw[hW]
 show tSeq _ _ _ [some (.ref n),some (.int (m:Int)),none,none,none] H
 rw[eW]
 have hW60:W≤60:=by omega
 have hmW:m≤W:=by omega
 obtain⟨H2,hH2⟩:∃H2:Hp,H2=H:=⟨_,rfl⟩
 have s12:Same H H2:=by rw[hH2];exact Same.refl _
 rw[← hH2]
 refine⟨_,rfl,(W:Int),rfl,by omega,by omega,fun D hD=>?_⟩
 rw[Int.toNat_natCast]
 have sD:=same_new hD (.lst [])
 refine comp_range (n:=W) (fun i zs H'=>Same H2 H'∧H' D=some (.lst zs)∧∃as:List Addr,zs=as.map V.ref∧as.length=i∧as.Nodup∧D∉as∧(∀b∈as,H2 b=none)∧∀b∈as,H' b=some (.lst (List.replicate W (.ref aN)))) ⟨sD,upd_same,[],rfl,rfl,List.nodup_nil,(by simp),(fun b hb=>by cases hb),(fun b hb=>by cases hb)⟩ (fun i zs H' h=>h.2.1) ?_ ?_
 ·rintro i zs H3 hi ⟨s3,e3,as,rfl,la,nd,nD,fr,al⟩ C hC
  refine⟨keep1.1,keep1.2,iteT ?_⟩
  refine⟨by show 1≤sizeLine;decide,fun l1 hl1=>?_⟩
  have s4:=same_new hl1 (.lst [.ref aN])
  have e4:upd H3 l1 (.lst [.ref aN]) l1=some (.lst [.ref aN]):=upd_same
  generalize upd H3 l1 (.lst [.ref aN])=H4 at s4 e4 ⊢
  refine⟨_,rfl,l1,(W:Int),[.ref aN],rfl,rfl,e4,by omega,by omega,?_,fun b hb=>?_⟩
  ·rw[Int.toNat_natCast,sizeLine_eq];simp only[List.length_cons,List.length_nil];omega
  rw[Int.toNat_natCast,flat_one]
  have s5:=same_new hb (.lst (List.replicate W (.ref aN)))
  have e5:upd H4 b (.lst (List.replicate W (.ref aN))) b=some (.lst (List.replicate W (.ref aN))):=upd_same
  generalize upd H4 b (.lst (List.replicate W (.ref aN)))=H5 at s5 e5 ⊢
  have s35:=s4.trans s5
  have e35:=s35 _ _ e3
  have nbD:b≠D:=Ne.symm (ne_of_none (s4 _ _ e3) hb)
  have nba:b∉as:=fun z=>by rw[s4 _ _ (al b z)] at hb;cases hb
  refine⟨e35,small1000 (by rw[List.length_map];omega),hC _ _ ⟨(s3.trans s35).change hD,upd_same,as++[b],by rw[List.map_append];rfl,by rw[List.length_append,la];rfl,?_,?_,fun c hc=>?_,fun c hc=>?_⟩⟩
  ·rw[List.nodup_append]
   refine⟨nd,by simp,fun x hx y hy z=>?_⟩
   have:y=b:=by simpa using hy
   exact nba (by rw[← this,← z];exact hx)
  ·intro z
   rcases List.mem_append.mp z with z | z
   ·exact nD z
   ·have:D=b:=by simpa using z
    exact nbD this.symm
  ·rcases List.mem_append.mp hc with z | z
   ·exact fr c z
   ·have:c=b:=by simpa using z
    rw[this]
    exact(s3.trans s4).free hb
  ·rcases List.mem_append.mp hc with z | z
   ·rw[upd_ne (fun y=>nD (by rw[← y];exact z))];exact s35 _ _ (al c z)
   ·have:c=b:=by simpa using z
    rw[this,upd_ne nbD];exact e5
 rintro zs3 H3 ⟨s3,e3,as,rfl,la,nd,nD,fr,al⟩
 have mx3:Mx K H3 D as (List.replicate W (List.replicate W (0,1))):=⟨e3,nd,nD,by rw[la,List.length_replicate],fun i b ps h1 h2=>by
  rw[List.eq_of_mem_replicate (List.mem_of_getElem? h2)]
  exact⟨_,al b (List.mem_of_getElem? h1),fqs_repl (fN _) W⟩⟩
 have nDH:H2 D=none:=hD
 refine⟨by show 1≤sizeLine;decide,fun l1 hl1=>?_⟩
 have s4:=same_new hl1 (.lst [.ref aN])
 have e4:upd H3 l1 (.lst [.ref aN]) l1=some (.lst [.ref aN]):=upd_same
 generalize upd H3 l1 (.lst [.ref aN])=H4 at s4 e4 ⊢
 refine⟨_,rfl,l1,(W:Int),[.ref aN],rfl,rfl,e4,by omega,by omega,?_,fun R hR=>?_⟩
 ·rw[Int.toNat_natCast,sizeLine_eq];simp only[List.length_cons,List.length_nil];omega
 rw[Int.toNat_natCast,flat_one]
 have s5:=same_new hR (.lst (List.replicate W (.ref aN)))
 have e5:upd H4 R (.lst (List.replicate W (.ref aN))) R=some (.lst (List.replicate W (.ref aN))):=upd_same
 generalize upd H4 R (.lst (List.replicate W (.ref aN)))=H5 at s5 e5 ⊢
 have s25:=s3.trans (s4.trans s5)
 have nRH:H2 R=none:=(s3.trans s4).free hR
 have nRD:R≠D:=Ne.symm (ne_of_none ((s4) _ _ mx3.d) hR)
 have nRa:R∉as:=fun z=>by rw[s4 _ _ (al R z)] at hR;cases hR
 have mx5:=(mx3.same s4).same s5
 have allN:∀b∈R :: as,H2 b=none:=fun b hb=>by
  rcases List.mem_cons.mp hb with z | z
  ·rw[z];exact nRH
  ·exact fr b z
 have F5:Fqs K H5 (List.replicate W (.ref aN)) (List.replicate W (0,1)):=fqs_repl (fN _) W
 have s25':=s12.trans s25
 obtain⟨dx5,hn5⟩:=(nt.same s25').ob
 have nt5:=nt.same s25'
 rw[eW] at nt5
 refine⟨_,rfl,n,dx5,_,rfl,hn5,nflds_no _ _ (by decide +kernel) (by decide +kernel),n,l,_,ds,rfl,nt5,by omega,fun a xs H5r s5r na ea Rb=>?_⟩
 have lxs:=Rb.length
 have s2r:=s25.trans s5r
 have mx5r:=mx5.same s5r
 have F5r:=F5.same s5r
 obtain⟨NB,hNB⟩:∃NB,NB=4*k+20:=⟨_,rfl⟩
 rw[← hNB] at hbig
 have lsR:Lsts (R :: as) H5r:=fun c hc=>by
  rcases List.mem_cons.mp hc with z | z
  ·rw[z];exact⟨_,s5r _ _ e5⟩
  ·exact mx5r.lsts c z
 have naA:a∉R :: as:=fun z=>by
  obtain⟨_,h1⟩:∃xs,H5 a=some (.lst xs):=by
   rcases List.mem_cons.mp z with z | z
   ·rw[z];exact⟨_,e5⟩
   ·exact mx5.lsts a z
  rw[h1] at na;cases na
 refine⟨a,rfl,⟨_,SqL.of ea⟩,?_⟩
 refine for_list (xs:=xs) (fun i σ H'=>SX (R :: as) H5r H'∧∃(M:List (List Mq.Q2)) (ys:List V) (rs:List Mq.Q2) (z7:Option V),σ=[some (.ref n),some (.int (W:Int)),some (.ref D),some (.ref R),z7]∧Mx K H' D as M∧MxB M W W (NB*i+1)∧H' R=some (.lst ys)∧Fqs K H' ys rs∧LnB rs W (NB*i+1)∧(∀x y,Mq.val (mget M x y)=eqM m (ds.take i) x y)∧∀x,Mq.val (rs.getD x (0,1))=eqR m (ds.take i) x) ⟨(Same.refl _).sx,_,_,_,none,rfl,mx5r,zero_mx W,s5r _ _ e5,F5r,zero_ln W,fun x y=>by rw[zero_get,Mq.val01];rfl,fun x=>by rw[getD_repl,Mq.val01];rfl⟩ (fun i σ H' _ h=>SqL.of (h.1 _ _ ea naA)) ?_ ?_
 ·rintro i x σ H6 hx ⟨s6,M,ys,rs,z7,rfl,mx,mb,eR,FR,lb,vM,vR⟩
  have hi:i < ds.length:=by
   have:=(List.getElem?_eq_some_iff.mp hx).1
   omega
  obtain⟨⟨k0,u,v,p⟩,hd⟩:∃d,ds[i]?=some d:=⟨_,List.getElem?_eq_getElem hi⟩
  obtain⟨y,z,ey,rw0,fz0⟩:=Rb.at hd
  have ex:x=.ref y:=by rw[ey] at hx;exact(Option.some.inj hx).symm
  subst ex
  obtain⟨rd,bp⟩:=hK _ (List.mem_of_getElem? hd)
  have lp:Mq.Low p:=rd.2.2.2.2.1
  have bp:Mq.Bd k p:=bp
  have ptm:PtOk (m:Int) u v:=⟨rd.1,rd.2.1,rd.2.2.1,rd.2.2.2.1⟩
  have ptW:PtOk (W:Int) u v:=by rw[← eW];exact ptm
  have rw6:=SX.rw lsR s6 rw0
  have fz6:Fq K H6 z p:=SX.seqT lsR s6 fz0
  obtain⟨dr,hy⟩:=id rw6
  have et:ds.take (i+1)=ds.take i++[(k0,u,v,p)]:=by rw[List.take_add_one,hd];rfl
  have eN:NB*(i+1)+1=(NB*i+1)+NB:=by rw[Nat.mul_succ];omega
  have leN:NB*(i+1)≤NB*ds.length:=Nat.mul_le_mul_left _ hi
  rw[Nat.mul_succ] at leN
  have eM:∀x y,eqM m (ds.take (i+1)) x y=eqM m (ds.take i) x y+cM (k0,u,v,p) (m+hds' (ds.take i)) x y:=fun x y=>by rw[et,eqM_snoc]
  have eRr:∀x,eqR m (ds.take (i+1)) x=eqR m (ds.take i) x+cR (k0,u,v,p) (m+hds' (ds.take i)) x:=fun x=>by rw[et,eqR_snoc]
  rw[eN]
  have lst:=mx.lsts
  cases k0 with
  |pc=>
   have p0:0 < p.1:=rd.2.2.2.2.2.1 rfl
   refine⟨_,rfl,Kd.pc,y,dr,_,rfl,hy,(rflds_no _ _ _ (by decide +kernel) (by decide +kernel) (by decide +kernel)),_,rfl,rfl,_,rfl,ifT (by show decide (V.str Kd.pc.wd=V.str Kd.pc.wd)=true;rw[dec_wd];rfl) ?_⟩
   refine⟨_,rfl,_,rfl,D,y,z,as,M,(.pc,u,v,p),W,NB*i+1,k,rfl,mx,mb,rw6,fz6,ptW,lp,p0,bp,by omega,fun H7 sx7 mx7=>?_⟩
   obtain⟨mb7,v7⟩:=pM_ok (d:=(.pc,u,v,p)) (h:=m+hds' (ds.take i)) mb ptm hmW rfl lp p0 bp
   have eR7:=sx7 _ _ eR nRa
   refine⟨s6.trans (sx7.mono fun c hc=>List.mem_cons_of_mem _ hc),_,ys,rs,_,rfl,mx7,mb7.mono (by omega),eR7,SX.fqs lst sx7 FR,lb.mono (by omega),fun x y=>by rw[v7,vM,eM],fun x=>?_⟩
   rw[vR,eRr]
   show _=_+(0:Rat)
   rw[Rat.add_zero]
  |pu=>
   refine⟨_,rfl,Kd.pu,y,dr,_,rfl,hy,(rflds_no _ _ _ (by decide +kernel) (by decide +kernel) (by decide +kernel)),_,rfl,rfl,_,rfl,ifF (by show decide (V.str Kd.pu.wd=V.str Kd.pc.wd)=false;rw[dec_wd];rfl) ?_⟩
   refine⟨_,rfl,_,rfl,R,y,z,ys,rs,(.pu,u,v,p),W,NB*i+1,k,rfl,eR,FR,lb,rw6,fz6,ptW,lp,bp,by omega,fun ys' H7 sx7 eR7 F7=>?_⟩
   obtain⟨lb7,v7⟩:=pR_ok (d:=(.pu,u,v,p)) (h:=m+hds' (ds.take i)) lb ptm hmW rfl lp bp
   have mx7:Mx K H7 D as M:=⟨sx7 _ _ mx.d (by simp;exact Ne.symm nRD),mx.n,mx.nd,mx.la,fun i' b ps h1 h2=>by
    obtain⟨ws,h,f⟩:=mx.r i' b ps h1 h2
    refine⟨ws,sx7 _ _ h (by simp;exact fun z=>nRa (by rw[← z];exact List.mem_of_getElem? h1)),SX.fqs (as:=[R]) (fun c hc=>?_) sx7 f⟩
    have:c=R:=by simpa using hc
    exact⟨ys,by rw[this];exact eR⟩⟩
   refine⟨s6.trans (sx7.mono fun c hc=>by rw[show c=R by simpa using hc];exact List.mem_cons_self ..),M,ys',_,_,rfl,mx7,mb.mono (by omega),eR7,F7,lb7.mono (by omega),fun x y=>?_,fun x=>by rw[v7,vR,eRr]⟩
   rw[vM,eM]
   show _=_+(0:Rat)
   rw[Rat.add_zero]
  |ho=>exact absurd rfl (nh _ (List.mem_of_getElem? hd))
 rintro σ H6 ⟨s6,M,ys,rs,z7,rfl,mx,mb,eR,FR,lb,vM,vR⟩
 rw[lxs] at mb lb vM vR
 rw[List.take_length] at vM vR
 rw[hW] at mb lb
 have eMX:=mx_eq mb SQ.lX SQ.rX fun i j hi hj=>by rw[vM];exact hM i j hi hj
 have eRC:=ln_eq lb SQ.lc SQ.rc fun i hi=>by rw[vR];exact hRv i hi
 rw[eMX] at mx
 rw[eRC] at FR
 have s0r:Same H H5r:=s12.trans s2r
 have s06:Same H H6:=SX.same s0r s6 (fun c hc=>by rw[← hH2];exact allN c hc)
 rw[hW]
 refine⟨_,rfl,m,rfl,by omega,fun E hE=>?_⟩
 have sE:=same_new hE (.lst ((List.range m).map fun (i:Nat)=>V.int (i:Int)))
 have eE:upd H6 E (.lst ((List.range m).map fun (i:Nat)=>V.int (i:Int))) E=some (.lst ((upTo m).map V.int)):=by
  rw[upd_same];unfold upTo;rw[List.map_map];rfl
 generalize upd H6 E (.lst ((List.range m).map fun (i:Nat)=>V.int (i:Int)))=H7 at sE eE ⊢
 refine⟨_,rfl,_,rfl,?_⟩
 intro x dx' hx hdx ndx
 have sN:Same H7 (upd (upd H7 dx' (.own x)) x (.ins CT dx' [])):=seq_make (K:=K) hx hdx ndx
 have mx7:=mx.same sE
 have lnX:Lns K H7 (as.map V.ref) X:=⟨by rw[List.length_map];exact mx7.la,fun i x ps h1 h2=>by
  rw[List.getElem?_map] at h1
  obtain⟨b',hb',rfl⟩:=Option.map_eq_some_iff.mp h1
  obtain⟨ws,h,f⟩:=mx7.r i b' ps hb' h2
  exact⟨b',ws,rfl,SqL.of h,f⟩⟩
 refine⟨x,dx',E,D,R,upTo m,as.map V.ref,ys,_,_,rfl,upd_same,sN.seq (SqL.of eE),sN.seq (SqL.of mx7.d),lnX.same sN,?_,sN.seq (SqL.of (sE _ _ eR)),(FR.same sE).same sN,fun H9 s9 T9=>⟨rfl,q x H9 ((s06.trans sE).trans (same_make hx hdx ndx s9)) T9⟩⟩
 rw[List.length_map,la];omega
def spTof (CN CT:Addr)(K:PySem.W.Frag):Sp:=fun vs H Q _=>∃(n l e:Addr) (m k b:Nat) (ds:List RD) (X:List (List Mq.Q2)) (cs:List Mq.Q2),vs=[.ref n,.ref e]∧NetAt CN K H n l (m:Int) ds∧(∀d∈ds,RdOk (m:Int) d∧Mq.Bd k d.2.2.2)∧NoHo ds∧ds.length≤40∧(4*k+20)*ds.length+4*k+30≤8900∧Sq m b X cs∧(∀i j,i < m→j < m→eqM m ds i j=Mq.val (mget X i j))∧(∀i,i < m→eqR m ds i=Mq.val (cs.getD i (0,1)))∧H e=some (.lst ((upTo m).map V.int))∧∀x H',Same H H'→TabAt CT K H' x (upTo m) X cs→Q (.ref x) H'
abbrev sTof:Stmt:=top 57
theorem scTof:FnScope ["net","ends"] ["net","ends"] (defScope sTof):=⟨rfl,rfl,rfl,by decide +kernel,rfl,by decide +kernel,by decide +kernel⟩
theorem ok_tof {dV:Value}(F:FunD K "table_of" "table_of" sTof dV f fd){CN CT:Addr}(G1:FnOk P w K mg base CX0 8 g1 gd1 ["net","ends"] (spREnds0 CN K))(b1:Binds K gd1 ["net","ends"] [])(k1:PySem.W.keepIn K (.ref g1)=true)(m1:mg "refuse_ends"=some (.ref g1))(G2:FnOk P w K mg base CX0 7 g2 gd2 ["net"] (spTall CN CT K))(b2:Binds K gd2 ["net"] [])(k2:PySem.W.keepIn K (.ref g2)=true)(m2:mg "table_of_all"=some (.ref g2))(G3:FnOk P w K mg base CX0 5 g3 gd3 ["table","ends"] (spNar0 CT K))(b3:Binds K gd3 ["table","ends"] [])(k3:PySem.W.keepIn K (.ref g3)=true)(m3:mg "narrowed"=some (.ref g3)) :
  FnOk P w K mg base CX 9 f fd ["net","ends"] (spTof CN CT K):=by
 refine F.ok scTof (fun vs H Q E h=>?_) (fun cdv A outer s H vs Q E hr h=>?_)
 ·obtain⟨n,l,e,m,k,b,ds,X,cs,rfl,nt,hK,nh,h40,hbig,SQ,hM,hR,he,q⟩:=h
  rfl
 obtain⟨n,l,e,m,k,b,ds,X,cs,rfl,nt,hK,nh,h40,hbig,SQ,hM,hR,he,q⟩:=h
 have r5:=hr.mono (show 5≤8 by omega)
 have r7:=hr.mono (show 7≤8 by omega)
 refine⟨_,(pss_cons (ps_expr (pe_call G1 hr rfl m1 k1 b1 .nil pass0 (pa_cons (pv 0) (pa_cons (pv 1) pa_nil))))
  (pss_one (ps_ret (pe_call G3 r5 rfl m3 k3 b3 .nil pass0 (pa_cons (pe_call G2 r7 rfl m2 k2 b2 .nil pass0 (pa_cons (pv 0) pa_nil)) (pa_cons (pv 1) pa_nil)))))),?_⟩
 have pt:∀d∈ds,PtOk (m:Int) d.2.1 d.2.2.1:=fun d hd=>⟨(hK d hd).1.1,(hK d hd).1.2.1,(hK d hd).1.2.2.1,(hK d hd).1.2.2.2.1⟩
 refine⟨_,rfl,_,rfl,n,l,e,m,ds,rfl,nt,pt,SQ.m1,SQ.m20,by omega,nh,he,fun H1 s1=>?_⟩
 refine⟨_,rfl,n,l,m,k,b,ds,X,cs,rfl,nt.same s1,hK,nh,h40,hbig,SQ,hM,hR,fun t H2 s2 T2=>?_⟩
 exact⟨_,rfl,t,e,m,b,X,cs,rfl,T2,SQ,(s1.trans s2) _ _ he,fun x H3 s3 T3=>q x H3 (s1.trans (s2.trans s3)) T3⟩
end
end K56
namespace K56
open PySem L2 Shp
section
variable {P:Program} {w:World} {K:PySem.W.Frag} {mg:Str→Option Value} {base:Heap} {f g1 g2 g3 g4 g5 g6 g7 g8:Addr} {fd gd1 gd2 gd3 gd4 gd5 gd6 gd7 gd8:FuncData} {CX:CXT}
variable {CR:Addr} {CK:Kd→Addr} {fW fJ fT fS:Kd→Addr} {fdW fdJ fdT fdS:Kd→FuncData}
def szP (p:Mq.Q2):Mq.Q2:=Mq.over (1,1) (Mq.minus (0,1) p)
theorem low_zero {p:Mq.Q2}(l:Mq.Low p)(h:p.1=0):p=(0,1):=Mq.low_ext l ⟨by decide,by decide⟩ (by
 unfold Mq.val;rw[h,Rat.div_def,Rat.div_def];simp)
theorem neg_fst (p:Mq.Q2)(l:Mq.Low p):Mq.minus (0,1) p=(-p.1,p.2):=by
 obtain⟨a,_,c⟩:=neg_ok (k:=p.1.natAbs+p.2.natAbs) l ⟨Nat.lt_of_lt_of_le (Nat.lt_two_pow_self) (Nat.pow_le_pow_right (by decide) (by omega)),Nat.lt_of_lt_of_le (Nat.lt_two_pow_self) (Nat.pow_le_pow_right (by decide) (by omega))⟩
 refine Mq.low_ext a ⟨l.pos,by show ((Int.gcd (-p.1) p.2:Nat):Int)=1;rw[Int.neg_gcd];exact l.2⟩ ?_
 rw[c]
 unfold Mq.val
 simp only[Rat.intCast_neg]
 grind
theorem szP_ok {p:Mq.Q2}{n:Nat}(l:Mq.Low p)(b:Mq.Bd n p)(h:p.1≤0)(hn:p≠(0,1)):0 < (Mq.minus (0,1) p).1∧1≤(Mq.minus (0,1) p).2∧Mq.Bd (n+2) (Mq.minus (0,1) p)∧Mq.Low (szP p)∧Mq.Bd (n+3) (szP p)∧0 < (szP p).1∧Mq.val (szP p)=1 / - Mq.val p:=by
 have p0:p.1 < 0:=by
  have:p.1≠0:=fun z=>hn (low_zero l z)
  omega
 obtain⟨a,b',c⟩:=neg_ok l b
 have e:=neg_fst p l
 have q0:0 < (Mq.minus (0,1) p).1:=by rw[e];show 0 < -p.1;omega
 obtain⟨u,v,w⟩:=share_ok a q0 b'
 refine⟨q0,a.pos,b',u,v,?_,by rw[← c];exact w⟩
 have e2:szP p=(p.2,-p.1):=by
  refine Mq.low_ext u ⟨by show 1≤-p.1;omega,?_⟩ ?_
  ·show ((Int.gcd p.2 (-p.1):Nat):Int)=1
   rw[Int.gcd_neg,Int.gcd_comm];exact l.2
  ·show Mq.val (Mq.over (1,1) (Mq.minus (0,1) p))=_
   rw[w,e]
   unfold Mq.val
   simp only[Rat.intCast_neg]
   grind
 rw[e2]
 have:=l.pos
 show 0 < p.2
 omega
def oneP (X:List (List Mq.Q2))(i j:Nat):List RD:=if Mq.ix2 X i j=(0,1) then [] else [(.pc,(i:Int),(j:Int),szP (Mq.ix2 X i j))]
def lineP (X:List (List Mq.Q2))(i c:Nat):List RD:=(List.range c).flatMap fun k=>oneP X i (i+1+k)
def pcs (X:List (List Mq.Q2))(m r:Nat):List RD:=(List.range r).flatMap fun i=>lineP X i (m - (i+1))
def oneU (cs:List Mq.Q2)(i:Nat):List RD:=if 0 < i∧cs.getD i Mq.z0≠(0,1) then [(.pu,0,(i:Int),cs.getD i Mq.z0)] else []
def pus (cs:List Mq.Q2)(r:Nat):List RD:=(List.range r).flatMap (oneU cs)
def netOf (X:List (List Mq.Q2))(cs:List Mq.Q2)(m:Nat):List RD:=pcs X m m++pus cs m
theorem fm_succ {α:Type}(f:Nat→List α)(n:Nat):(List.range (n+1)).flatMap f=(List.range n).flatMap f++f n:=by
 rw[List.range_succ,List.flatMap_append];simp
theorem fm_le {α:Type}(f:Nat→List α){a b:Nat}(h:a≤b):((List.range a).flatMap f).length≤((List.range b).flatMap f).length:=by
 induction b with
 |zero=>rw[Nat.le_zero.mp h];exact Nat.le_refl _
 |succ b ih=>
  by_cases e:a≤b
  ·rw[fm_succ,List.length_append];have:=ih e;omega
  ·rw[show a=b+1 by omega];exact Nat.le_refl _
theorem pcs_lt {X:List (List Mq.Q2)}{cs:List Mq.Q2}{m i c:Nat}(hi:i < m)(hc:c < m - (i+1))(h:Mq.ix2 X i (i+1+c)≠(0,1)):(pcs X m i++lineP X i c).length < (netOf X cs m).length:=by
 have a:=fm_le (fun i=>lineP X i (m - (i+1))) (show i+1≤m from hi)
 rw[fm_succ] at a
 have b:=fm_le (fun k=>oneP X i (i+1+k)) (show c+1≤m - (i+1) from hc)
 rw[fm_succ] at b
 have e:(oneP X i (i+1+c)).length=1:=by unfold oneP;rw[if_neg h];rfl
 rw[List.length_append] at a b
 rw[e] at b
 unfold netOf pcs lineP at *
 simp only[List.length_append] at *
 omega
theorem pus_lt {X:List (List Mq.Q2)}{cs:List Mq.Q2}{m i:Nat}(hi:i < m)(h:0 < i∧cs.getD i Mq.z0≠(0,1)):(pcs X m m++pus cs i).length < (netOf X cs m).length:=by
 have a:=fm_le (oneU cs) (show i+1≤m from hi)
 rw[fm_succ] at a
 have e:(oneU cs i).length=1:=by unfold oneU;rw[if_pos h];rfl
 rw[List.length_append,e] at a
 unfold netOf pus at *
 simp only[List.length_append] at *
 omega
theorem sameX_same {H0 H H':Hp}{l:Addr}(s:Same H0 H)(x:SameX l H H')(n:H0 l=none):Same H0 H':=fun b o h=>x b o (s b o h) fun z=>by rw[z,n] at h;cases h
def spTNet (CN CT CE:Addr)(K:PySem.W.Frag):Sp:=fun vs H Q E=>∃(t:Addr) (es:List Int) (X:List (List Mq.Q2)) (cs:List Mq.Q2) (m n:Nat),vs=[.ref t]∧TabAt CT K H t es X cs∧es.length=m∧Sq m n X cs∧(∀i j,i < j→j < m→Mq.Bd 97 (Mq.ix2 X i j))∧(∀i,0 < i→i < m→Mq.Bd 97 (cs.getD i Mq.z0))∧(∀i j,i < j→j < m→(Mq.ix2 X i j).1≤0)∧
 (((netOf X cs m).length≤40∧∀k l H',Same H H'→H k=none→H l=none→NetAt CN K H' k l (m:Int) (netOf X cs m)→Q (.ref k) H')∨(40 < (netOf X cs m).length∧∀H',Same H H'→E (.ref CE) none H'))
abbrev sTNet:Stmt:=inClass (top 54) 6
theorem scTNet:FnScope ["self","made","i","line","j","arrival"] ["self"] (defScope sTNet):=⟨rfl,rfl,rfl,by decide +kernel,rfl,by decide +kernel,by decide +kernel⟩
theorem ok_tnet {dV:Value}{CT:Addr}(F:FunD K "net" "Table.net" sTNet dV f fd)(TBx:TB K mg CT){CN CE:Addr}(NTx:NT K mg CN)(T:RT K mg CR CK)(ml:mg "len"=none)(mr:mg "range"=none)(men:mg "enumerate"=none){aN aO:Addr}(fN:∀H,Fq K H aN (0,1))(mNO:mg "NOUGHT"=some (.ref aN))(fO:∀H,Fq K H aO (1,1))(mON:mg "ONE"=some (.ref aO)){gNI:Addr}{gdNI:FuncData}(GNI:FnOk P w K mg base CX0 2 gNI gdNI ["self","many"] (spNInit CN))(bNI:Binds K gdNI ["self","many"] [])(MN:Mk K CN gNI){gI:Addr}{gdI:FuncData}(GI:FnOk P w K mg base CX0 1 gI gdI ["self","start","goal","size"] (spRInit CK))(bI:Binds K gdI ["self","start","goal","size"] [])(MK:∀k,Mk K (CK k) gI){gAd:Addr}{gdAd:FuncData}(GAd:FnOk P w K mg base (CX1 P w) 5 gAd gdAd ["self","row"] (spAddF CN K CK CE))(bAd:Binds K gdAd ["self","row"] [])(mAd:Meth K CN "add" gAd)(G1:FnOk P w K mg base CX0 3 g1 gd1 ["one","other"] (spDiv1 K))(b1:Binds K gd1 ["one","other"] [])(k1:PySem.W.keepIn K (.ref g1)=true)(m1:mg "over"=some (.ref g1))(G2:FnOk P w K mg base CX0 3 g2 gd2 ["one","other"] (spTwo K Mq.minus))(b2:Binds K gd2 ["one","other"] [])(k2:PySem.W.keepIn K (.ref g2)=true)(m2:mg "minus"=some (.ref g2)):FnOk P w K mg base (CX1 P w) 6 f fd ["self"] (spTNet CN CT CE K):=by
 refine F.okX scTNet (fun vs H Q E h=>?_) (fun cdv A outer s H vs Q E hr h=>?_)
 ·obtain⟨t,es,X,cs,m,n,rfl,⟨⟨dx,p,l,a,us,ys,ht,hp,hU,hL0,ha,hC⟩⟩,le,SQ,bO,bC,neg,h⟩:=h
  rfl
 obtain⟨t,es,X,cs,m,n,rfl,⟨⟨dx,p,l,a,us,ys,ht,hp,hU,hL0,ha,hC⟩⟩,le,SQ,bO,bC,neg,h⟩:=h
 have hu:=hr.units
 have r2:=hr.mono (show 2≤5 by omega)
 have r3:=hr.mono (show 3≤5 by omega)
 have r5:=hr
 refine⟨_,(pss_cons (ps_set (i:=1) scTNet.nd rfl (Or.inl rfl) (pe_make MN GNI r3 rfl NTx.mN bNI .nil pass0 (pa_cons (pe_callB call_len_seq rfl ml PySem.boot_len (pa_cons (pe_fld (pv 0) rfl) pa_nil)) pa_nil)))
  (pss_cons (ps_for PassesOwn.leaving rfl (pi_enum rfl men rfl (pa_cons (pe_fld (pv 0) rfl) pa_nil)) (pg_tup rfl (pgs_cons (pg_name (i:=2) scTNet.nd rfl (Or.inl rfl)) (pgs_cons (pg_name (i:=3) scTNet.nd rfl (Or.inl rfl)) pgs_nil)))
   (pss_one (ps_for PassesOwn.leaving rfl (pi_range2 rfl mr (pa_cons (pe_op op_add (pv 2) pe_int) (pa_cons (pe_callB call_len_seq rfl ml PySem.boot_len (pa_cons (pv 3) pa_nil)) pa_nil))) (pg_name (i:=4) scTNet.nd rfl (Or.inl rfl))
   (pss_one (ps_if (pt_cmpR (op_neD hu) (pe_ix ix_list (pv 3) (pv 4) (fun _ _=>rfl)) (pe_glob (v:=.ref aN) rfl mNO rfl) (nomark _)) (pss_one (ps_expr (pe_meth (pv 1) NTx.cl mAd GAd r5 bAd .nil (passes_cx frm_cxOf xe_cxOf) (pa_cons (pe_make (MK .pc) GI r2 rfl (T.mK .pc) bI .nil pass0 (pa_cons (pv 2) (pa_cons (pv 4) (pa_cons (pe_call G1 r3 rfl m1 k1 b1 .nil pass0 (pa_cons (pe_glob (v:=.ref aO) rfl mON rfl) (pa_cons (pe_call G2 r3 rfl m2 k2 b2 .nil pass0 (pa_cons (pe_glob (v:=.ref aN) rfl mNO rfl) (pa_cons (pe_ix ix_list (pv 3) (pv 4) (fun _ _=>rfl)) pa_nil))) pa_nil))) pa_nil)))) pa_nil)))) pss_nil)))))
  (pss_cons (ps_for PassesOwn.leaving rfl (pi_enum rfl men rfl (pa_cons (pe_fld (pv 0) rfl) pa_nil)) (pg_tup rfl (pgs_cons (pg_name (i:=2) scTNet.nd rfl (Or.inl rfl)) (pgs_cons (pg_name (i:=5) scTNet.nd rfl (Or.inl rfl)) pgs_nil)))
   (pss_one (ps_if (PW.pt (pw_and (pt_cmpR op_gt (pv 2) pe_int (nomark _)) (pw_and1 (pt_cmpR (op_neD hu) (pv 5) (pe_glob (v:=.ref aN) rfl mNO rfl) (nomark _))))) (pss_one (ps_expr (pe_meth (pv 1) NTx.cl mAd GAd r5 bAd .nil (passes_cx frm_cxOf xe_cxOf) (pa_cons (pe_make (MK .pu) GI r2 rfl (T.mK .pu) bI .nil pass0 (pa_cons pe_int (pa_cons (pv 2) (pa_cons (pv 5) pa_nil)))) pa_nil)))) pss_nil)))
  (pss_one (ps_ret (pv 1)))))),?_⟩
 have m1:=SQ.m1
 have m20:=SQ.m20
 refine⟨_,rfl,t,CT,_,_,_,rfl,ht,TBx.cl,TBx.nP,tflds_p _ _ _,p,_,rfl,.inl hp,?_⟩
 intro k dk hk hdk ndk
 rw[List.length_map,le]
 refine⟨k,dk,(m:Int),rfl,upd_same,by omega,by omega,fun g H1 hg keep hn1 hl1=>⟨rfl,?_⟩⟩
 have s0:∀b o,H b=some o→H1 b=some o:=fun b o hb=>keep b o (seq_make (K:=K) hk hdk ndk b o hb) (fun z=>by rw[z,hk] at hb;cases hb)
 have s1:Same H H1:=s0
 have gH:H g=none:=by
  cases e:H g with
  |none=>rfl
  |some o=>rw[seq_make (K:=K) (C:=CN) hk hdk ndk g o e] at hg;cases hg
 have nt1:NetAt CN K H1 k g (m:Int) []:=⟨⟨dk,hn1⟩,[],hl1,.nil⟩
 clear keep hn1 hl1
 show tSeq _ _ _ [some (.ref t),some (.ref k),none,none,none,none] H1
 refine⟨_,rfl,t,CT,_,_,_,rfl,s1 _ _ ht,TBx.cl,TBx.nL,tflds_l _ _ _,l,rfl,⟨_,s1.seq hU⟩,?_⟩
 refine for_enum (xs:=us) (fun i σ H'=>Same H H'∧NetAt CN K H' k g (m:Int) (pcs X m i)∧(pcs X m i).length≤40∧∃z2 z3 z4,σ=[some (.ref t),some (.ref k),z2,z3,z4,none]) ⟨s1,nt1,Nat.zero_le _,_,_,_,rfl⟩ (fun i σ H' _ h=>h.1.seq hU) ?_ ?_
 ·rintro i x σ H2 T1 ex ⟨s2,nt2,l2,z2,z3,z4,rfl⟩ hT
  have lus:us.length=m:=by rw[hL0.l,SQ.lX]
  have hi:i < m:=by have:=(List.getElem?_eq_some_iff.mp ex).1;omega
  have gX:=Mq.getL (show i < X.length by rw[SQ.lX];exact hi)
  obtain⟨u,xs,rfl,hu',fu⟩:=hL0.r i x _ ex gX
  obtain⟨rl,rlow⟩:=SQ.rX _ (List.mem_of_getElem? gX)
  have lxs:=fu.length
  rw[rl] at lxs
  have sT:=same_new hT (.tup [.int (i:Int),.ref u])
  refine⟨T1,_,rfl,SqT.of upd_same,rfl,_,_,rfl,_,_,rfl,rfl,?_⟩
  generalize upd H2 T1 (.tup [.int (i:Int),.ref u])=H3 at sT ⊢
  have s3:=s2.trans sT
  have nt3:=nt2.same sT
  show tFor _ _ _ _ [some (.ref t),some (.ref k),some (.int (i:Int)),some (.ref u),z4,none] H3
  refine⟨_,rfl,_,_,rfl,rfl,_,rfl,u,xs,rfl,.inl (s3.seq hu'),_,_,rfl,⟨by omega,by omega,by omega,by omega⟩,?_⟩
  rw[show ((xs.length:Int) - ((i:Int)+1)).toNat=m - (i+1) by rw[lxs];omega]
  refine for_range (lo:=(i:Int)+1) (n:=m - (i+1)) (fun c σ H'=>Same H H'∧NetAt CN K H' k g (m:Int) (pcs X m i++lineP X i c)∧(pcs X m i++lineP X i c).length≤40∧∃z4,σ=[some (.ref t),some (.ref k),some (.int (i:Int)),some (.ref u),z4,none]) ⟨s3,by show NetAt CN K H3 k g (m:Int) (pcs X m i++[]);rw[List.append_nil];exact nt3,by show (pcs X m i++[]).length≤40;rw[List.append_nil];exact l2,_,rfl⟩ ?_ ?_
  ·rintro c σ H4 hc ⟨s4,nt4,l4,z4,rfl⟩
   have hj:i+1+c < m:=by omega
   have gQ:=Mq.getQ1 (show i+1+c < (X.getD i []).length by rw[rl];exact hj)
   obtain⟨v,ev,fv⟩:=fu.at gQ
   obtain⟨lw,bw⟩:=rlow _ (List.mem_of_getElem? gQ)
   have ng:=neg i (i+1+c) (by omega) hj
   have bw:Mq.Bd 97 ((X.getD i []).getD (i+1+c) Mq.z0):=bO i (i+1+c) (by omega) hj
   have eL:lineP X i (c+1)=lineP X i c++oneP X i (i+1+c):=fm_succ _ _
   have pl:=pcs_lt (cs:=cs) (X:=X) (i:=i) (c:=c) hi hc
   have eix:(X.getD i []).getD (i+1+c) Mq.z0=Mq.ix2 X i (i+1+c):=rfl
   rw[eix] at fv lw bw
   rw[eL]
   unfold oneP
   generalize Mq.ix2 X i (i+1+c)=pq at fv lw bw ng pl ⊢
   show tIfS _ _ _ _ [some (.ref t),some (.ref k),some (.int (i:Int)),some (.ref u),some (.int ((i:Int)+1+(c:Int))),none] H4
   have ej:((i:Int)+1+(c:Int))=((i+1+c:Nat):Int):=by omega
   rw[ej]
   refine⟨_,rfl,_,rfl,u,xs,_,_,rfl,rfl,s4.seq hu',atI_nat ev,?_⟩
   dsimp only[tC]
   change rDat _ _ _ _ _ _
   refine rd_eqF (neg:=true) (s4.fq fv) (fN H4) ⟨_,rfl,?_⟩
   by_cases hz:pq=(0,1)
   ·refine L2.ifF (by simp[hz]) ⟨s4,by rw[if_pos hz,List.append_nil];exact nt4,by rw[if_pos hz,List.append_nil];exact l4,_,rfl⟩
   refine L2.ifT (by simp[hz]) ?_
   rw[if_neg hz]
   obtain⟨q0,q1,qb,zl,zb,z0,_⟩:=szP_ok lw bw ng hz
   have b01:Mq.Bd 1 (0,1):=⟨show (0:Nat) < 2 ^ 1 by decide,show (1:Nat) < 2 ^ 1 by decide⟩
   have pl:=pl hz
   obtain⟨dk4,hk4⟩:=nt4.ob
   refine⟨_,rfl,k,dk4,_,rfl,hk4,nflds_no _ _ (by decide +kernel) (by decide +kernel),_,rfl,_,rfl,_,rfl,_,rfl,u,xs,_,_,rfl,rfl,s4.seq hu',atI_nat ev,aN,v,(0,1),pq,1,97,rfl,fN _,s4.fq fv,by decide,lw.pos,b01,bw,by omega,fun w1 H5 s5 e5=>?_⟩
   refine⟨aO,w1,(1,1),_,1,97+2,rfl,fO _,Fq.of e5,h11,q1,q0,one_bd,qb,by omega,fun w2 H6 s6 e6=>?_⟩
   intro x dx' hx hdx ndx
   have fzz:Fq K H6 w2 (szP pq):=Fq.of e6
   refine⟨x,dx',.pc,_,_,_,rfl,upd_same,rfl,?_⟩
   rw[upd_upd]
   have sR:=Rw.new (C:=CK .pc) (fs:=rflds (.int (i:Int)) (.int ((i+1+c:Nat):Int)) (.ref w2)) hx hdx ndx
   have rwx:Rw CK (upd (upd H6 dx' (.own x)) x (.ins (CK .pc) dx' (rflds (.int (i:Int)) (.int ((i+1+c:Nat):Int)) (.ref w2)))) x .pc (.int (i:Int)) (.int ((i+1+c:Nat):Int)) (.ref w2):=⟨dx',upd_same⟩
   have snt:=nt4.same (s5.trans s6)
   have ntR:=snt.same sR
   have fzR:=sR.fq fzz
   have s7:=(s4.trans (s5.trans s6)).trans sR
   generalize upd (upd H6 dx' (.own x)) x (.ins (CK .pc) dx' (rflds (.int (i:Int)) (.int ((i+1+c:Nat):Int)) (.ref w2)))=H7 at rwx sR ntR fzR s7 ⊢
   refine⟨k,g,x,w2,(m:Int),_,.pc,_,_,_,rfl,ntR,rwx,fzR,⟨by show (0:Int)≤(i:Int);omega,by show (i:Int) < (m:Int);omega,by show (0:Int)≤((i+1+c:Nat):Int);omega,by show ((i+1+c:Nat):Int) < (m:Int);omega,zl,fun _=>z0,zb.mono (by omega)⟩,?_⟩
   have hlt:=pl
   rcases h with ⟨h40,q⟩ | ⟨h40,q⟩
   ·refine .inl ⟨by omega,fun H8 s8 nt8=>?_⟩
    exact⟨sameX_same s7 s8 gH,by rw[← List.append_assoc];exact nt8,by simp only[List.length_append,List.length_cons,List.length_nil] at *;omega,_,rfl⟩
   ·by_cases h4:(pcs X m i++lineP X i c).length < 40
    ·refine .inl ⟨h4,fun H8 s8 nt8=>?_⟩
     exact⟨sameX_same s7 s8 gH,by rw[← List.append_assoc];exact nt8,by simp only[List.length_append,List.length_cons,List.length_nil] at *;omega,_,rfl⟩
    ·exact .inr ⟨by omega,fun H8 s8=>q H8 (s7.trans s8)⟩
  ·rintro σ H4 ⟨s4,nt4,l4,z4,rfl⟩
   have e:pcs X m (i+1)=pcs X m i++lineP X i (m - (i+1)):=fm_succ _ _
   exact⟨s4,by rw[e];exact nt4,by rw[e];exact l4,_,_,_,rfl⟩
 rintro σ H2 ⟨s2,nt2,l2,z2,z3,z4,rfl⟩
 have s2':=s2
 refine⟨_,rfl,t,CT,_,_,_,rfl,s2 _ _ ht,TBx.cl,TBx.nA,tflds_a _ _ _,a,rfl,⟨_,s2.seq ha⟩,?_⟩
 refine for_enum (xs:=ys) (fun i σ H'=>Same H H'∧NetAt CN K H' k g (m:Int) (pcs X m m++pus cs i)∧(pcs X m m++pus cs i).length≤40∧∃z2 z5,σ=[some (.ref t),some (.ref k),z2,z3,z4,z5]) ⟨s2,?_,?_,_,_,rfl⟩ (fun i σ H' _ h=>h.1.seq ha) ?_ ?_
 ·show NetAt CN K H2 k g (m:Int) (pcs X m m++[])
  rw[List.append_nil]
  rw[show us.length=m by rw[hL0.l,SQ.lX]] at nt2
  exact nt2
 ·show (pcs X m m++[]).length≤40
  rw[List.append_nil]
  rw[show us.length=m by rw[hL0.l,SQ.lX]] at l2
  exact l2
 ·rintro i x σ H3 T1 ex ⟨s3,nt3,l3,z2,z5,rfl⟩ hT
  have lys:ys.length=m:=by rw[hC.length,SQ.lc]
  have hi:i < m:=by have:=(List.getElem?_eq_some_iff.mp ex).1;omega
  have gQ:=Mq.getQ1 (show i < cs.length by rw[SQ.lc];exact hi)
  obtain⟨v,ev,fv⟩:=hC.at gQ
  have ex':x=.ref v:=by rw[ev] at ex;exact(Option.some.inj ex).symm
  subst ex'
  obtain⟨lw,bw⟩:=SQ.rc _ (List.mem_of_getElem? gQ)
  have bw:0 < i→Mq.Bd 97 (cs.getD i Mq.z0):=fun h=>bC i h hi
  have sT:=same_new hT (.tup [.int (i:Int),.ref v])
  refine⟨T1,_,rfl,SqT.of upd_same,rfl,_,_,rfl,_,_,rfl,rfl,?_⟩
  generalize upd H3 T1 (.tup [.int (i:Int),.ref v])=H4 at sT ⊢
  have s4:=s3.trans sT
  have nt4:=nt3.same sT
  have eL:pus cs (i+1)=pus cs i++oneU cs i:=fm_succ _ _
  have pl:=pus_lt (X:=X) (cs:=cs) hi
  rw[eL]
  unfold oneU
  generalize cs.getD i Mq.z0=pq at fv lw bw pl ⊢
  show tIfS _ _ _ _ [some (.ref t),some (.ref k),some (.int (i:Int)),z3,z4,some (.ref v)] H4
  refine⟨_,rfl,_,_,rfl,rfl,_,rfl,?_⟩
  by_cases i0:0 < i
  case neg=>
   refine L2.ifF (decide_eq_false (by omega)) (L2.ifF rfl ⟨s4,?_,?_,_,_,rfl⟩)
   ·rw[if_neg (fun z=>i0 z.1),List.append_nil];exact nt4
   ·rw[if_neg (fun z=>i0 z.1),List.append_nil];exact l3
  refine L2.ifT (decide_eq_true (by omega)) ?_
  refine⟨_,rfl,?_⟩
  dsimp only[tC]
  change rDat _ _ _ _ _ _
  refine rd_eqF (neg:=true) (s4.fq fv) (fN H4) ⟨_,rfl,?_⟩
  by_cases hz:pq=(0,1)
  ·refine L2.ifF (by simp[hz]) ⟨s4,?_,?_,_,_,rfl⟩
   ·rw[if_neg (fun z=>z.2 hz),List.append_nil];exact nt4
   ·rw[if_neg (fun z=>z.2 hz),List.append_nil];exact l3
  refine L2.ifT (by simp[hz]) ?_
  rw[if_pos ⟨i0,hz⟩]
  have pl:=pl ⟨i0,hz⟩
  have bw:=bw i0
  obtain⟨dk4,hk4⟩:=nt4.ob
  refine⟨_,rfl,k,dk4,_,rfl,hk4,nflds_no _ _ (by decide +kernel) (by decide +kernel),_,rfl,_,rfl,?_⟩
  intro x dx' hx hdx ndx
  have fzz:Fq K H4 v pq:=s4.fq fv
  refine⟨x,dx',.pu,_,_,_,rfl,upd_same,rfl,?_⟩
  rw[upd_upd]
  have sR:=Rw.new (C:=CK .pu) (fs:=rflds (.int 0) (.int (i:Int)) (.ref v)) hx hdx ndx
  have rwx:Rw CK (upd (upd H4 dx' (.own x)) x (.ins (CK .pu) dx' (rflds (.int 0) (.int (i:Int)) (.ref v)))) x .pu (.int 0) (.int (i:Int)) (.ref v):=⟨dx',upd_same⟩
  have snt:=nt4
  have ntR:=snt.same sR
  have fzR:=sR.fq fzz
  have s7:=s4.trans sR
  generalize upd (upd H4 dx' (.own x)) x (.ins (CK .pu) dx' (rflds (.int 0) (.int (i:Int)) (.ref v)))=H7 at rwx sR ntR fzR s7 ⊢
  refine⟨k,g,x,v,(m:Int),_,.pu,_,_,_,rfl,ntR,rwx,fzR,⟨by show (0:Int)≤0;omega,by show (0:Int) < (m:Int);omega,by show (0:Int)≤(i:Int);omega,by show (i:Int) < (m:Int);omega,lw,fun z=>absurd (show Kd.pu=Kd.pc from z) (by decide),bw.mono (by omega)⟩,?_⟩
  have hlt:=pl
  rcases h with ⟨h40,q⟩ | ⟨h40,q⟩
  ·refine .inl ⟨by omega,fun H8 s8 nt8=>?_⟩
   exact⟨sameX_same s7 s8 gH,by rw[← List.append_assoc];exact nt8,by simp only[List.length_append,List.length_cons,List.length_nil] at *;omega,_,_,rfl⟩
  ·by_cases h4:(pcs X m m++pus cs i).length < 40
   ·refine .inl ⟨h4,fun H8 s8 nt8=>?_⟩
    exact⟨sameX_same s7 s8 gH,by rw[← List.append_assoc];exact nt8,by simp only[List.length_append,List.length_cons,List.length_nil] at *;omega,_,_,rfl⟩
   ·exact .inr ⟨by omega,fun H8 s8=>q H8 (s7.trans s8)⟩
 rintro σ H3 ⟨s3,nt3,l3,z2,z5,rfl⟩
 rw[show ys.length=m by rw[hC.length,SQ.lc]] at nt3 l3
 rcases h with ⟨h40,q⟩ | ⟨h40,q⟩
 ·exact⟨_,rfl,q k g H3 s3 hk gH nt3⟩
 ·exact absurd l3 (by show ¬(netOf X cs m).length≤40;omega)
structure TabA (av:List Addr) (CT:Addr) (K:PySem.W.Frag) (H:Hp) (t:Addr) (es:List Int) (X:List (List Mq.Q2)) (cs:List Mq.Q2):Prop where
 e:∃(dx p l a:Addr) (us ys:List V),H t=some (.ins CT dx (tflds p l a))∧H p=some (.lst (es.map V.int))∧H l=some (.lst us)∧LnH K H us X∧H a=some (.lst ys)∧Fqs K H ys cs∧p∉av∧l∉av∧a∉av∧∀x∈us,∀b∈av,x≠.ref b
theorem TabA.at {av:List Addr}{CT:Addr}{K:PySem.W.Frag}{H:Hp}{t:Addr}{es:List Int}{X:List (List Mq.Q2)}{cs:List Mq.Q2}(h:TabA av CT K H t es X cs):TabAt CT K H t es X cs:=by
 obtain⟨dx,p,l,a,us,ys,h1,h2,h3,h4,h5,h6,_⟩:=h.e
 exact⟨dx,p,l,a,us,ys,h1,SqL.of h2,SqL.of h3,h4.lns,SqL.of h5,h6⟩
theorem TabA.sx {av:List Addr}{CT:Addr}{K:PySem.W.Frag}{H H':Hp}{t:Addr}{es:List Int}{X:List (List Mq.Q2)}{cs:List Mq.Q2}(h:TabA av CT K H t es X cs)(lv:Lsts av H)(s:SX av H H'):TabA av CT K H' t es X cs:=by
 obtain⟨dx,p,l,a,us,ys,h1,h2,h3,h4,h5,h6,n1,n2,n3,n4⟩:=h.e
 refine⟨dx,p,l,a,us,ys,s _ _ h1 (fun z=>?_),s _ _ h2 n1,s _ _ h3 n2,⟨h4.l,fun i x ps e1 e2=>?_⟩,s _ _ h5 n3,SX.fqs lv s h6,n1,n2,n3,n4⟩
 ·obtain⟨_,e⟩:=lv _ z;rw[e] at h1;cases h1
 ·obtain⟨b,xs,q1,q2,q3⟩:=h4.r i x ps e1 e2
  exact⟨b,xs,q1,s _ _ q2 (fun z=>n4 x (List.mem_of_getElem? e1) b z q1),SX.fqs lv s q3⟩
theorem lnhI {K:PySem.W.Frag}{t C dx:Addr}{fs:List (Str × V)}{H H':Hp}{us:List V}{X:List (List Mq.Q2)}(ht:H t=some (.ins C dx fs))(e:SameX t H H')(h:LnH K H us X):LnH K H' us X:=⟨h.l,fun i x ps h1 h2=>let ⟨a,xs,e1,e2,e3⟩:=h.r i x ps h1 h2;⟨a,xs,e1,e _ _ e2 (fun z=>by rw[z,ht] at e2;cases e2),SameX.fqsI ht e e3⟩⟩
def spTInitA (CT:Addr)(K:PySem.W.Frag):Sp:=fun vs H Q _=>∃(t dx e g c:Addr) (es:List Int) (us ys:List V) (X:List (List Mq.Q2)) (cs:List Mq.Q2),vs=[.ref t,.ref e,.ref g,.ref c]∧H t=some (.ins CT dx [])∧SqL K H e (es.map V.int)∧SqL K H g us∧Lns K H us X∧us.length≤100∧SqL K H c ys∧Fqs K H ys cs∧∃av:List Addr,Lsts av H∧∀H',SameX t H H'→TabA av CT K H' t es X cs→Q .non H'
theorem ok_tinitA {dV:Value}{CT:Addr}(F:FunD K "__init__" "Table.__init__" sTInit dV f fd)(TBx:TB K mg CT)(mli:mg "list"=none):FnOk P w K mg base CX 1 f fd ["self","ends","matrix","comes"] (spTInitA CT K):=by
 refine F.ok scTInit (fun vs H Q E h=>?_) (fun cdv A outer s H vs Q E hr h=>?_)
 ·obtain⟨t,dx,e,g,c,es,us,ys,X,cs,rfl,ht,hE,hU,hL0,h100,hC,hF,av,lav,q⟩:=h
  rfl
 obtain⟨t,dx,e,g,c,es,us,ys,X,cs,rfl,ht,hE,hU,hL0,h100,hC,hF,av,lav,q⟩:=h
 refine⟨_,(pss_cons (ps_fld (pv 0) (pe_callTy call_list_of rfl mli PyProof.Rows.boot_list (pa_cons (pv 1) pa_nil)) rfl)
  (pss_cons (ps_fld (pv 0) (pe_comp (nl:=1) (fr:=[]) (Nc:=["line"]) (cl:=[]) rfl ⟨rfl,rfl,by decide +kernel,by decide +kernel,fun x c h=>(by cases h),has_of rfl,rfl,fun i n h=>(by simp at h)⟩
    (pi_list (pv 2)) (fun C s3 H3 fp pins=>(pg_name (i:=0) nd_line rfl (Or.inl rfl))) (fun C s3 H3 fp pins=>pif_nil)
    (fun C s3 H3 fp pins=>(pe_callTy (call_list_ofK (K:=K) rfl) rfl mli PyProof.Rows.boot_list (pa_cons (pv 0) pa_nil)))) rfl)
  (pss_one (ps_fld (pv 0) (pe_callTy call_list_of rfl mli PyProof.Rows.boot_list (pa_cons (pv 3) pa_nil)) rfl)))),?_⟩
 refine⟨_,rfl,e,_,rfl,.inl hE,fun p hp=>?_⟩
 have ntp:t≠p:=ne_of_none ht hp
 have s1:=same_new hp (.lst (es.map V.int))
 have ep:upd H p (.lst (es.map V.int)) p=some (.lst (es.map V.int)):=upd_same
 generalize upd H p (.lst (es.map V.int))=H1 at s1 ep ⊢
 refine⟨_,rfl,t,CT,dx,[],rfl,s1 _ _ ht,TBx.cl,TBx.nP,(by show 0 < 1000;decide),?_⟩
 have x1:SameX t H (upd H1 t (.ins CT dx (putF "places" (.ref p) []))):=fun b o h nb=>by rw[upd_ne nb];exact s1 _ _ h
 have et1:upd H1 t (.ins CT dx (putF "places" (.ref p) [])) t=some (.ins CT dx (putF "places" (.ref p) [])):=upd_same
 have ep1:upd H1 t (.ins CT dx (putF "places" (.ref p) [])) p=some (.lst (es.map V.int)):=by rw[upd_ne (Ne.symm ntp)];exact ep
 generalize upd H1 t (.ins CT dx (putF "places" (.ref p) []))=H2 at x1 et1 ep1 ⊢
 have hU2:=SameX.seqI ht x1 hU
 have hL2:=SameX.lnsI ht x1 hL0
 have hC2:=SameX.seqI ht x1 hC
 have hF2:=SameX.fqsI ht x1 hF
 refine⟨_,rfl,g,rfl,⟨_,hU2⟩,fun D hD=>?_⟩
 have hL0:=hL2
 have h100':X.length≤100:=by have:=hL0.l;omega
 have sD:=same_new hD (.lst [])
 refine comp_list (xs:=us) (fun i zs H'=>Same H2 H'∧H' D=some (.lst zs)∧LnH K H' zs (X.take i)∧∀x∈zs,x≠.ref D∧∀b∈av,x≠.ref b) ⟨sD,upd_same,by rw[List.take_zero];exact .nil,fun x hx=>by cases hx⟩ (fun i zs H' h=>h.2.1) (fun i zs H' _ h=>h.1.seq hU2) ?_ ?_
 ·rintro i zs x H2 hx ⟨s2,e2,G2,n2⟩ C' hC'
  have hi:i < X.length:=by have:=(List.getElem?_eq_some_iff.mp hx).1;have:=hL0.l;omega
  have hc:X[i]?=some X[i]:=List.getElem?_eq_getElem hi
  obtain⟨ra,rx,rfl,era,Sra⟩:=(hL0.same s2).r i x _ hx hc
  have lz:=G2.l
  rw[List.length_take] at lz
  refine⟨keep1.1,keep1.2,iteT ?_⟩
  refine⟨_,rfl,ra,rx,rfl,.inl era,fun L hL=>?_⟩
  have sL:=same_new hL (.lst rx)
  have eL:upd H2 L (.lst rx) L=some (.lst rx):=upd_same
  generalize upd H2 L (.lst rx)=H3' at sL eL ⊢
  have e23:=sL _ _ e2
  have nLK:L≠D:=Ne.symm (ne_of_none e2 hL)
  refine⟨e23,small1000 (by omega),hC' _ _ ⟨(s2.trans sL).change hD,upd_same,?_,fun y hy=>?_⟩⟩
  ·rw[List.take_add_one,hc]
   refine((G2.same sL).snoc eL (Sra.same sL)).upd e23 fun y hy=>?_
   rcases List.mem_append.mp hy with z | z
   ·exact(n2 y z).1
   ·have:y=.ref L:=by simpa using z
    rw[this];exact fun z=>nLK (by injection z)
  ·rcases List.mem_append.mp hy with z | z
   ·exact n2 y z
   ·have:y=.ref L:=by simpa using z
    rw[this];exact⟨fun z=>nLK (by injection z),fun b hb z=>by
     obtain⟨_,e⟩:=lav b hb
     have:L=b:=by injection z
     rw[this,s2 _ _ (x1 _ _ e (fun z=>by rw[z,ht] at e;cases e))] at hL;cases hL⟩
 rintro zs HZ ⟨sZ,eZ,GZ,nZ⟩
 rw[hL0.l,List.take_length] at GZ
 have etZ:=sZ _ _ et1
 have epZ:=sZ _ _ ep1
 have ntD:t≠D:=ne_of_none et1 hD
 have l1:=length_putF ("places":Str) (.ref p) []
 simp only[List.length_nil] at l1
 refine⟨_,rfl,t,CT,dx,putF "places" (.ref p) [],rfl,etZ,TBx.cl,TBx.nL,by omega,?_⟩
 have x2:SameX t HZ (upd HZ t (.ins CT dx (putF "lines" (.ref D) (putF "places" (.ref p) [])))):=fun b o h nb=>by rw[upd_ne nb];exact h
 have et2:upd HZ t (.ins CT dx (putF "lines" (.ref D) (putF "places" (.ref p) []))) t=some (.ins CT dx (putF "lines" (.ref D) (putF "places" (.ref p) []))):=upd_same
 have hC3:=SameX.seqI etZ x2 (sZ.seq hC2)
 have hF3:=SameX.fqsI etZ x2 (hF2.same sZ)
 have ep3:=x2 _ _ epZ (Ne.symm ntp)
 have eD3:=x2 _ _ eZ (Ne.symm ntD)
 have G3:=lnhI etZ x2 GZ
 generalize upd HZ t (.ins CT dx (putF "lines" (.ref D) (putF "places" (.ref p) [])))=H4 at x2 et2 hC3 hF3 ep3 eD3 G3 ⊢
 refine⟨_,rfl,c,_,rfl,.inl hC3,fun a ha=>?_⟩
 have nta:t≠a:=ne_of_none et2 ha
 have s5:=same_new ha (.lst ys)
 have ea:upd H4 a (.lst ys) a=some (.lst ys):=upd_same
 generalize upd H4 a (.lst ys)=H5 at s5 ea ⊢
 have l2:=length_putF ("lines":Str) (.ref D) (putF "places" (.ref p) [])
 refine⟨_,rfl,t,CT,dx,putF "lines" (.ref D) (putF "places" (.ref p) []),rfl,s5 _ _ et2,TBx.cl,TBx.nA,by omega,?_⟩
 have et5:=s5 _ _ et2
 have x3:SameX t H5 (upd H5 t (.ins CT dx (tflds p D a))):=fun b o h nb=>by rw[upd_ne nb];exact h
 refine q _ (fun b o h nb=>x3 _ _ (s5 _ _ (x2 _ _ (sZ _ _ (x1 _ _ h nb)) nb)) nb) ⟨dx,p,D,a,zs,ys,upd_same,x3 _ _ (s5 _ _ ep3) (Ne.symm ntp),x3 _ _ (s5 _ _ eD3) (Ne.symm ntD),lnhI et5 x3 (G3.same s5),x3 _ _ ea (Ne.symm nta),SameX.fqsI et5 x3 (hF3.same s5),fun z=>?_,fun z=>?_,fun z=>?_,fun x hx=>(nZ x hx).2⟩
 ·obtain⟨_,e⟩:=lav _ z;rw[e] at hp;cases hp
 ·obtain⟨_,e⟩:=lav _ z;rw[x1 _ _ e (fun z=>by rw[z,ht] at e;cases e)] at hD;cases hD
 ·obtain⟨_,e⟩:=lav _ z;rw[x2 _ _ (sZ _ _ (x1 _ _ e (fun z=>by rw[z,ht] at e;cases e))) (fun z=>by rw[z,ht] at e;cases e)] at ha;cases ha
theorem tinit_good {CT g:Addr}{gd:FuncData}(F:FnOk P w K mg base CX0 1 g gd ["self","ends","matrix","comes"] (spTInitA CT K)):FnOk P w K mg base CX0 1 g gd ["self","ends","matrix","comes"] (spTInit CT K):=
 F.weak fun vs H Q E h=>by
  obtain⟨t,dx,e,g,c,es,us,ys,X,cs,rfl,ht,hE,hU,hL0,h100,hC,hF,q⟩:=h
  exact⟨t,dx,e,g,c,es,us,ys,X,cs,rfl,ht,hE,hU,hL0,h100,hC,hF,[],(fun b hb=>by cases hb),fun H' s T=>q H' s T.at⟩
def spNth (K:PySem.W.Frag):Sp:=fun vs H Q _=>∃(a:Addr) (ns:List Int) (j:Int) (k:Nat),vs=[.ref a,.int j]∧j=(k:Int)∧SqL K H a (ns.map V.int)∧ns.length≤63∧k≤63∧∀i H',Same H H'→Q (.int i) H'
theorem em_lo (x:Int){m:Int}(h:0 < m):0≤x % m:=Int.emod_nonneg x (by omega)
theorem em_hi (x:Int){m:Int}(h:0 < m):x % m < m:=Int.emod_lt_of_pos x h
def bits (fr:Bool):Nat:=if fr then 30 else 4
def spSize:Sp:=fun vs H Q _=>∃(c:Int) (fr:Bool),vs=[.int c,.bl fr]∧∀p,Mq.Ps p→Mq.Bd (bits fr) p→NewF H Q p
def spAmount:Sp:=fun vs H Q _=>∃(c:Int) (fr:Bool),vs=[.int c,.bl fr]∧∀p,Mq.Low p→Mq.Bd (bits fr) p→NewF H Q p
theorem size_fin {H:Hp}{Q:VK}{fr:Bool}(q:∀p,Mq.Ps p→Mq.Bd (bits fr) p→NewF H Q p){t b:Int}(h1:0 < t)(h2:t < 2 ^ bits fr)(h3:0 < b)(h4:b < 2 ^ bits fr):spLowP [.int t,.int b] H Q E0:=by
 have bT:Mq.B (bits fr) t:=B_of (by have:(0:Int) < 2 ^ bits fr:=Int.pow_pos (by decide);omega) h2
 have bB:Mq.B (bits fr) b:=B_of (by have:(0:Int) < 2 ^ bits fr:=Int.pow_pos (by decide);omega) h4
 have le:=Mq.red_le (t:=t) (show b≠0 by omega)
 exact⟨t,b,bits fr,rfl,h3,bB,by unfold bits;split<;>omega,q _ (Mq.red_ps h1 h3) ⟨bT.le le.1,bB.le le.2⟩⟩
theorem amount_fin {H:Hp}{Q:VK}{fr:Bool}(q:∀p,Mq.Low p→Mq.Bd (bits fr) p→NewF H Q p){t b:Int}(h1:-(2 ^ bits fr) < t)(h2:t < 2 ^ bits fr)(h3:0 < b)(h4:b < 2 ^ bits fr):spLowP [.int t,.int b] H Q E0:=by
 have bT:Mq.B (bits fr) t:=B_of h1 h2
 have bB:Mq.B (bits fr) b:=B_of (by have:(0:Int) < 2 ^ bits fr:=Int.pow_pos (by decide);omega) h4
 have le:=Mq.red_le (t:=t) (show b≠0 by omega)
 exact⟨t,b,bits fr,rfl,h3,bB,by unfold bits;split<;>omega,q _ (Mq.red_low (by omega)) ⟨bT.le le.1,bB.le le.2⟩⟩
abbrev sNth:Stmt:=top 62
theorem scNth:FnScope ["_law_script","_law_k","_law_cell"] ["_law_script","_law_k"] (defScope sNth):=⟨rfl,rfl,rfl,by decide +kernel,rfl,by decide +kernel,by decide +kernel⟩
theorem ok_nth {dV:Value}(F:FunD K "_law_nth" "_law_nth" sNth dV f fd) :
  FnOk P w K mg base CX 1 f fd ["_law_script","_law_k"] (spNth K):=by
 refine F.ok scNth (fun vs H Q E h=>?_) (fun cdv A outer s H vs Q E hr h=>?_)
 ·obtain⟨a,ns,j,k,rfl,hj,hS,h63,hk,q⟩:=h
  rfl
 obtain⟨a,ns,j,k,rfl,hj,hS,h63,hk,q⟩:=h
 refine⟨_,(pss_cons (ps_for PassesOwn.never rfl (pi_list (pe_slice sl_list (pv 0) (po_some (pv 1)) (po_some (pe_op op_add (pv 1) pe_int)))) (pg_name (i:=2) scNth.nd rfl (Or.inl rfl))
   (pss_one (ps_ret (pv 2))))
  (pss_one (ps_ret (pe_op op_mod (pe_op op_mulB (pe_op op_mul pe_int (pv 1)) (pv 1)) pe_int)))),?_⟩
 refine⟨_,rfl,_,rfl,j,rfl,_,rfl,_,_,rfl,rfl,j+1,rfl,a,_,rfl,hS,fun l hl=>?_⟩
 have s1:=same_new hl (.lst (cutV (ns.map V.int) (some j) (some (j+1))))
 have e1:upd H l (.lst (cutV (ns.map V.int) (some j) (some (j+1)))) l=some (.lst (cutV (ns.map V.int) (some j) (some (j+1)))):=upd_same
 obtain⟨ms,em,lm⟩:=cut_ints ns (some j) (some (j+1))
 rw[em] at e1 s1 ⊢
 generalize upd H l (.lst (ms.map V.int))=H1 at e1 s1 ⊢
 refine⟨l,rfl,⟨_,SqL.of e1⟩,?_⟩
 refine for_list (xs:=ms.map V.int) (fun i σ H'=>H'=H1∧∃z,σ=[some (.ref a),some (.int j),z]) ⟨rfl,none,rfl⟩ (fun i σ H' _ h=>by rw[h.1];exact SqL.of e1) ?_ ?_
 ·rintro i x σ H' hx ⟨rfl,z,rfl⟩
  obtain⟨c,rfl⟩:∃c,x=.int c:=by
   rw[List.getElem?_map] at hx
   cases hm:ms[i]? with
   |none=>rw[hm] at hx;cases hx
   |some c=>rw[hm] at hx;cases hx;exact⟨c,rfl⟩
  exact⟨_,rfl,q c _ s1⟩
 ·rintro σ H' ⟨rfl,z,rfl⟩
  refine⟨_,rfl,_,_,rfl,rfl,Or.inl ⟨by decide,by decide⟩,_,rfl,rd_mulB (n:=40) (m:=40) (B_of (by omega) (by omega)) (B_of (by omega) (by omega)) (by omega) (by omega) ⟨_,_,rfl,rfl,(show (0:Int) < 1009 by decide),q _ _ s1⟩⟩
abbrev sDiv:Stmt:=top 63
theorem scDiv:FnScope ["_law_one","_law_other"] ["_law_one","_law_other"] (defScope sDiv):=⟨rfl,rfl,rfl,by decide +kernel,rfl,by decide +kernel,by decide +kernel⟩
theorem ok_div {dV:Value}(F:FunD K "_law_divisor" "_law_divisor" sDiv dV f fd)(b:Bl mg) :
  FnOk P w K mg base CX 1 f fd ["_law_one","_law_other"] spGc:=by
 refine F.ok scDiv (fun vs H Q E h=>?_) (fun cdv A outer s H vs Q E hr h=>?_)
 ·obtain⟨x,y,rfl,q⟩:=h
  rfl
 obtain⟨x,y,rfl,q⟩:=h
 refine⟨_,(pss_cons (ps_while PassesOwn.never (pt_cmpR op_ne (pv 1) pe_int (nomark _)) (pss_one (ps_par (i:=0) (j:=1) rfl scDiv.nd rfl rfl (by decide) rfl rfl (pa_cons (pv 1) (pa_cons (pe_op op_modN (pv 0) (pv 1)) pa_nil)) rfl)))
  (pss_one (ps_ret (pe_callB call_abs rfl b.abs PyProof.Rows.boot_abs (pa_cons (pv 0) pa_nil))))),?_⟩
 refine while_by (fun σ H'=>H'=H∧∃u v,σ=[some (.int u),some (.int v)]∧Mq.gc u v=Mq.gc x y) (fun σ _=>match σ with | [_,some (.int v)]=>v.natAbs | _=>0) ⟨rfl,x,y,rfl,rfl⟩ ?_ ?_
 ·rintro σ H' ⟨rfl,u,v,rfl,e⟩
  refine⟨_,rfl,rfl,_,rfl,?_⟩
  refine ite2 (fun c=>?_) (fun c=>?_)
  ·have hv:v≠0:=by intro q;subst q;simp at c
   refine⟨_,rfl,_,rfl,_,rfl,_,_,rfl,rfl,hv,_,_,rfl,⟨rfl,v,Int.fmod u v,rfl,(Mq.gc_step u v).trans e⟩,Mq.fmod_less hv⟩
  ·have hv:v=0:=by
    simp at c
    exact c
   subst hv
   refine⟨_,rfl,_,rfl,?_⟩
   rw[← Mq.gc_zero,e]
   exact q
 ·rintro σ H Q Q' m ⟨v,h1,h2,k,h3,h4⟩
  exact⟨v,h1,h2,k,h3,m _ _ h4⟩
abbrev sLowest:Stmt:=top 64
theorem scLowest:FnScope ["_law_top","_law_bottom","_law_part"] ["_law_top","_law_bottom"] (defScope sLowest):=⟨rfl,rfl,rfl,by decide +kernel,rfl,by decide +kernel,by decide +kernel⟩
theorem ok_lowest {dV:Value}(F:FunD K "_law_lowest" "_law_lowest" sLowest dV f fd)(G1:FnOk P w K mg base CX0 1 g1 gd1 ["_law_one","_law_other"] spGc)(b1:Binds K gd1 ["_law_one","_law_other"] [])(k1:PySem.W.keepIn K (.ref g1)=true)(m1:mg "_law_divisor"=some (.ref g1)) :
  FnOk P w K mg base CX 2 f fd ["_law_top","_law_bottom"] spLowP:=by
 refine F.ok scLowest (fun vs H Q E h=>?_) (fun cdv A outer s H vs Q E hr h=>?_)
 ·obtain⟨t,b',n,rfl,hb,hB,hn,q⟩:=h
  rfl
 obtain⟨t,b',n,rfl,hb,hB,hn,q⟩:=h
 refine⟨_,(pss_cons (ps_set (i:=2) scLowest.nd rfl (Or.inl rfl) (pe_call G1 hr rfl m1 k1 b1 .nil pass0 (pa_cons (pv 0) (pa_cons (pv 1) pa_nil))))
  (pss_one (ps_ret (pe_tup (pa_cons (pe_op op_fdivB (pv 0) (pv 2)) (pa_cons (pe_op op_fdivB (pv 1) (pv 2)) pa_nil)))))),?_⟩
 have hd:=Mq.dvr_ne (t:=t) (show b'≠0 by omega)
 have hdB:Mq.B n (Mq.dvr t b'):=hB.le (Mq.dvr_le (by omega))
 have e:=dvr_pos (t:=t) hb
 rw[e] at hd hdB
 have q':NewF H Q (t.fdiv (Mq.gc t b'),b'.fdiv (Mq.gc t b')):=by
  have z:=q
  unfold Mq.red at z
  rw[e] at z
  exact z
 refine⟨_,rfl,_,rfl,t,b',rfl,?_⟩
 refine⟨_,rfl,_,rfl,rd_fdivB hd hdB hn ⟨_,rfl,_,rfl,rd_fdivB hd hdB hn ⟨by show 2≤sizeLine;decide,fun p hp=>?_⟩⟩⟩
 exact q' p _ (same_new hp _) upd_same
def spIs (K:PySem.W.Frag):Sp:=fun vs H Q _=>∃(a:Addr) (p:Mq.Q2),vs=[.ref a]∧Fq K H a p∧Mq.Low p∧Q (.bl true) H
abbrev sIs:Stmt:=top 65
theorem scIs:FnScope ["_law_found","_law_number"] ["_law_found"] (defScope sIs):=⟨rfl,rfl,rfl,by decide +kernel,rfl,by decide +kernel,by decide +kernel⟩
theorem ok_is {dV:Value}(F:FunD K "_law_is" "_law_is" sIs dV f fd)(b:Bl mg)(ml:mg "len"=none)(mt:mg "tuple"=none)(G1:FnOk P w K mg base CX0 1 g1 gd1 ["_law_one","_law_other"] spGc)(b1:Binds K gd1 ["_law_one","_law_other"] [])(k1:PySem.W.keepIn K (.ref g1)=true)(m1:mg "_law_divisor"=some (.ref g1)) :
  FnOk P w K mg base CX 2 f fd ["_law_found"] (spIs K):=by
 refine F.ok scIs (fun vs H Q E h=>?_) (fun cdv A outer s H vs Q E hr h=>?_)
 ·obtain⟨a,p,rfl,fa,hp,q⟩:=h
  rfl
 obtain⟨a,p,rfl,fa,hp,q⟩:=h
 refine⟨_,(pss_cons (ps_if (PW.pt (pw_or (pt_not (pt_val (pe_isiQ (i:=0) rfl (Or.inl rfl) b.isi mt rfl rfl PyProof.Rows.boot_tuple))) (pw_or1 (pt_cmpR op_ne (pe_callB call_len_seq rfl ml PySem.boot_len (pa_cons (pv 0) pa_nil)) pe_int (nomark _))))) (pss_one (ps_ret pe_bl)) pss_nil)
  (pss_cons (ps_for PassesOwn.never rfl (pi_tup (pv 0)) (pg_name (i:=1) scIs.nd rfl (Or.inl rfl))
   (pss_one (ps_if (PW.pt (pw_or (pt_not (pt_val (pe_isiQ (i:=1) rfl (Or.inl rfl) b.isi b.int rfl rfl PyProof.Rows.boot_int))) (pw_or1 (pt_val (pe_isiQ (i:=1) rfl (Or.inl rfl) b.isi b.bool rfl rfl PyProof.Rows.boot_bool))))) (pss_one (ps_ret pe_bl)) pss_nil)))
  (pss_one (ps_ret (pe_and (pe_cmpR op_gt (pe_ix ix_tup (pv 0) pe_int (fun _ _=>rfl)) pe_int (nomark _)) (pe_one (pe_cmpR op_eq (pe_call G1 hr rfl m1 k1 b1 .nil pass0 (pa_cons (pe_ix ix_tup (pv 0) pe_int (fun _ _=>rfl)) (pa_cons (pe_ix ix_tup (pv 0) pe_int (fun _ _=>rfl)) pa_nil))) pe_int (nomark _)))))))),?_⟩
 refine⟨_,_,true,rfl,.tup fa,rfl,_,rfl,iteF ⟨_,rfl,a,_,rfl,.inr fa,rfl,_,rfl,iteF ?_⟩⟩
 refine⟨_,rfl,a,rfl,⟨_,fa⟩,?_⟩
 refine for_tup (xs:=[.int p.1,.int p.2]) (fun i σ H'=>H'=H∧∃z,σ=[some (.ref a),z]) ⟨rfl,none,rfl⟩ (fun i σ H' _ h=>by rw[h.1];exact fa) ?_ ?_
 ·rintro i x σ H' hx ⟨rfl,z,rfl⟩
  have hint:∃j,x=.int j:=by
   match i,hx with
   |0,h=>exact⟨p.1,by simpa using h.symm⟩
   |1,h=>exact⟨p.2,by simpa using h.symm⟩
   |n+2,h=>simp at h
  obtain⟨j,rfl⟩:=hint
  exact⟨_,_,true,rfl,.of (.int j),rfl,_,rfl,iteF ⟨_,_,false,rfl,.of (.int j),(by with_unfolding_all rfl),_,rfl,iteF ⟨rfl,_,rfl⟩⟩⟩
 ·rintro σ H' ⟨rfl,z,rfl⟩
  have h1:=hp.pos
  refine rd_ix1 rfl fa ⟨_,_,rfl,rfl,_,rfl,L2.ifT (decide_eq_true (show p.2 > 0 by omega)) (rd_ix0 rfl fa (rd_ix1 rfl fa ⟨_,_,rfl,rfl,?_⟩))⟩
  rw[hp.one]
  exact q
abbrev sSize:Stmt:=top 68
theorem scSize:FnScope ["_law_cell","_law_far"] ["_law_cell","_law_far"] (defScope sSize):=⟨rfl,rfl,rfl,by decide +kernel,rfl,by decide +kernel,by decide +kernel⟩
theorem ok_size {dV:Value}(F:FunD K "_law_size" "_law_size" sSize dV f fd)(G1:FnOk P w K mg base CX0 2 g1 gd1 ["_law_top","_law_bottom"] spLowP)(b1:Binds K gd1 ["_law_top","_law_bottom"] [])(k1:PySem.W.keepIn K (.ref g1)=true)(m1:mg "_law_lowest"=some (.ref g1)) :
  FnOk P w K mg base CX 3 f fd ["_law_cell","_law_far"] spSize:=by
 refine F.ok scSize (fun vs H Q E h=>?_) (fun cdv A outer s H vs Q E hr h=>?_)
 ·obtain⟨c,fr,rfl,q⟩:=h
  rfl
 obtain⟨c,fr,rfl,q⟩:=h
 refine⟨_,(pss_cons (ps_if (pt_val (pv 1)) (pss_one (ps_ret (pe_call G1 hr rfl m1 k1 b1 .nil pass0 (pa_cons (pe_op op_add pe_int (pe_op op_mod (pe_op op_mul (pv 0) pe_int) pe_int)) (pa_cons (pe_op op_add pe_int (pe_op op_mod (pe_op op_mul (pv 0) pe_int) pe_int)) pa_nil))))) pss_nil)
  (pss_one (ps_ret (pe_call G1 hr rfl m1 k1 b1 .nil pass0 (pa_cons (pe_op op_add pe_int (pe_op op_mod (pe_op op_mod (pe_op op_mul (pv 0) pe_int) pe_int) pe_int)) (pa_cons (pe_op op_add pe_int (pe_op op_mod (pe_op op_mod (pe_op op_mul (pv 0) pe_int) pe_int) pe_int)) pa_nil)))))),?_⟩
 refine⟨_,rfl,_,rfl,?_⟩
 cases fr
 ·refine iteF ⟨_,rfl,_,_,rfl,rfl,Or.inr ⟨by decide,by decide⟩,_,_,rfl,rfl,(show (0:Int) < 10007 by decide),_,_,rfl,rfl,(show (0:Int) < 9 by decide),_,_,rfl,rfl,_,rfl,_,_,rfl,rfl,Or.inr ⟨by decide,by decide⟩,_,_,rfl,rfl,(show (0:Int) < 31 by decide),_,_,rfl,rfl,(show (0:Int) < 4 by decide),_,_,rfl,rfl,?_⟩
  have a1:=em_lo (c*48271 % 10007) (show (0:Int) < 9 by decide)
  have a2:=em_hi (c*48271 % 10007) (show (0:Int) < 9 by decide)
  have b1:=em_lo (c*16807 % 31) (show (0:Int) < 4 by decide)
  have b2:=em_hi (c*16807 % 31) (show (0:Int) < 4 by decide)
  exact size_fin q (by omega) (by show _ < (16:Int);omega) (by omega) (by show _ < (16:Int);omega)
 ·refine iteT ⟨_,rfl,_,_,rfl,rfl,Or.inr ⟨by decide,by decide⟩,_,_,rfl,rfl,(show (0:Int) < 999999937 by decide),_,_,rfl,rfl,_,rfl,_,_,rfl,rfl,Or.inr ⟨by decide,by decide⟩,_,_,rfl,rfl,(show (0:Int) < 999999929 by decide),_,_,rfl,rfl,?_⟩
  have a1:=em_lo (c*48271) (show (0:Int) < 999999937 by decide)
  have a2:=em_hi (c*48271) (show (0:Int) < 999999937 by decide)
  have b1:=em_lo (c*69621) (show (0:Int) < 999999929 by decide)
  have b2:=em_hi (c*69621) (show (0:Int) < 999999929 by decide)
  exact size_fin q (by omega) (by show _ < (1073741824:Int);omega) (by omega) (by show _ < (1073741824:Int);omega)
abbrev sAmount:Stmt:=top 69
theorem scAmount:FnScope ["_law_cell","_law_far"] ["_law_cell","_law_far"] (defScope sAmount):=⟨rfl,rfl,rfl,by decide +kernel,rfl,by decide +kernel,by decide +kernel⟩
theorem ok_amount {dV:Value}(F:FunD K "_law_amount" "_law_amount" sAmount dV f fd)(G1:FnOk P w K mg base CX0 2 g1 gd1 ["_law_top","_law_bottom"] spLowP)(b1:Binds K gd1 ["_law_top","_law_bottom"] [])(k1:PySem.W.keepIn K (.ref g1)=true)(m1:mg "_law_lowest"=some (.ref g1)) :
  FnOk P w K mg base CX 3 f fd ["_law_cell","_law_far"] spAmount:=by
 refine F.ok scAmount (fun vs H Q E h=>?_) (fun cdv A outer s H vs Q E hr h=>?_)
 ·obtain⟨c,fr,rfl,q⟩:=h
  rfl
 obtain⟨c,fr,rfl,q⟩:=h
 refine⟨_,(pss_cons (ps_if (pt_val (pv 1)) (pss_one (ps_ret (pe_call G1 hr rfl m1 k1 b1 .nil pass0 (pa_cons (pe_op op_sub (pe_op op_mod (pe_op op_mul (pv 0) pe_int) pe_int) pe_int) (pa_cons (pe_op op_add pe_int (pe_op op_mod (pe_op op_mul (pv 0) pe_int) pe_int)) pa_nil))))) pss_nil)
  (pss_one (ps_ret (pe_call G1 hr rfl m1 k1 b1 .nil pass0 (pa_cons (pe_op op_sub (pe_op op_mod (pe_op op_mod (pe_op op_mul (pv 0) pe_int) pe_int) pe_int) pe_int) (pa_cons (pe_op op_add pe_int (pe_op op_mod (pe_op op_mod (pe_op op_mul (pv 0) pe_int) pe_int) pe_int)) pa_nil)))))),?_⟩
 refine⟨_,rfl,_,rfl,?_⟩
 cases fr
 ·refine iteF ⟨_,rfl,_,_,rfl,rfl,Or.inr ⟨by decide,by decide⟩,_,_,rfl,rfl,(show (0:Int) < 10009 by decide),_,_,rfl,rfl,(show (0:Int) < 19 by decide),_,_,rfl,rfl,_,rfl,_,_,rfl,rfl,Or.inr ⟨by decide,by decide⟩,_,_,rfl,rfl,(show (0:Int) < 37 by decide),_,_,rfl,rfl,(show (0:Int) < 3 by decide),_,_,rfl,rfl,?_⟩
  have a1:=em_lo (c*69621 % 10009) (show (0:Int) < 19 by decide)
  have a2:=em_hi (c*69621 % 10009) (show (0:Int) < 19 by decide)
  have b1:=em_lo (c*16807 % 37) (show (0:Int) < 3 by decide)
  have b2:=em_hi (c*16807 % 37) (show (0:Int) < 3 by decide)
  exact amount_fin q (by show -(16:Int) < _;omega) (by show _ < (16:Int);omega) (by omega) (by show _ < (16:Int);omega)
 ·refine iteT ⟨_,rfl,_,_,rfl,rfl,Or.inr ⟨by decide,by decide⟩,_,_,rfl,rfl,(show (0:Int) < 1999999973 by decide),_,_,rfl,rfl,_,rfl,_,_,rfl,rfl,Or.inr ⟨by decide,by decide⟩,_,_,rfl,rfl,(show (0:Int) < 999999893 by decide),_,_,rfl,rfl,?_⟩
  have a1:=em_lo (c*69621) (show (0:Int) < 1999999973 by decide)
  have a2:=em_hi (c*69621) (show (0:Int) < 1999999973 by decide)
  have b1:=em_lo (c*48271) (show (0:Int) < 999999893 by decide)
  have b2:=em_hi (c*48271) (show (0:Int) < 999999893 by decide)
  exact amount_fin q (by show -(1073741824:Int) < _;omega) (by show _ < (1073741824:Int);omega) (by omega) (by show _ < (1073741824:Int);omega)
abbrev sLPlus:Stmt:=top 70
theorem scLPlus:FnScope ["_law_one","_law_other"] ["_law_one","_law_other"] (defScope sLPlus):=⟨rfl,rfl,rfl,by decide +kernel,rfl,by decide +kernel,by decide +kernel⟩
theorem ok_lplus {dV:Value}(F:FunD K "_law_plus" "_law_plus" sLPlus dV f fd)(G1:FnOk P w K mg base CX0 2 g1 gd1 ["_law_top","_law_bottom"] spLowP)(b1:Binds K gd1 ["_law_top","_law_bottom"] [])(k1:PySem.W.keepIn K (.ref g1)=true)(m1:mg "_law_lowest"=some (.ref g1)) :
  FnOk P w K mg base CX 3 f fd ["_law_one","_law_other"] (spTwo K Mq.plus):=by
 refine F.ok scLPlus (fun vs H Q E h=>?_) (fun cdv A outer s H vs Q E hr h=>?_)
 ·obtain⟨a,b,p,q,n,m,rfl,fa,fb,hp,hq,bp,bq,hnm,z⟩:=h
  rfl
 obtain⟨a,b,p,q,n,m,rfl,fa,fb,hp,hq,bp,bq,hnm,z⟩:=h
 refine⟨_,(pss_one (ps_ret (pe_call G1 hr rfl m1 k1 b1 .nil pass0 (pa_cons (pe_op op_add (pe_op op_mulB (pe_ix ix_tup (pv 0) pe_int (fun _ _=>rfl)) (pe_ix ix_tup (pv 1) pe_int (fun _ _=>rfl))) (pe_op op_mulB (pe_ix ix_tup (pv 1) pe_int (fun _ _=>rfl)) (pe_ix ix_tup (pv 0) pe_int (fun _ _=>rfl)))) (pa_cons (pe_op op_mulB (pe_ix ix_tup (pv 0) pe_int (fun _ _=>rfl)) (pe_ix ix_tup (pv 1) pe_int (fun _ _=>rfl))) pa_nil))))),?_⟩
 refine rd_ix0 rfl fa (rd_ix1 rfl fb (rd_mulB bp.a bq.b (by omega) (by omega) ?_))
 refine rd_ix0 rfl fb (rd_ix1 rfl fa (rd_mulB bq.a bp.b (by omega) (by omega) ⟨_,_,rfl,rfl,?_⟩))
 refine rd_ix1 rfl fa (rd_ix1 rfl fb (rd_mulB bp.b bq.b (by omega) (by omega) ?_))
 exact⟨_,_,n+m,rfl,Int.mul_pos (by omega) (by omega),bp.b.mul bq.b,by omega,z⟩
end
end K56
set_option maxHeartbeats 2000000
namespace L2
open PySem Mq Shp
theorem ne_len {a:Int}:∀{l:List Int},l.Nodup→l.length≤(l.filter fun x=>decide (x≠a)).length+1
 | [],_=>by simp
 |b :: l,h=>by
  have h2:=List.nodup_cons.mp h
  by_cases c:b=a
  ·have:l.filter (fun x=>decide (x≠a))=l:=List.filter_eq_self.mpr fun x hx=>by
    have:x≠a:=fun z=>h2.1 (by rw[c,← z];exact hx)
    simp[this]
   rw[List.filter_cons_of_neg (by simp[c]),this,List.length_cons]
   omega
  ·rw[List.filter_cons_of_pos (by simp[c]),List.length_cons,List.length_cons]
   have:=ne_len (a:=a) h2.2
   omega
theorem out_len:∀(es:List Int) {l:List Int},l.Nodup→l.length≤(l.filter fun x=>decide (x∉es)).length+es.length
 | [],l,_=>by rw[List.filter_eq_self.mpr (fun x hx=>by simp)];simp
 |a :: es,l,h=>by
  have ih:=out_len es h
  have e:(l.filter fun x=>decide (x∉a :: es))=(l.filter fun x=>decide (x∉es)).filter fun x=>decide (x≠a):=by
   rw[List.filter_filter]
   congr 1
   funext x
   simp
  have:=ne_len (a:=a) (h.sublist (List.filter_sublist (p:=fun x=>decide (x∉es))))
  rw[e,List.length_cons]
  omega
def ints20:List Int:=(List.range 20).map fun (p:Nat)=>(p:Int)
def set2 (X:List (List Q2))(i j:Nat)(q:Q2):List (List Q2):=X.set i ((X.getD i []).set j q)
theorem ix2_set {X:List (List Q2)}{i j m:Nat}{q:Q2}(hl:X.length=m)(hw:∀row∈X,row.length=m)(hi:i < m)(hj:j < m)(d e:Nat):ix2 (set2 X i j q) d e=if d=i∧e=j then q else ix2 X d e:=by
 have hr:=hw _ (List.mem_of_getElem? (getL (X:=X) (i:=i) (by omega)))
 unfold set2 ix2
 rw[List.getD_eq_getElem?_getD (l:=X.set i _),List.getElem?_set]
 by_cases c:i=d
 ·subst c
  rw[if_pos rfl,if_pos (by omega)]
  show ((X.getD i []).set j q).getD e z0=_
  rw[List.getD_eq_getElem?_getD,List.getElem?_set]
  by_cases c2:j=e
  ·subst c2
   rw[if_pos rfl,if_pos (by omega),if_pos ⟨rfl,rfl⟩];rfl
  ·rw[if_neg c2,if_neg (fun z=>c2 z.2.symm)];exact(List.getD_eq_getElem?_getD ..).symm
 ·rw[if_neg c,if_neg (fun z=>c z.1.symm),List.getD_eq_getElem?_getD (l:=X)]
theorem set2_l {X:List (List Q2)}{i j m:Nat}{q:Q2}(hl:X.length=m):(set2 X i j q).length=m:=by unfold set2;rw[List.length_set];exact hl
theorem set2_w {X:List (List Q2)}{i j m:Nat}{q:Q2}(hl:X.length=m)(hw:∀row∈X,row.length=m)(hi:i < m):∀row∈set2 X i j q,row.length=m:=fun row hr=>by
 rcases List.mem_or_eq_of_mem_set hr with z | z
 ·exact hw row z
 ·rw[z,List.length_set];exact hw _ (List.mem_of_getElem? (getL (by omega)))
theorem Mx.at {K:PySem.W.Frag}{H:Hp}{D:Addr}{as:List Addr}{M:List (List Q2)}(m:Mx K H D as M){i:Nat}(hi:i < M.length):∃a xs,as[i]?=some a∧(as.map V.ref)[i]?=some (.ref a)∧H a=some (.lst xs)∧Fqs K H xs (M.getD i []):=by
 have il:i < as.length:=by rw[m.la];exact hi
 have e:=List.getElem?_eq_getElem il
 obtain⟨xs,h,f⟩:=m.r i _ _ e (getL hi)
 exact⟨as[i],xs,e,by rw[List.getElem?_map,e];rfl,h,f⟩
theorem Mx.lnh {K:PySem.W.Frag}{H:Hp}{D:Addr}{as:List Addr}{M:List (List Q2)}(m:Mx K H D as M):LnH K H (as.map V.ref) M:=⟨by rw[List.length_map,m.la],fun i x ps h1 h2=>by
 rw[List.getElem?_map] at h1
 cases e:as[i]? with
 |none=>rw[e] at h1;cases h1
 |some a=>
  rw[e] at h1
  cases h1
  obtain⟨xs,h,f⟩:=m.r i a ps e h2
  exact⟨a,xs,rfl,h,f⟩⟩
end L2
set_option maxHeartbeats 4000000
namespace K56
open PySem L2 Shp
section
variable {P:Program} {w:World} {K:PySem.W.Frag} {mg:Str→Option Value} {base:Heap} {f g1 g2 g3 g4 g5 g6 g7 g8:Addr} {fd gd1 gd2 gd3 gd4 gd5 gd6 gd7 gd8:FuncData} {CX:CXT}
variable {CR:Addr} {CK:Kd→Addr} {fW fJ fT fS:Kd→Addr} {fdW fdJ fdT fdS:Kd→FuncData}
def oneF (pf:Nat→Nat→Option Mq.Q2)(i j:Nat):List RD:=match pf i j with
 |none=>[]
 |some p=>[(.pc,(i:Int),(j:Int),p)]
def lineF (pf:Nat→Nat→Option Mq.Q2)(i c:Nat):List RD:=(List.range c).flatMap fun k=>oneF pf i (i+1+k)
def pcsF (pf:Nat→Nat→Option Mq.Q2)(m r:Nat):List RD:=(List.range r).flatMap fun i=>lineF pf i (m - (i+1))
theorem oneF_mem {pf:Nat→Nat→Option Mq.Q2}{i j:Nat}{d:RD}(h:d∈oneF pf i j):∃p,pf i j=some p∧d=(.pc,(i:Int),(j:Int),p):=by
 unfold oneF at h
 cases e:pf i j with
 |none=>rw[e] at h;cases h
 |some p=>rw[e] at h;exact⟨p,rfl,List.mem_singleton.mp h⟩
theorem pcsF_mem {pf:Nat→Nat→Option Mq.Q2}{m r:Nat}{d:RD}(h:d∈pcsF pf m r):∃i j p,i < r∧i < j∧j < m∧pf i j=some p∧d=(.pc,(i:Int),(j:Int),p):=by
 obtain⟨i,hi,h⟩:=List.mem_flatMap.mp h
 obtain⟨k,hk,h⟩:=List.mem_flatMap.mp h
 obtain⟨p,e,rfl⟩:=oneF_mem h
 have:=List.mem_range.mp hi
 have:=List.mem_range.mp hk
 exact⟨i,i+1+k,p,by omega,by omega,by omega,e,rfl⟩
theorem pcsF_in {pf:Nat→Nat→Option Mq.Q2}{m i j:Nat}{p:Mq.Q2}(hi:i < j)(hj:j < m)(e:pf i j=some p):((Kd.pc,(i:Int),(j:Int),p):RD)∈pcsF pf m m:=by
 refine List.mem_flatMap.mpr ⟨i,List.mem_range.mpr (by omega),List.mem_flatMap.mpr ⟨j - (i+1),List.mem_range.mpr (by omega),?_⟩⟩
 rw[show i+1+(j - (i+1))=j by omega]
 unfold oneF
 rw[e]
 exact List.mem_singleton.mpr rfl
def Apart (a b:RD):Prop:=¬(a.2.1=b.2.1∧a.2.2.1=b.2.2.1)
theorem pcsF_apart (pf:Nat→Nat→Option Mq.Q2)(m r:Nat):(pcsF pf m r).Pairwise Apart:=by
 refine List.pairwise_flatMap.mpr ⟨fun i _=>List.pairwise_flatMap.mpr ⟨fun k _=>?_,?_⟩,?_⟩
 ·unfold oneF
  split
  ·exact List.Pairwise.nil
  ·exact List.pairwise_singleton _ _
 ·refine(List.nodup_range (n:=m - (i+1))).imp fun {a b} h x hx y hy z=>h ?_
  obtain⟨_,_,rfl⟩:=oneF_mem hx
  obtain⟨_,_,rfl⟩:=oneF_mem hy
  have z2:((i+1+a:Nat):Int)=((i+1+b:Nat):Int):=z.2
  omega
 ·refine(List.nodup_range (n:=r)).imp fun {a b} h x hx y hy z=>h ?_
  obtain⟨_,_,hx⟩:=List.mem_flatMap.mp hx
  obtain⟨_,_,hy⟩:=List.mem_flatMap.mp hy
  obtain⟨_,_,rfl⟩:=oneF_mem hx
  obtain⟨_,_,rfl⟩:=oneF_mem hy
  have z1:(a:Int)=(b:Int):=z.1
  omega
def ngI (p:Mq.Q2):Mq.Q2:=(0 - p.2,p.1)
structure MJ (m k:Nat) (ds:List RD) (X:List (List Mq.Q2)):Prop where
 l:X.length=m
 w:∀row∈X,row.length=m
 o:∀x y,x < y→y < m→Mq.ix2 X y x=Mq.ix2 X x y∧((∃d∈ds,d.2.1=(x:Int)∧d.2.2.1=(y:Int)∧Mq.ix2 X x y=ngI d.2.2.2)∨((∀d∈ds,¬(d.2.1=(x:Int)∧d.2.2.1=(y:Int)))∧Mq.ix2 X x y=(0,1)))
 g:∀d,d < m→Mq.Low (Mq.ix2 X d d)∧Mq.Bd (1+(k+1)*ds.length) (Mq.ix2 X d d)
 v:∀x y,x < m→y < m→Mq.val (Mq.ix2 X x y)=eqM m ds x y
def four (X:List (List Mq.Q2))(i j:Nat)(p:Mq.Q2):List (List Mq.Q2):=set2 (set2 (set2 (set2 X i j (ngI p)) j i (ngI p)) i i (Mq.plus (Mq.ix2 X i i) (p.2,p.1))) j j (Mq.plus (Mq.ix2 X j j) (p.2,p.1))
theorem val_inv {p:Mq.Q2}(h:Mq.Ps p):Mq.val (p.2,p.1)=1 / Mq.val p∧Mq.val (ngI p)=- (1 / Mq.val p):=by
 have h1:((p.1:Int):Rat)≠0:=by have:=h.ne;exact_mod_cast this
 have h2:((p.2:Int):Rat)≠0:=by have:=h.b;exact_mod_cast (show p.2≠0 by omega)
 unfold ngI Mq.val
 constructor
 ·grind
 ·simp only[Int.zero_sub,Rat.intCast_neg]
  grind
theorem MJ.step {m k:Nat}{ds:List RD}{X:List (List Mq.Q2)}(h:MJ m k ds X){i j:Nat}{p:Mq.Q2}(hi:i < j)(hj:j < m)(pp:Mq.Ps p)(bp:Mq.Bd k p)(ap:∀d∈ds,Apart d (.pc,(i:Int),(j:Int),p)):MJ m k (ds++[(.pc,(i:Int),(j:Int),p)]) (four X i j p):=by
 have l1:=set2_l (i:=i) (j:=j) (q:=ngI p) h.l
 have w1:=set2_w (i:=i) (j:=j) (q:=ngI p) h.l h.w (by omega)
 have l2:=set2_l (i:=j) (j:=i) (q:=ngI p) l1
 have w2:=set2_w (i:=j) (j:=i) (q:=ngI p) l1 w1 (by omega)
 have l3:=set2_l (i:=i) (j:=i) (q:=Mq.plus (Mq.ix2 X i i) (p.2,p.1)) l2
 have w3:=set2_w (i:=i) (j:=i) (q:=Mq.plus (Mq.ix2 X i i) (p.2,p.1)) l2 w2 (by omega)
 have v:∀d e,Mq.ix2 (four X i j p) d e=if d=j∧e=j then Mq.plus (Mq.ix2 X j j) (p.2,p.1) else if d=i∧e=i then Mq.plus (Mq.ix2 X i i) (p.2,p.1) else if d=j∧e=i then ngI p else if d=i∧e=j then ngI p else Mq.ix2 X d e:=fun d e=>by
  unfold four
  rw[ix2_set l3 w3 (by omega) (by omega),ix2_set l2 w2 (by omega) (by omega),ix2_set l1 w1 (by omega) (by omega),ix2_set h.l h.w (by omega) (by omega)]
 have pi:Mq.Ps (p.2,p.1):=Mq.inv_ps pp
 have bi:Mq.Bd k (p.2,p.1):=⟨bp.b,bp.a⟩
 obtain⟨vi,vn⟩:=val_inv pp
 refine⟨set2_l l3,set2_w l3 w3 (by omega),fun x y hx hy=>?_,fun d hd=>?_,fun x y hx hy=>?_⟩
 ·obtain⟨a,b⟩:=h.o x y hx hy
  rw[v,v]
  by_cases c:x=i∧y=j
  ·obtain⟨rfl,rfl⟩:=c
   refine⟨by simp[show ¬x=y by omega,show ¬y=x by omega],.inl ⟨_,List.mem_append_right _ (List.mem_singleton.mpr rfl),rfl,rfl,by simp[show ¬x=y by omega,show ¬y=x by omega]⟩⟩
  ·have e1:(if x=j∧y=j then Mq.plus (Mq.ix2 X j j) (p.2,p.1) else if x=i∧y=i then Mq.plus (Mq.ix2 X i i) (p.2,p.1) else if x=j∧y=i then ngI p else if x=i∧y=j then ngI p else Mq.ix2 X x y)=Mq.ix2 X x y:=by
    rw[if_neg (by omega),if_neg (by omega),if_neg (by omega),if_neg c]
   have e2:(if y=j∧x=j then Mq.plus (Mq.ix2 X j j) (p.2,p.1) else if y=i∧x=i then Mq.plus (Mq.ix2 X i i) (p.2,p.1) else if y=j∧x=i then ngI p else if y=i∧x=j then ngI p else Mq.ix2 X y x)=Mq.ix2 X y x:=by
    rw[if_neg (by omega),if_neg (by omega),if_neg (by omega),if_neg (by omega)]
   rw[e1,e2]
   refine⟨a,?_⟩
   rcases b with ⟨d,hd,b1,b2,b3⟩ | ⟨b1,b2⟩
   ·exact .inl ⟨d,List.mem_append_left _ hd,b1,b2,b3⟩
   ·refine .inr ⟨fun d hd z=>?_,b2⟩
    rcases List.mem_append.mp hd with q | q
    ·exact b1 d q z
    ·rw[List.mem_singleton.mp q] at z
     have z1:(i:Int)=(x:Int):=z.1
     have z2:(j:Int)=(y:Int):=z.2
     omega
 ·obtain⟨a,b⟩:=h.g d hd
  rw[List.length_append,show 1+(k+1)*(ds.length + [((Kd.pc,(i:Int),(j:Int),p):RD)].length)=1+(k+1)*ds.length+(k+1) by simp only[List.length_cons,List.length_nil];rw[Nat.zero_add,Nat.mul_succ];omega]
  have up:∀q,q=Mq.plus (Mq.ix2 X d d) (p.2,p.1)→Mq.Low q∧Mq.Bd (1+(k+1)*ds.length+(k+1)) q:=fun q hq=>by
   rw[hq]
   exact⟨Mq.plus_low a.pos pi.b,(Mq.plus_bd b bi a.pos pi.b).mono (by omega)⟩
  rw[v]
  by_cases c:d=j
  ·subst c
   rw[if_pos ⟨rfl,rfl⟩]
   exact up _ rfl
  ·by_cases c2:d=i
   ·subst c2
    rw[if_neg (fun z=>c z.1),if_pos ⟨rfl,rfl⟩]
    exact up _ rfl
   ·rw[if_neg (fun z=>c z.1),if_neg (fun z=>c2 z.1),if_neg (fun z=>c z.1),if_neg (fun z=>c2 z.1)]
    exact⟨a,b.mono (by omega)⟩
 ·have hv:=h.v x y hx hy
  have z0:eqM m ds i j=0∧eqM m ds j i=0:=by
   obtain⟨a,b⟩:=h.o i j hi hj
   have e:Mq.ix2 X i j=(0,1):=by
    rcases b with ⟨d,hd,b1,b2,_⟩ | ⟨_,b2⟩
    ·exact absurd ⟨b1,b2⟩ (ap d hd)
    ·exact b2
   rw[← h.v i j (by omega) hj,← h.v j i hj (by omega),a,e,Mq.val01]
   exact⟨rfl,rfl⟩
  rw[eqM_snoc,v]
  have ec:cM (.pc,(i:Int),(j:Int),p) (m+hds' ds) x y=dl i j x*dl i j y*(1 / Mq.val p):=rfl
  rw[ec]
  have pl:∀d,d < m→Mq.val (Mq.plus (Mq.ix2 X d d) (p.2,p.1))=eqM m ds d d+1 / Mq.val p:=fun d hd=>by
   rw[Mq.val_plus (h.g d hd).1.pos pi.b,vi,h.v d d hd hd]
  unfold dl
  by_cases c1:x=j
  ·subst c1
   by_cases c2:y=x
   ·subst c2
    rw[if_pos ⟨rfl,rfl⟩,pl y hy,if_neg (by omega),if_pos rfl];grind
   ·by_cases c3:y=i
    ·subst c3
     rw[if_neg (by omega),if_neg (by omega),if_pos ⟨rfl,rfl⟩,vn,z0.2,if_neg (by omega),if_pos rfl,if_pos rfl,if_neg (by omega)];grind
    ·rw[if_neg (by omega),if_neg (by omega),if_neg (by omega),if_neg (by omega),hv,if_neg (show ¬i=x by omega),if_pos rfl,if_neg (show ¬i=y by omega),if_neg (show ¬x=y by omega)];grind
  ·by_cases c2:x=i
   ·subst c2
    by_cases c3:y=x
    ·subst c3
     rw[if_neg (by omega),if_pos ⟨rfl,rfl⟩,pl y hy,if_pos rfl,if_neg (by omega)];grind
    ·by_cases c4:y=j
     ·subst c4
      rw[if_neg (by omega),if_neg (by omega),if_neg (by omega),if_pos ⟨rfl,rfl⟩,vn,z0.1,if_pos rfl,if_neg (by omega),if_neg (by omega),if_pos rfl];grind
     ·rw[if_neg (by omega),if_neg (by omega),if_neg (by omega),if_neg (by omega),hv,if_pos rfl,if_neg (show ¬j=x by omega),if_neg (show ¬x=y by omega),if_neg (show ¬j=y by omega)];grind
   ·rw[if_neg (by omega),if_neg (by omega),if_neg (by omega),if_neg (by omega),hv,if_neg (show ¬i=x by omega),if_neg (show ¬j=x by omega)];grind
theorem MJ.start {m k:Nat}:MJ m k [] (List.replicate m (List.replicate m (0,1))):=by
 have e:∀d e,Mq.ix2 (List.replicate m (List.replicate m (0,1))) d e=(0,1):=fun d e=>zero_get m d e
 refine⟨List.length_replicate,fun row hr=>by rw[List.eq_of_mem_replicate hr,List.length_replicate],fun x y _ _=>⟨by rw[e,e],.inr ⟨(fun d hd=>by cases hd),e x y⟩⟩,fun d _=>?_,fun x y _ _=>by rw[e,Mq.val01];rfl⟩
 rw[e]
 exact⟨⟨by decide,by decide⟩,⟨show (0:Nat) < 2 ^ (1+(k+1)*0) by rw[Nat.mul_zero];decide,show (1:Nat) < 2 ^ (1+(k+1)*0) by rw[Nat.mul_zero];decide⟩⟩
theorem fm_congr {α:Type}{f g:Nat→List α}{n:Nat}(h:∀i,i < n→f i=g i):(List.range n).flatMap f=(List.range n).flatMap g:=by
 induction n with
 |zero=>rfl
 |succ n ih=>rw[fm_succ,fm_succ,ih fun i hi=>h i (by omega),h n (by omega)]
structure PF (pf:Nat→Nat→Option Mq.Q2) (k:Nat):Prop where
 p:∀i j p,pf i j=some p→Mq.Ps p∧Mq.Bd k p
theorem szP_ng {p:Mq.Q2}{k:Nat}(h:Mq.Ps p)(b:Mq.Bd k p):ngI p≠(0,1)∧Mq.Low (ngI p)∧(ngI p).1≤0∧Mq.Bd k (ngI p)∧szP (ngI p)=p:=by
 have hb:=h.b
 have ne:ngI p≠(0,1):=fun z=>by
  have:0 - p.2=0:=congrArg Prod.fst z
  omega
 have lo:Mq.Low (ngI p):=⟨by have:=h.pos;show 1≤p.1;omega,by
  have e:=h.low.one
  unfold Mq.gc at e ⊢
  show ((Int.gcd (0 - p.2) p.1:Nat):Int)=1
  rw[Int.zero_sub,Int.neg_gcd,Int.gcd_comm]
  exact e⟩
 have le:(ngI p).1≤0:=by show 0 - p.2≤0;omega
 have bd:Mq.Bd k (ngI p):=⟨by show Mq.B k (0 - p.2);rw[Int.zero_sub];exact b.b.neg,b.a⟩
 obtain⟨_,_,_,l,_,_,v⟩:=szP_ok lo bd le ne
 refine⟨ne,lo,le,bd,Mq.low_ext l h.low ?_⟩
 rw[v,(val_inv h).2]
 have:Mq.val p≠0:=fun z=>by
  have h1:((p.1:Int):Rat)≠0:=by have:=h.ne;exact_mod_cast this
  have h2:((p.2:Int):Rat)≠0:=by exact_mod_cast (show p.2≠0 by omega)
  unfold Mq.val at z
  grind
 grind
theorem MJ.one {pf:Nat→Nat→Option Mq.Q2}{m k:Nat}{X:List (List Mq.Q2)}(P:PF pf k)(h:MJ m k (pcsF pf m m) X){i j:Nat}(hi:i < j)(hj:j < m):oneP X i j=oneF pf i j∧(Mq.ix2 X i j).1≤0∧Mq.Low (Mq.ix2 X i j)∧Mq.Bd (k+1) (Mq.ix2 X i j)∧Mq.ix2 X j i=Mq.ix2 X i j:=by
 obtain⟨a,b⟩:=h.o i j hi hj
 rcases b with ⟨d,hd,b1,b2,b3⟩ | ⟨b1,b2⟩
 ·obtain⟨i',j',p,_,_,_,e,rfl⟩:=pcsF_mem hd
  have b1:(i':Int)=(i:Int):=b1
  have b2:(j':Int)=(j:Int):=b2
  obtain rfl:i'=i:=by omega
  obtain rfl:j'=j:=by omega
  obtain⟨pp,bp⟩:=P.p _ _ _ e
  obtain⟨ne,lo,le,bd,sz⟩:=szP_ng pp bp
  have b3:Mq.ix2 X i' j'=ngI p:=b3
  refine⟨?_,by rw[b3];exact le,by rw[b3];exact lo,by rw[b3];exact bd.mono (by omega),a⟩
  unfold oneP oneF
  rw[b3,if_neg ne,sz,e]
 ·refine⟨?_,by rw[b2];decide,by rw[b2];exact⟨by decide,by decide⟩,by rw[b2];exact Mq.Bd.mono (n:=1) ⟨show (0:Nat) < 2 ^ 1 by decide,show (1:Nat) < 2 ^ 1 by decide⟩ (by omega),a⟩
  unfold oneP oneF
  rw[if_pos b2]
  cases e:pf i j with
  |none=>rfl
  |some p=>exact absurd ⟨rfl,rfl⟩ (b1 _ (pcsF_in hi hj e))
theorem MJ.net {pf:Nat→Nat→Option Mq.Q2}{m k:Nat}{X:List (List Mq.Q2)}(P:PF pf k)(h:MJ m k (pcsF pf m m) X)(cs:List Mq.Q2):netOf X cs m=pcsF pf m m++pus cs m:=by
 unfold netOf
 congr 1
 refine fm_congr fun i hi=>fm_congr fun c hc=>?_
 exact(h.one P (by omega) (by omega)).1
theorem eqM_pus (m:Nat)(ds:List RD)(cs:List Mq.Q2)(x y:Nat):∀r,eqM m (ds++pus cs r) x y=eqM m ds x y
 |0=>by show eqM m (ds++[]) x y=_;rw[List.append_nil]
 |r+1=>by
  have ih:=eqM_pus m ds cs x y r
  unfold pus at ih ⊢
  rw[fm_succ]
  by_cases c:0 < r∧cs.getD r Mq.z0≠(0,1)
  ·have e:oneU cs r=[(.pu,0,(r:Int),cs.getD r Mq.z0)]:=by unfold oneU;rw[if_pos c]
   rw[e,← List.append_assoc,eqM_snoc,ih]
   show _+(0:Rat)=_
   rw[Rat.add_zero]
  ·have e:oneU cs r=[]:=by unfold oneU;rw[if_neg c]
   rw[e,List.append_nil];exact ih
theorem eqR_pcs (x:Nat):∀(ds:List RD) (h:Nat),(∀d∈ds,d.1=.pc)→eqR h ds x=0
 | [],_,_=>rfl
 |d :: r,h,a=>by
  show cR d h x+eqR (h+hcol d.1) r x=0
  rw[eqR_pcs x r _ fun e he=>a e (List.mem_cons_of_mem _ he)]
  have:cR d h x=0:=by unfold cR;rw[a d (List.mem_cons_self ..)]
  rw[this,Rat.add_zero]
def sN (cs:List Mq.Q2):Nat→Rat
 |0=>0
 |r+1=>sN cs r+if 0 < r then Mq.val (cs.getD r Mq.z0) else 0
theorem eqR_pus (m:Nat)(ds:List RD)(cs:List Mq.Q2)(hp:∀d∈ds,d.1=.pc):∀r,(∀x,0 < x→eqR m (ds++pus cs r) x=if x < r then Mq.val (cs.getD x Mq.z0) else 0)∧eqR m (ds++pus cs r) 0=- sN cs r
 |0=>by
  refine⟨fun x _=>?_,?_⟩
  ·show eqR m (ds++[]) x=_
   rw[List.append_nil,eqR_pcs x ds m hp];rfl
  ·show eqR m (ds++[]) 0=- (0:Rat)
   rw[List.append_nil,eqR_pcs 0 ds m hp];rfl
 |r+1=>by
  obtain⟨a,b⟩:=eqR_pus m ds cs hp r
  have e:∀x,eqR m (ds++pus cs (r+1)) x=eqR m (ds++pus cs r) x+if 0 < r then - dl 0 r x*Mq.val (cs.getD r Mq.z0) else 0:=fun x=>by
   unfold pus
   rw[fm_succ]
   unfold oneU
   by_cases r0:0 < r
   ·by_cases z:cs.getD r Mq.z0=(0,1)
    ·rw[if_neg (fun h=>h.2 z),List.append_nil,z,Mq.val01,if_pos r0];grind
    ·rw[if_pos ⟨r0,z⟩,← List.append_assoc,eqR_snoc,if_pos r0];rfl
   ·rw[if_neg (fun h=>r0 h.1),List.append_nil,if_neg r0,Rat.add_zero]
  refine⟨fun x hx=>?_,?_⟩
  ·rw[e,a x hx]
   unfold dl
   by_cases r0:0 < r
   ·rw[if_pos r0]
    by_cases c:x=r
    ·subst c
     rw[if_neg (by omega),if_neg (by omega),if_pos rfl,if_pos (by omega)];grind
    ·rw[if_neg (show ¬0=x by omega),if_neg (show ¬r=x by omega)]
     by_cases c2:x < r
     ·rw[if_pos c2,if_pos (by omega)];grind
     ·rw[if_neg c2,if_neg (by omega)];grind
   ·rw[if_neg r0,if_neg (by omega),if_neg (by omega)];grind
  ·rw[e,b]
   unfold dl
   show _=- (sN cs r+if 0 < r then Mq.val (cs.getD r Mq.z0) else 0)
   by_cases r0:0 < r
   ·rw[if_pos r0,if_pos r0,if_pos rfl,if_neg (by omega)];grind
   ·rw[if_neg r0,if_neg r0];grind
theorem pus_mem {cs:List Mq.Q2}{r:Nat}{d:RD}(h:d∈pus cs r):∃i:Nat,0 < i∧i < r∧d=(.pu,0,(i:Int),cs.getD i Mq.z0):=by
 obtain⟨i,hi,h⟩:=List.mem_flatMap.mp h
 have:=List.mem_range.mp hi
 unfold oneU at h
 split at h
 ·rename_i c
  exact⟨i,c.1,this,List.mem_singleton.mp h⟩
 ·cases h
theorem pus_len (cs:List Mq.Q2):∀r,(pus cs r).length≤r
 |0=>Nat.zero_le _
 |r+1=>by
  have ih:=pus_len cs r
  have e:pus cs (r+1)=pus cs r++oneU cs r:=fm_succ _ _
  have:(oneU cs r).length≤1:=by unfold oneU;split<;>simp
  rw[e,List.length_append];omega
structure Dr (m k b:Nat) (pf:Nat→Nat→Option Mq.Q2) (X:List (List Mq.Q2)) (cs:List Mq.Q2):Prop where
 m1:1≤m
 m20:m≤20
 k97:k≤96
 P:PF pf k
 J:MJ m k (pcsF pf m m) X
 lc:cs.length=m
 rc:∀p∈cs,Mq.Low p∧Mq.Bd 97 p
 rk:∀i,0 < i→i < m→Mq.Bd k (cs.getD i Mq.z0)
 c0:Mq.val (cs.getD 0 Mq.z0)=- sN cs m
 b1:97≤b
 bX:1+(k+1)*(pcsF pf m m).length≤b
 bits:10+b+b*(m+1)≤8000
theorem Dr.sq {m k b:Nat}{pf:Nat→Nat→Option Mq.Q2}{X:List (List Mq.Q2)}{cs:List Mq.Q2}(h:Dr m k b pf X cs):Sq m b X cs:=by
 have:=h.b1
 have:=h.k97
 refine⟨h.m1,h.m20,h.J.l,fun row hr=>⟨h.J.w row hr,fun p hp=>?_⟩,h.lc,fun p hp=>⟨(h.rc p hp).1,(h.rc p hp).2.mono h.b1⟩,h.bits⟩
 obtain⟨i,hi⟩:=List.getElem?_of_mem hr
 obtain⟨j,hj⟩:=List.getElem?_of_mem hp
 have il:i < m:=by rw[← h.J.l];exact(List.getElem?_eq_some_iff.mp hi).1
 have jl:j < m:=by rw[← h.J.w row hr];exact(List.getElem?_eq_some_iff.mp hj).1
 have e:p=Mq.ix2 X i j:=by
  unfold Mq.ix2
  rw[List.getD_eq_getElem?_getD (l:=X),hi]
  show p=row.getD j Mq.z0
  rw[List.getD_eq_getElem?_getD,hj];rfl
 rw[e]
 rcases Nat.lt_trichotomy i j with c | c | c
 ·obtain⟨_,_,a,d,_⟩:=h.J.one h.P c jl
  exact⟨a,d.mono (by omega)⟩
 ·subst c
  exact⟨(h.J.g i il).1,(h.J.g i il).2.mono h.bX⟩
 ·obtain⟨_,_,a,d,z⟩:=h.J.one h.P c il
  rw[z]
  exact⟨a,d.mono (by omega)⟩
theorem Dr.net {m k b:Nat}{pf:Nat→Nat→Option Mq.Q2}{X:List (List Mq.Q2)}{cs:List Mq.Q2}(h:Dr m k b pf X cs):netOf X cs m=pcsF pf m m++pus cs m:=h.J.net h.P cs
theorem Dr.row {m k b:Nat}{pf:Nat→Nat→Option Mq.Q2}{X:List (List Mq.Q2)}{cs:List Mq.Q2}(h:Dr m k b pf X cs):∀d∈netOf X cs m,RdOk (m:Int) d∧Mq.Bd k d.2.2.2∧d.1≠.ho:=fun d hd=>by
 rw[h.net] at hd
 have:=h.k97
 have:=h.m1
 rcases List.mem_append.mp hd with z | z
 ·obtain⟨i,j,p,_,ij,jm,e,rfl⟩:=pcsF_mem z
  obtain⟨pp,bp⟩:=h.P.p _ _ _ e
  exact⟨⟨by show (0:Int)≤(i:Int);omega,by show (i:Int) < (m:Int);omega,by show (0:Int)≤(j:Int);omega,by show (j:Int) < (m:Int);omega,pp.low,fun _=>pp.pos,bp.mono (by omega)⟩,bp,by show Kd.pc≠Kd.ho;decide⟩
 ·obtain⟨i,i0,im,rfl⟩:=pus_mem z
  have lo:=(h.rc _ (List.mem_of_getElem? (Mq.getQ1 (show i < cs.length by rw[h.lc];exact im)))).1
  have bd:=h.rk i i0 im
  exact⟨⟨by show (0:Int)≤0;omega,by show (0:Int) < (m:Int);omega,by show (0:Int)≤(i:Int);omega,by show (i:Int) < (m:Int);omega,lo,fun z=>absurd (show Kd.pu=Kd.pc from z) (by decide),bd.mono (by omega)⟩,bd,by show Kd.pu≠Kd.ho;decide⟩
theorem Dr.eqM {m k b:Nat}{pf:Nat→Nat→Option Mq.Q2}{X:List (List Mq.Q2)}{cs:List Mq.Q2}(h:Dr m k b pf X cs)(i j:Nat)(hi:i < m)(hj:j < m):L2.eqM m (netOf X cs m) i j=Mq.val (mget X i j):=by
 rw[h.net,eqM_pus,← h.J.v i j hi hj];rfl
theorem Dr.eqR {m k b:Nat}{pf:Nat→Nat→Option Mq.Q2}{X:List (List Mq.Q2)}{cs:List Mq.Q2}(h:Dr m k b pf X cs)(i:Nat)(hi:i < m):L2.eqR m (netOf X cs m) i=Mq.val (cs.getD i (0,1)):=by
 rw[h.net]
 obtain⟨a,b⟩:=eqR_pus m (pcsF pf m m) cs (fun d hd=>by obtain⟨_,_,_,_,_,_,_,rfl⟩:=pcsF_mem hd;rfl) m
 by_cases c:i=0
 ·subst c
  rw[b,← h.c0]
  first | done | rfl
 ·rw[a i (by omega),if_pos hi]
  first | done | rfl
end
end K56
namespace L2
open PySem PySem.Spec PyProof.Rows
section
variable {X:Cx}
theorem op_isnotI:OpR X (compareOp .IsNot) (fun x y H Q=>∃i b,x=.int i∧y=.bl b∧Q (.bl true) H):=by
 intro pins s σ H x y v u Q I rx ry h
 obtain⟨i,b,rfl,rfl,q⟩:=h
 obtain⟨t,rfl⟩:=rx
 cases ry
 unfold compareOp
 exact wpAny_pure ⟨.bl true,H,I,rfl,q⟩
end
end L2
namespace K56
open PySem L2 Shp
section
variable {P:Program} {w:World} {K:PySem.W.Frag} {mg:Str→Option Value} {base:Heap} {f g1 g2 g3 g4 g5 g6 g7 g8:Addr} {fd gd1 gd2 gd3 gd4 gd5 gd6 gd7 gd8:FuncData} {CX:CXT}
variable {CR:Addr} {CK:Kd→Addr} {fW fJ fT fS:Kd→Addr} {fdW fdJ fdT fdS:Kd→FuncData}
def spAnInt:Sp:=fun vs H Q _=>∃i:Int,vs=[.int i]∧Q (.bl true) H
abbrev sAnInt:Stmt:=top 67
theorem scAnInt:FnScope ["_law_found"] ["_law_found"] (defScope sAnInt):=⟨rfl,rfl,rfl,by decide +kernel,rfl,by decide +kernel,by decide +kernel⟩
theorem ok_anint {dV:Value}(F:FunD K "_law_an_int" "_law_an_int" sAnInt dV f fd)(b:Bl mg) :
  FnOk P w K mg base CX 1 f fd ["_law_found"] spAnInt:=by
 refine F.ok scAnInt (fun vs H Q E h=>?_) (fun cdv A outer s H vs Q E hr h=>?_)
 ·obtain⟨i,rfl,q⟩:=h
  rfl
 obtain⟨i,rfl,q⟩:=h
 refine⟨_,(pss_one (ps_ret (pe_and (pe_isiQ (i:=0) rfl (Or.inl rfl) b.isi b.int rfl rfl PyProof.Rows.boot_int) (pe_and (pe_cmpR op_isnotI (pv 0) pe_bl (nomark _)) (pe_one (pe_cmpR op_isnotI (pv 0) pe_bl (nomark _))))))),?_⟩
 exact⟨_,_,true,rfl,.of (.int i),rfl,_,rfl,iteT ⟨_,rfl,i,_,rfl,rfl,_,rfl,iteT ⟨_,rfl,i,_,rfl,rfl,q⟩⟩⟩
theorem free20' {es:List Int}(h:es.length < 20):∃q:Int,0≤q∧q < 20∧q∉es:=by
 have:=out_len es (l:=ints20) (by unfold ints20;decide)
 have l:ints20.length=20:=rfl
 cases e:ints20.filter fun x=>decide (x∉es) with
 |nil=>rw[e] at this;simp only[List.length_nil] at this;omega
 |cons q r=>
  have hq:q∈ints20.filter fun x=>decide (x∉es):=by rw[e];simp
  obtain⟨h1,h2⟩:=List.mem_filter.mp hq
  obtain⟨p,hp,rfl⟩:=List.mem_map.mp h1
  have:=List.mem_range.mp hp
  exact⟨(p:Int),by omega,by omega,by simpa using h2⟩
def spEnds (K:PySem.W.Frag):Sp:=fun vs H Q _=>∃(a:Addr) (ns:List Int) (m:Nat),vs=[.ref a,.int (m:Int)]∧SqL K H a (ns.map V.int)∧ns.length≤63∧m≤10∧∀(l:Addr) (es:List Int) (H':Hp),Same H H'→H l=none→H' l=some (.lst (es.map V.int))→es.length=m→Q (.ref l) H'
abbrev sEnds:Stmt:=top 71
theorem scEnds:FnScope ["_law_script","_law_many","_law_ends_here","_law_k","_law_point"] ["_law_script","_law_many"] (defScope sEnds):=⟨rfl,rfl,rfl,by decide +kernel,rfl,by decide +kernel,by decide +kernel⟩
theorem ok_ends {dV:Value}(F:FunD K "_law_ends" "_law_ends" sEnds dV f fd)(mr:mg "range"=none)(G1:FnOk P w K mg base CX0 1 g1 gd1 ["_law_script","_law_k"] (spNth K))(b1:Binds K gd1 ["_law_script","_law_k"] [])(k1:PySem.W.keepIn K (.ref g1)=true)(m1:mg "_law_nth"=some (.ref g1)) :
  FnOk P w K mg base CX 2 f fd ["_law_script","_law_many"] (spEnds K):=by
 refine F.ok scEnds (fun vs H Q E h=>?_) (fun cdv A outer s H vs Q E hr h=>?_)
 ·obtain⟨a,ns,m,rfl,hS,h63,m10,q⟩:=h
  rfl
 obtain⟨a,ns,m,rfl,hS,h63,m10,q⟩:=h
 refine⟨_,(pss_cons (ps_set (i:=2) scEnds.nd rfl (Or.inl rfl) (pe_lst pa_nil))
  (pss_cons (ps_for PassesOwn.never rfl (pi_range1 rfl mr (pa_cons (pv 1) pa_nil)) (pg_name (i:=3) scEnds.nd rfl (Or.inl rfl))
   (pss_cons (ps_set (i:=4) scEnds.nd rfl (Or.inl rfl) (pe_op op_mod (pe_call G1 hr rfl m1 k1 b1 .nil pass0 (pa_cons (pv 0) (pa_cons (pe_op op_add pe_int (pv 3)) pa_nil))) pe_int))
  (pss_cons (ps_while PassesOwn.never (pt_cmpR op_in_seq (pv 4) (pv 2) rfl) (pss_one (ps_set (i:=4) scEnds.nd rfl (Or.inl rfl) (pe_op op_mod (pe_op op_add (pv 4) pe_int) pe_int))))
  (pss_one (ps_expr (pe_bm PySem.F.plainAttrs_list PySem.F.slot_list_append PySem.F.type_list_append mt_append (pv 2) (pa_cons (pv 4) pa_nil)))))))
  (pss_one (ps_ret (pv 2))))),?_⟩
 refine⟨by show 0≤sizeLine;decide,fun l hl=>?_⟩
 have s0:=same_new hl (.lst [])
 have e0:upd H l (.lst []) l=some (.lst []):=upd_same
 generalize upd H l (.lst [])=H0 at s0 e0 ⊢
 refine⟨_,rfl,(m:Int),rfl,by omega,by omega,?_⟩
 rw[Int.toNat_natCast]
 refine for_range (lo:=0) (n:=m) (fun i σ H'=>Same H H'∧∃(es:List Int) (z4 z5:Option V),σ=[some (.ref a),some (.int (m:Int)),some (.ref l),z4,z5]∧H' l=some (.lst (es.map V.int))∧es.length=i) ⟨s0,[],none,none,rfl,e0,rfl⟩ ?_ ?_
 ·rintro i σ H1 hi ⟨s1,es,z4,z5,rfl,e1,le1⟩
  rw[Int.zero_add]
  refine⟨_,rfl,_,rfl,_,_,rfl,rfl,a,ns,_,2+i,rfl,by omega,s1.seq hS,h63,by omega,fun v H2 s2=>⟨_,_,rfl,rfl,(show (0:Int) < 20 by decide),?_⟩⟩
  have c1:=em_lo v (show (0:Int) < 20 by decide)
  have c2:=em_hi v (show (0:Int) < 20 by decide)
  obtain⟨p0,hp0⟩:∃p0,v % 20=p0:=⟨_,rfl⟩
  have e2:=s2 _ _ e1
  obtain⟨q0,q1,q2,q3⟩:=free20' (es:=es) (by omega)
  show tSeq _ _ _ [some (.ref a),some (.int (m:Int)),some (.ref l),some (.int (i:Int)),some (.int (v % 20))] H2
  rw[hp0]
  rw[hp0] at c1 c2
  refine while_by (fun σ H'=>H'=H2∧∃p:Int,σ=[some (.ref a),some (.int (m:Int)),some (.ref l),some (.int (i:Int)),some (.int p)]∧0≤p∧p < 20) (fun (σ:St) _=>match σ[4]? with | some (some (V.int p))=>((q0 - p) % 20).toNat | _=>0) ⟨rfl,p0,rfl,c1,c2⟩ ?_ ?_
  ·rintro σ H' ⟨rfl,p,rfl,d1,d2⟩
   refine⟨_,rfl,_,rfl,l,_,rfl,.inl (SqL.of e2),rfl,flat_ints _,?_⟩
   rw[inV_ints]
   refine⟨_,rfl,ite2 (fun c=>?_) (fun c=>?_)⟩
   ·have hp:p≠q0:=fun z=>q3 (by rw[← z];simpa using c)
    refine⟨_,rfl,_,_,rfl,rfl,_,_,rfl,rfl,(show (0:Int) < 20 by decide),⟨rfl,_,rfl,em_lo _ (by decide),em_hi _ (by decide)⟩,?_⟩
    show ((q0 - (p+1) % 20) % 20).toNat < ((q0 - p) % 20).toNat
    omega
   ·refine⟨_,rfl,.inl ⟨rfl,_,SqL.of e2⟩,_,rfl,l,_,_,rfl,rfl,e2,small1000 (by rw[List.length_map];omega),?_⟩
    refine⟨(s1.trans s2).change hl,es++[p],_,_,rfl,?_,by rw[List.length_append,le1];rfl⟩
    rw[List.map_append];exact upd_same
  ·rintro σ H Q Q' mm ⟨v,h1,v2,h2,p,xs,h3,h4,h5,h6,k,h7,h8⟩
   exact⟨v,h1,v2,h2,p,xs,h3,h4,h5,h6,k,h7,mm _ _ h8⟩
 rintro σ H1 ⟨s1,es,z4,z5,rfl,e1,le1⟩
 exact⟨_,rfl,q l es H1 s1 hl e1 le1⟩
def upf (pf:Nat→Nat→Option Mq.Q2)(i j:Nat)(o:Option Mq.Q2):Nat→Nat→Option Mq.Q2:=fun x y=>if x=i∧y=j then o else pf x y
theorem upf_rows (pf:Nat→Nat→Option Mq.Q2)(m i c:Nat)(o:Option Mq.Q2):pcsF (upf pf i (i+1+c) o) m i++lineF (upf pf i (i+1+c) o) i (c+1)=pcsF pf m i++lineF pf i c++(match o with | none=>[] | some p=>[(Kd.pc,(i:Int),((i+1+c:Nat):Int),p)]):=by
 have e1:pcsF (upf pf i (i+1+c) o) m i=pcsF pf m i:=fm_congr fun x hx=>fm_congr fun y _=>by
  unfold oneF upf;rw[if_neg (by omega)]
 have e2:lineF (upf pf i (i+1+c) o) i c=lineF pf i c:=fm_congr fun y hy=>by
  unfold oneF upf;rw[if_neg (by omega)]
 have e3:lineF (upf pf i (i+1+c) o) i (c+1)=lineF (upf pf i (i+1+c) o) i c++oneF (upf pf i (i+1+c) o) i (i+1+c):=fm_succ _ _
 rw[e3,e1,e2,List.append_assoc]
 congr 2
 unfold oneF upf
 rw[if_pos ⟨rfl,rfl⟩]
 first | done | (cases o<;>rfl)
theorem PF.up {pf:Nat→Nat→Option Mq.Q2}{k i j:Nat}{o:Option Mq.Q2}(h:PF pf k)(ho:∀p,o=some p→Mq.Ps p∧Mq.Bd k p):PF (upf pf i j o) k:=⟨fun x y p e=>by
 unfold upf at e
 split at e
 ·exact ho p e
 ·exact h.p x y p e⟩
theorem lineF_len (pf:Nat→Nat→Option Mq.Q2)(r:Nat):∀c,(lineF pf r c).length≤c
 |0=>Nat.zero_le _
 |c+1=>by
  have ih:=lineF_len pf r c
  have e:lineF pf r (c+1)=lineF pf r c++oneF pf r (r+1+c):=fm_succ _ _
  have:(oneF pf r (r+1+c)).length≤1:=by unfold oneF;split<;>simp
  rw[e,List.length_append];omega
theorem pcsF_len (pf:Nat→Nat→Option Mq.Q2)(m:Nat):∀r,(pcsF pf m r).length≤m*r
 |0=>Nat.zero_le _
 |r+1=>by
  have ih:=pcsF_len pf m r
  have e:pcsF pf m (r+1)=pcsF pf m r++lineF pf r (m - (r+1)):=fm_succ _ _
  have:=lineF_len pf r (m - (r+1))
  rw[e,List.length_append,Nat.mul_succ];omega
def bs (m:Nat):Nat→Nat
 |0=>0
 |i+1=>bs m i+(m - (i+1))
theorem bs_le (m:Nat){i j:Nat}(h:i≤j):bs m i≤bs m j:=by
 induction j with
 |zero=>rw[Nat.le_zero.mp h];exact Nat.le_refl _
 |succ j ih=>
  by_cases e:i≤j
  ·have:=ih e;show _≤bs m j+_;omega
  ·rw[show i=j+1 by omega];exact Nat.le_refl _
theorem bs_45 {m:Nat}(h:m≤10):bs m m≤45:=by
 have:∀m:Fin 11,bs m.1 m.1≤45:=by decide
 exact this ⟨m,by omega⟩
theorem pcsF_bs (pf:Nat→Nat→Option Mq.Q2)(m:Nat):∀r,(pcsF pf m r).length≤bs m r
 |0=>Nat.zero_le _
 |r+1=>by
  have ih:=pcsF_bs pf m r
  have e:pcsF pf m (r+1)=pcsF pf m r++lineF pf r (m - (r+1)):=fm_succ _ _
  have:=lineF_len pf r (m - (r+1))
  rw[e,List.length_append]
  show _≤bs m r+(m - (r+1))
  omega
theorem bs_at {m i t:Nat}(h:m≤10)(hi:i < m)(ht:t < m - (i+1)):bs m i+t≤44:=by
 have a:=bs_le m (show i+1≤m from hi)
 have b:=bs_45 h
 have:bs m (i+1)=bs m i+(m - (i+1)):=rfl
 omega
theorem and_any {A B:TT}{σ:St}{H:Hp}{Q:Bool→Hp→Prop}(a:∀Q':Bool→Hp→Prop,(∀b,Q' b H)→A σ H Q')(b:∀Q':Bool→Hp→Prop,(∀b,Q' b H)→B σ H Q')(q:∀b,Q b H):tAnd A B σ H Q:=
 a _ fun c=>by
  cases c
  ·exact L2.ifF rfl (q false)
  ·exact L2.ifT rfl (b _ q)
theorem or_any {A B:TT}{σ:St}{H:Hp}{Q:Bool→Hp→Prop}(a:∀Q':Bool→Hp→Prop,(∀b,Q' b H)→A σ H Q')(b:∀Q':Bool→Hp→Prop,(∀b,Q' b H)→B σ H Q')(q:∀b,Q b H):tOr A B σ H Q:=
 a _ fun c=>by
  cases c
  ·exact L2.ifF rfl (b _ q)
  ·exact L2.ifT rfl (q true)
def spPieces (K:PySem.W.Frag):Sp:=fun vs H Q _=>∃(a:Addr) (ns:List Int) (m:Nat) (fr:Bool),vs=[.ref a,.int (m:Int),.bl fr]∧SqL K H a (ns.map V.int)∧ns.length≤63∧m≤10∧∀l ts pf H',Same H H'→H l=none→H' l=some (.lst ts)→Rts K H' ts (pcsF pf m m)→PF pf (bits fr)→Q (.ref l) H'
abbrev sPieces:Stmt:=top 72
theorem scPieces:FnScope ["_law_script","_law_many","_law_far","_law_share","_law_found","_law_at","_law_i","_law_j","_law_cell"] ["_law_script","_law_many","_law_far"] (defScope sPieces):=⟨rfl,rfl,rfl,by decide +kernel,rfl,by decide +kernel,by decide +kernel⟩
theorem ok_pieces {dV:Value}(F:FunD K "_law_pieces" "_law_pieces" sPieces dV f fd)(mr:mg "range"=none)(G1:FnOk P w K mg base CX0 1 g1 gd1 ["_law_script","_law_k"] (spNth K))(b1:Binds K gd1 ["_law_script","_law_k"] [])(k1:PySem.W.keepIn K (.ref g1)=true)(m1:mg "_law_nth"=some (.ref g1))(G2:FnOk P w K mg base CX0 3 g2 gd2 ["_law_cell","_law_far"] spSize)(b2:Binds K gd2 ["_law_cell","_law_far"] [])(k2:PySem.W.keepIn K (.ref g2)=true)(m2:mg "_law_size"=some (.ref g2)) :
  FnOk P w K mg base CX 4 f fd ["_law_script","_law_many","_law_far"] (spPieces K):=by
 refine F.ok scPieces (fun vs H Q E h=>?_) (fun cdv A outer s H vs Q E hr h=>?_)
 ·obtain⟨a,ns,m,fr,rfl,hS,h63,m10,q⟩:=h
  rfl
 obtain⟨a,ns,m,fr,rfl,hS,h63,m10,q⟩:=h
 have r1:=hr.mono (show 1≤3 by omega)
 refine⟨_,(pss_cons (ps_set (i:=3) scPieces.nd rfl (Or.inl rfl) (pe_ix ix_list (pe_lst (pa_cons pe_int (pa_cons pe_int pa_nil))) (pe_op op_mod (pe_call G1 r1 rfl m1 k1 b1 .nil pass0 (pa_cons (pv 0) (pa_cons pe_int pa_nil))) pe_int) (fun _ _=>rfl)))
  (pss_cons (ps_set (i:=4) scPieces.nd rfl (Or.inl rfl) (pe_lst pa_nil))
  (pss_cons (ps_set (i:=5) scPieces.nd rfl (Or.inl rfl) pe_int)
  (pss_cons (ps_for PassesOwn.never rfl (pi_range1 rfl mr (pa_cons (pv 1) pa_nil)) (pg_name (i:=6) scPieces.nd rfl (Or.inl rfl))
   (pss_one (ps_for PassesOwn.never rfl (pi_range2 rfl mr (pa_cons (pe_op op_add (pv 6) pe_int) (pa_cons (pv 1) pa_nil))) (pg_name (i:=7) scPieces.nd rfl (Or.inl rfl))
   (pss_cons (ps_set (i:=8) scPieces.nd rfl (Or.inl rfl) (pe_call G1 r1 rfl m1 k1 b1 .nil pass0 (pa_cons (pv 0) (pa_cons (pv 5) pa_nil))))
  (pss_cons (ps_set (i:=5) scPieces.nd rfl (Or.inl rfl) (pe_op op_add (pv 5) pe_int))
  (pss_one (ps_if (PW.pt (pw_or (PW.pt (pw_and (pt_cmpR op_eq (pv 3) pe_int (nomark _)) (pw_and1 (pt_cmpR op_ne (pe_op op_mod (pv 8) pe_int) pe_int (nomark _))))) (pw_or1 (PW.pt (pw_and (pt_cmpR op_eq (pv 3) pe_int (nomark _)) (pw_and1 (pt_cmpR op_eq (pe_op op_mod (pv 8) pe_int) pe_int (nomark _)))))))) (pss_one (ps_expr (pe_bm PySem.F.plainAttrs_list PySem.F.slot_list_append PySem.F.type_list_append mt_append (pv 4) (pa_cons (pe_tup (pa_cons pe_str (pa_cons (pv 6) (pa_cons (pv 7) (pa_cons (pe_call G2 hr rfl m2 k2 b2 .nil pass0 (pa_cons (pv 8) (pa_cons (pv 2) pa_nil))) pa_nil))))) pa_nil)))) pss_nil)))))))
  (pss_one (ps_ret (pv 4))))))),?_⟩
 refine⟨by show 2≤sizeLine;decide,fun L hL=>?_⟩
 have s0:=same_new hL (.lst [.int 5,.int 4])
 have e0:upd H L (.lst [.int 5,.int 4]) L=some (.lst [.int 5,.int 4]):=upd_same
 generalize upd H L (.lst [.int 5,.int 4])=H0 at s0 e0 ⊢
 refine⟨_,rfl,a,ns,_,1,rfl,rfl,s0.seq hS,h63,by omega,fun v H1 s1=>?_⟩
 obtain⟨sh,hsh⟩:∃sh:Int,atI ([V.int 5,V.int 4]:List V) (v % 2)=some (V.int sh):=by
  have:v % 2=0∨v % 2=1:=by omega
  rcases this with z | z
  ·rw[z];exact⟨5,rfl⟩
  ·rw[z];exact⟨4,rfl⟩
 refine⟨_,_,rfl,rfl,(show (0:Int) < 2 by decide),L,_,_,_,rfl,rfl,SqL.of (s1 _ _ e0),hsh,?_⟩
 have s01:=s0.trans s1
 clear hsh e0
 refine⟨by show 0≤sizeLine;decide,fun l hl=>?_⟩
 have hlH:H l=none:=s01.free hl
 have s2:=same_new hl (.lst [])
 have e2:upd H1 l (.lst []) l=some (.lst []):=upd_same
 generalize upd H1 l (.lst [])=H2 at s2 e2 ⊢
 have s02:=s01.trans s2
 refine⟨_,rfl,(m:Int),rfl,by omega,by omega,?_⟩
 rw[Int.toNat_natCast]
 refine for_range (lo:=0) (n:=m) (fun i σ H'=>Same H H'∧∃(pf:Nat→Nat→Option Mq.Q2) (ts:List V) (ci:Int) (z6 z7 z8:Option V),σ=[some (.ref a),some (.int (m:Int)),some (.bl fr),some (.int sh),some (.ref l),some (.int ci),z6,z7,z8]∧ci=((12+bs m i:Nat):Int)∧H' l=some (.lst ts)∧Rts K H' ts (pcsF pf m i)∧PF pf (bits fr)) ⟨s02,fun _ _=>none,[],12,none,none,none,rfl,rfl,e2,.nil,⟨fun _ _ _ e=>by cases e⟩⟩ ?_ ?_
 ·rintro i σ H3 hi ⟨s3,pf,ts,ci,z6,z7,z8,rfl,hc,e3,rt3,P3⟩
  rw[Int.zero_add]
  refine⟨_,rfl,_,_,rfl,rfl,_,rfl,(i:Int)+1,(m:Int),rfl,⟨by omega,by omega,by omega,by omega⟩,?_⟩
  rw[show ((m:Int) - ((i:Int)+1)).toNat=m - (i+1) by omega]
  refine for_range (lo:=(i:Int)+1) (n:=m - (i+1)) (fun t σ H'=>Same H H'∧∃(pf:Nat→Nat→Option Mq.Q2) (ts:List V) (ci:Int) (z7 z8:Option V),σ=[some (.ref a),some (.int (m:Int)),some (.bl fr),some (.int sh),some (.ref l),some (.int ci),some (.int (i:Int)),z7,z8]∧ci=((12+bs m i+t:Nat):Int)∧H' l=some (.lst ts)∧Rts K H' ts (pcsF pf m i++lineF pf i t)∧PF pf (bits fr)) ⟨s3,pf,ts,ci,z7,z8,rfl,hc,e3,by show Rts K H3 ts (pcsF pf m i++[]);rw[List.append_nil];exact rt3,P3⟩ ?_ ?_
  ·clear P3 rt3 e3 hc s3 H3 pf ts ci
   rintro t σ H3 ht ⟨s3,pf,ts,ci,y7,y8,rfl,hc,e3,rt3,P3⟩
   rw[show (i:Int)+1+(t:Int)=((i+1+t:Nat):Int) by omega]
   have c63:=bs_at m10 hi ht
   refine⟨_,rfl,_,rfl,a,ns,_,12+bs m i+t,rfl,hc,s3.seq hS,h63,by omega,fun cell H4 s4=>?_⟩
   refine⟨_,rfl,_,_,rfl,rfl,?_⟩
   have lts:=rt3.length
   have l100:(pcsF pf m i++lineF pf i t).length≤900:=by
    have a:=pcsF_len pf m i
    have b:=lineF_len pf i t
    have:m*i≤10*10:=Nat.mul_le_mul m10 (by omega)
    rw[List.length_append];omega
   have s34:=s3.trans s4
   have e4:=s4 _ _ e3
   dsimp only[gName,List.set]
   show tIfS _ _ _ _ [some (.ref a),some (.int (m:Int)),some (.bl fr),some (.int sh),some (.ref l),some (.int (ci+1)),some (.int (i:Int)),some (.int ((i+1+t:Nat):Int)),some (.int cell)] H4
   refine or_any (fun Q' h=>and_any (fun Q' h=>⟨_,rfl,rfl,_,rfl,h _⟩) (fun Q' h=>⟨_,rfl,_,_,rfl,rfl,(show (0:Int) < 5 by decide),rfl,_,rfl,h _⟩) h) (fun Q' h=>and_any (fun Q' h=>⟨_,rfl,rfl,_,rfl,h _⟩) (fun Q' h=>⟨_,rfl,_,_,rfl,rfl,(show (0:Int) < 4 by decide),rfl,_,rfl,h _⟩) h) fun b=>?_
   cases b
   ·refine L2.ifF rfl ⟨s34,upf pf i (i+1+t) none,ts,ci+1,_,_,rfl,by omega,e4,?_,P3.up fun p e=>by cases e⟩
    rw[upf_rows]
    show Rts K H4 ts (_++[])
    rw[List.append_nil];exact rt3.same s4
   refine L2.ifT rfl ?_
   refine⟨_,rfl,.inl ⟨rfl,_,SqL.of e4⟩,_,rfl,_,rfl,_,rfl,_,rfl,cell,fr,rfl,fun p pp bp u H5 s5 e5=>?_⟩
   refine⟨by show 4≤sizeLine;decide,fun T1 hT=>?_⟩
   have s6:=same_new hT (.tup [.str "piece",.int (i:Int),.int ((i+1+t:Nat):Int),.ref u])
   have e6:upd H5 T1 (.tup [.str "piece",.int (i:Int),.int ((i+1+t:Nat):Int),.ref u]) T1=some (.tup [.str "piece",.int (i:Int),.int ((i+1+t:Nat):Int),.ref u]):=upd_same
   generalize upd H5 T1 (.tup [.str "piece",.int (i:Int),.int ((i+1+t:Nat):Int),.ref u])=H6 at s6 e6 ⊢
   have s46:=s5.trans s6
   have e46:=s46 _ _ e4
   refine⟨l,_,_,rfl,rfl,e46,small1000 (by omega),?_⟩
   refine⟨(s34.trans s46).change hlH,upf pf i (i+1+t) (some p),ts++[.ref T1],ci+1,_,_,rfl,by omega,upd_same,?_,P3.up fun p' e=>by injection e with e;rw[← e];exact⟨pp,bp⟩⟩
   rw[upf_rows]
   exact(Rts.app (rt3.same (s4.trans s46)) (.cons (k:=.pc) (SqT.of e6) (s6.fq (Fq.of e5)) .nil)).upd e46
  ·rintro σ H4 ⟨s4,pf,ts,ci,y7,y8,rfl,hc,e4,rt4,P4⟩
   have e:pcsF pf m (i+1)=pcsF pf m i++lineF pf i (m - (i+1)):=fm_succ _ _
   exact⟨s4,pf,ts,ci,_,_,_,rfl,by rw[hc];show _=((12+(bs m i+(m - (i+1))):Nat):Int);omega,e4,by rw[e];exact rt4,P4⟩
 rintro σ H3 ⟨s3,pf,ts,ci,z6,z7,z8,rfl,hc,e3,rt3,P3⟩
 exact⟨_,rfl,q l ts pf H3 s3 hlH e3 rt3 P3⟩
theorem mx_cell {K:PySem.W.Frag}{H:Hp}{D:Addr}{as:List Addr}{M:List (List Mq.Q2)}{n:Nat}(m:Mx K H D as M)(hl:M.length=n)(hw:∀row∈M,row.length=n){i j:Nat}(hi:i < n)(hj:j < n):∃a xs v,as[i]?=some a∧atI (as.map V.ref) (i:Int)=some (.ref a)∧M[i]?=some (M.getD i [])∧H a=some (.lst xs)∧Fqs K H xs (M.getD i [])∧xs.length=n∧atI xs (j:Int)=some (.ref v)∧Fq K H v (Mq.ix2 M i j):=by
 obtain⟨a,xs,e1,e2,e3,e4⟩:=m.at (i:=i) (by omega)
 have g:=Mq.getL (X:=M) (i:=i) (by omega)
 have lr:=hw _ (List.mem_of_getElem? g)
 obtain⟨v,ev,fv⟩:=e4.at (Mq.getQ1 (show j < (M.getD i []).length by omega))
 exact⟨a,xs,v,e1,atI_nat e2,g,e3,e4,by have:=e4.length;omega,atI_nat ev,fv⟩
def spMatrix (K:PySem.W.Frag):Sp:=fun vs H Q _=>∃(l:Addr) (ts:List V) (pf:Nat→Nat→Option Mq.Q2) (m k:Nat),vs=[.int (m:Int),.ref l]∧SqL K H l ts∧Rts K H ts (pcsF pf m m)∧PF pf k∧k≤30∧m≤10∧∀(D:Addr) (as:List Addr) (X:List (List Mq.Q2)) (H':Hp),Same H H'→H D=none→(∀b∈as,H b=none)→Mx K H' D as X→MJ m k (pcsF pf m m) X→Q (.ref D) H'
theorem nd_k_many:(["_law_k","_law_many"]:List Str).Nodup:=by decide +kernel
abbrev sMatrix:Stmt:=top 73
theorem scMatrix:FnScope ["_law_many","_law_pieces_here","_law_matrix_here","_law_word","_law_i","_law_j","_law_size_here"] ["_law_many","_law_pieces_here"] (defScope sMatrix):=⟨rfl,rfl,rfl,by decide +kernel,rfl,by decide +kernel,by decide +kernel⟩
theorem ok_matrix {dV:Value}(F:FunD K "_law_matrix" "_law_matrix" sMatrix dV f fd)(mr:mg "range"=none)(G1:FnOk P w K mg base CX0 3 g1 gd1 ["_law_one","_law_other"] (spTwo K Mq.plus))(b1:Binds K gd1 ["_law_one","_law_other"] [])(k1:PySem.W.keepIn K (.ref g1)=true)(m1:mg "_law_plus"=some (.ref g1)) :
  FnOk P w K mg base CX 4 f fd ["_law_many","_law_pieces_here"] (spMatrix K):=by
 refine F.ok scMatrix (fun vs H Q E h=>?_) (fun cdv A outer s H vs Q E hr h=>?_)
 ·obtain⟨l,ts,pf,m,k,rfl,hS,rt0,P,k30,m10,q⟩:=h
  rfl
 obtain⟨l,ts,pf,m,k,rfl,hS,rt0,P,k30,m10,q⟩:=h
 refine⟨_,(pss_cons (ps_setC (i:=2) (nl:=1) (fr:=[0]) (Nc:=["_law_k","_law_many"]) (cl:=[("_law_many",s.heap.objs.size+1)]) scMatrix.nd rfl rfl rfl ⟨rfl,rfl,by decide +kernel,by decide +kernel,fun x c h=>h,has_of rfl,rfl,fun i n h=>match i,h with | 0,h=>by cases h;exact⟨0,rfl,rfl,rfl,rfl,.inl rfl⟩ | k+1,h=>by rw[show 1+(k+1)=k+2 by omega] at h;cases h⟩
    (pi_range1 rfl mr (pa_cons (pv 0) pa_nil)) (fun C s3 H3 fp pins=>(pg_name (i:=0) nd_k_many rfl (Or.inl rfl))) (fun C s3 H3 fp pins=>pif_nil)
    (fun C s3 H3 fp pins=>(pe_op op_rep (pe_lst (pa_cons (pe_tup (pa_cons pe_int (pa_cons pe_int pa_nil))) pa_nil)) (pv 1))) rfl)
  (pss_cons (ps_for PassesOwn.never rfl (pi_list (pv 1)) (pg_tup rfl (pgs_cons (pg_name (i:=3) scMatrix.nd rfl (Or.inl rfl)) (pgs_cons (pg_name (i:=4) scMatrix.nd rfl (Or.inl rfl)) (pgs_cons (pg_name (i:=5) scMatrix.nd rfl (Or.inl rfl)) (pgs_cons (pg_name (i:=6) scMatrix.nd rfl (Or.inl rfl)) pgs_nil)))))
   (pss_cons (ps_asg (pe_tup (pa_cons (pe_op op_sub pe_int (pe_ix ix_tup (pv 6) pe_int (fun _ _=>rfl))) (pa_cons (pe_ix ix_tup (pv 6) pe_int (fun _ _=>rfl)) pa_nil))) (pg_sub (pe_ix ix_list (pv 2) (pv 4) (fun _ _=>rfl)) (pv 5) set_list))
  (pss_cons (ps_asg (pe_tup (pa_cons (pe_op op_sub pe_int (pe_ix ix_tup (pv 6) pe_int (fun _ _=>rfl))) (pa_cons (pe_ix ix_tup (pv 6) pe_int (fun _ _=>rfl)) pa_nil))) (pg_sub (pe_ix ix_list (pv 2) (pv 5) (fun _ _=>rfl)) (pv 4) set_list))
  (pss_cons (ps_asg (pe_call G1 hr rfl m1 k1 b1 .nil pass0 (pa_cons (pe_ix ix_list (pe_ix ix_list (pv 2) (pv 4) (fun _ _=>rfl)) (pv 4) (fun _ _=>rfl)) (pa_cons (pe_tup (pa_cons (pe_ix ix_tup (pv 6) pe_int (fun _ _=>rfl)) (pa_cons (pe_ix ix_tup (pv 6) pe_int (fun _ _=>rfl)) pa_nil))) pa_nil))) (pg_sub (pe_ix ix_list (pv 2) (pv 4) (fun _ _=>rfl)) (pv 4) set_list))
  (pss_one (ps_asg (pe_call G1 hr rfl m1 k1 b1 .nil pass0 (pa_cons (pe_ix ix_list (pe_ix ix_list (pv 2) (pv 5) (fun _ _=>rfl)) (pv 5) (fun _ _=>rfl)) (pa_cons (pe_tup (pa_cons (pe_ix ix_tup (pv 6) pe_int (fun _ _=>rfl)) (pa_cons (pe_ix ix_tup (pv 6) pe_int (fun _ _=>rfl)) pa_nil))) pa_nil))) (pg_sub (pe_ix ix_list (pv 2) (pv 5) (fun _ _=>rfl)) (pv 5) set_list)))))))
  (pss_one (ps_ret (pv 2))))),?_⟩
 obtain⟨H1,hH1⟩:∃H1:Hp,H1=H:=⟨_,rfl⟩
 have s1:Same H H1:=by rw[hH1];exact Same.refl _
 rw[← hH1]
 refine⟨_,rfl,(m:Int),rfl,by omega,by omega,fun D hD=>?_⟩
 rw[Int.toNat_natCast]
 have sD:=same_new hD (.lst [])
 refine comp_range (n:=m) (fun i zs H'=>Same H1 H'∧H' D=some (.lst zs)∧∃as:List Addr,zs=as.map V.ref∧as.length=i∧as.Nodup∧D∉as∧(∀b∈as,H1 b=none)∧∀b∈as,∃t,H' b=some (.lst (List.replicate m (.ref t)))∧Fq K H' t (0,1)) ⟨sD,upd_same,[],rfl,rfl,List.nodup_nil,(by simp),(fun b hb=>by cases hb),(fun b hb=>by cases hb)⟩ (fun i zs H' h=>h.2.1) ?_ ?_
 ·rintro i zs H3 hi ⟨s3,e3,as,rfl,la,nd,nD,fr',al⟩ C hC
  refine⟨keep1.1,keep1.2,iteT ?_⟩
  refine⟨by show 2≤sizeLine;decide,fun t ht=>?_⟩
  have s3a:=same_new ht (.tup [.int 0,.int 1])
  have e3a:upd H3 t (.tup [.int 0,.int 1]) t=some (.tup [.int 0,.int 1]):=upd_same
  generalize upd H3 t (.tup [.int 0,.int 1])=H3a at s3a e3a ⊢
  refine⟨by show 1≤sizeLine;decide,fun l1 hl1=>?_⟩
  have s4:=same_new hl1 (.lst [.ref t])
  have e4:upd H3a l1 (.lst [.ref t]) l1=some (.lst [.ref t]):=upd_same
  generalize upd H3a l1 (.lst [.ref t])=H4 at s4 e4 ⊢
  refine⟨_,rfl,l1,(m:Int),[.ref t],rfl,rfl,e4,by omega,by omega,?_,fun b hb=>?_⟩
  ·rw[Int.toNat_natCast,sizeLine_eq];simp only[List.length_cons,List.length_nil];omega
  rw[Int.toNat_natCast,flat_one]
  have s5:=same_new hb (.lst (List.replicate m (.ref t)))
  have e5:upd H4 b (.lst (List.replicate m (.ref t))) b=some (.lst (List.replicate m (.ref t))):=upd_same
  generalize upd H4 b (.lst (List.replicate m (.ref t)))=H5 at s5 e5 ⊢
  have s34:=s3a.trans s4
  have s35:=s34.trans s5
  have e35:=s35 _ _ e3
  have nbD:b≠D:=Ne.symm (ne_of_none (s34 _ _ e3) hb)
  have nba:b∉as:=fun z=>by obtain⟨_,y,_⟩:=al b z;rw[s34 _ _ y] at hb;cases hb
  refine⟨e35,small1000 (by rw[List.length_map];omega),hC _ _ ⟨(s3.trans s35).change hD,upd_same,as++[b],by rw[List.map_append];rfl,by rw[List.length_append,la];rfl,?_,?_,fun c hc=>?_,fun c hc=>?_⟩⟩
  ·rw[List.nodup_append]
   refine⟨nd,by simp,fun x hx y hy z=>?_⟩
   have:y=b:=by simpa using hy
   exact nba (by rw[← this,← z];exact hx)
  ·intro z
   rcases List.mem_append.mp z with z | z
   ·exact nD z
   ·have:D=b:=by simpa using z
    exact nbD this.symm
  ·rcases List.mem_append.mp hc with z | z
   ·exact fr' c z
   ·have:c=b:=by simpa using z
    rw[this]
    exact(s3.trans s34).free hb
  ·rcases List.mem_append.mp hc with z | z
   ·obtain⟨t',y,fy⟩:=al c z
    exact⟨t',by rw[upd_ne (fun y=>nD (by rw[← y];exact z))];exact s35 _ _ y,(s35.fq fy).upd e35⟩
   ·have:c=b:=by simpa using z
    rw[this]
    exact⟨t,by rw[upd_ne nbD];exact e5,Fq.upd ((s4.trans s5).fq (Fq.of e3a)) e35⟩
 rintro zs3 H3 ⟨s3,e3,as,rfl,la,nd,nD,fr',al⟩
 have mx3:Mx K H3 D as (List.replicate m (List.replicate m (0,1))):=⟨e3,nd,nD,by rw[la,List.length_replicate],fun i b ps h1 h2=>by
  obtain⟨t,y,fy⟩:=al b (List.mem_of_getElem? h1)
  rw[List.eq_of_mem_replicate (List.mem_of_getElem? h2)]
  exact⟨_,y,fqs_repl fy m⟩⟩
 have len45:(pcsF pf m m).length≤45:=Nat.le_trans (pcsF_bs pf m m) (bs_45 m10)
 have lts:=rt0.length
 have ap:=pcsF_apart pf m m
 refine⟨_,rfl,l,rfl,⟨_,(s1.trans s3).seq hS⟩,?_⟩
 refine for_list (xs:=ts) (fun n σ H'=>Same H1 H'∧∃(X:List (List Mq.Q2)) (z3 z4 z5 z6:Option V),σ=[some (.int (m:Int)),some (.ref l),some (.ref D),z3,z4,z5,z6]∧Mx K H' D as X∧MJ m k ((pcsF pf m m).take n) X) ⟨s3,_,none,none,none,none,rfl,mx3,MJ.start⟩ (fun n σ H' _ h=>(s1.trans h.1).seq hS) ?_ ?_
 ·rintro n x σ H4 hx ⟨s4,X,z3,z4,z5,z6,rfl,mx4,mi4⟩
  have hn:n < (pcsF pf m m).length:=by have:=(List.getElem?_eq_some_iff.mp hx).1;omega
  obtain⟨d,hd⟩:∃d,(pcsF pf m m)[n]?=some d:=⟨_,List.getElem?_eq_getElem hn⟩
  obtain⟨t,z,et,ht,fz⟩:=rt0.at hd
  have ex:x=.ref t:=by rw[et] at hx;exact(Option.some.inj hx).symm
  subst ex
  obtain⟨i,j,p,im,hij,hjm,ep,rfl⟩:=pcsF_mem (List.mem_of_getElem? hd)
  obtain⟨pp,bp⟩:=P.p _ _ _ ep
  have st:=s1.trans s4
  have e1:(pcsF pf m m).take (n+1)=(pcsF pf m m).take n++[(.pc,(i:Int),(j:Int),p)]:=by rw[List.take_add_one,hd];rfl
  have ap4:∀d∈(pcsF pf m m).take n,Apart d (.pc,(i:Int),(j:Int),p):=fun d hd'=>by
   have h1:=ap
   rw[← List.take_append_drop n (pcsF pf m m)] at h1
   refine(List.pairwise_append.mp h1).2.2 d hd' _ ?_
   refine List.mem_of_getElem? (i:=0) ?_
   rw[List.getElem?_drop];exact hd
  have tl:((pcsF pf m m).take n).length≤45:=by rw[List.length_take];omega
  have kb:(k+1)*((pcsF pf m m).take n).length≤31*45:=Nat.mul_le_mul (by omega) tl
  rw[e1]
  clear e1
  refine⟨t,_,rfl,st.seqT ht,rfl,_,_,rfl,_,_,rfl,_,_,rfl,_,_,rfl,rfl,?_⟩
  have al':=mi4.step hij hjm pp bp ap4
  have fs:Fq K H4 z p:=st.fq fz
  obtain⟨s,hs⟩:∃s,s=z:=⟨_,rfl⟩
  rw[← hs] at fs ⊢
  have ip:Mq.Ps (p.2,p.1):=Mq.inv_ps pp
  have ib:Mq.Bd k (p.2,p.1):=⟨bp.b,bp.a⟩
  obtain⟨Hs,hHs⟩:∃Hs:Hp,Hs=H4:=⟨_,rfl⟩
  have mx5:=mx4
  have s6:=s4
  rw[← hHs] at fs mx5 s6 ⊢
  clear mx4
  show tSeq _ _ _ [some (.int (m:Int)),some (.ref l),some (.ref D),some (.str "piece"),some (.int (i:Int)),some (.int (j:Int)),some (.ref s)] Hs
  refine rd_ix1 rfl fs ⟨_,_,rfl,rfl,rd_ix0 rfl fs ⟨by show 2≤sizeLine;decide,fun t1 ht1=>?_⟩⟩
  have sA:=same_new ht1 (.tup [.int (0 - p.2),.int p.1])
  have eA:upd Hs t1 (.tup [.int (0 - p.2),.int p.1]) t1=some (.tup [.int (0 - p.2),.int p.1]):=upd_same
  generalize upd Hs t1 (.tup [.int (0 - p.2),.int p.1])=HA at sA eA ⊢
  have fA:Fq K HA t1 (ngI p):=Fq.of (p:=(0 - p.2,p.1)) eA
  have mxA:=mx5.same sA
  obtain⟨a1,x1,vv1,ha1,at1,g1,h1,f1,l1,c1,fv1⟩:=mx_cell (mxA) mi4.l mi4.w (show i < m by omega) hjm
  refine⟨_,rfl,_,rfl,D,_,_,_,rfl,rfl,SqL.of (mxA).d,at1,_,rfl,a1,x1,_,j,rfl,rfl,h1,ixN_nat (by omega),?_⟩
  obtain⟨mx1,sx1⟩:=(mxA).set (j:=j) ha1 g1 h1 f1 (Same.refl _) fA
  generalize upd HA a1 (.lst (x1.set j (.ref t1)))=HB at mx1 sx1 ⊢
  have lA:=mxA.lsts
  have fsB:Fq K HB s p:=sx1.seqT lA (sA.fq fs)
  have e1':=set2_l (i:=i) (j:=j) (q:=(ngI p)) mi4.l
  have w1':=set2_w (i:=i) (j:=j) (q:=(ngI p)) mi4.l mi4.w (by omega)
  have mx1:Mx K HB D as (set2 X i j (ngI p)):=mx1
  refine rd_ix1 rfl fsB ⟨_,_,rfl,rfl,rd_ix0 rfl fsB ⟨by show 2≤sizeLine;decide,fun t2 ht2=>?_⟩⟩
  have sC:=same_new ht2 (.tup [.int (0 - p.2),.int p.1])
  have eC:upd HB t2 (.tup [.int (0 - p.2),.int p.1]) t2=some (.tup [.int (0 - p.2),.int p.1]):=upd_same
  generalize upd HB t2 (.tup [.int (0 - p.2),.int p.1])=HC at sC eC ⊢
  have fC:Fq K HC t2 (ngI p):=Fq.of (p:=(0 - p.2,p.1)) eC
  have mxC:=mx1.same sC
  obtain⟨a2,x2,vv2,ha2,at2,g2,h2,f2,l2,c2,fv2⟩:=mx_cell (mxC) e1' w1' hjm (show i < m by omega)
  refine⟨_,rfl,_,rfl,D,_,_,_,rfl,rfl,SqL.of (mxC).d,at2,_,rfl,a2,x2,_,i,rfl,rfl,h2,ixN_nat (by omega),?_⟩
  obtain⟨mx2,sx2⟩:=(mxC).set (j:=i) ha2 g2 h2 f2 (Same.refl _) fC
  generalize upd HC a2 (.lst (x2.set i (.ref t2)))=HD at mx2 sx2 ⊢
  have lC:=mxC.lsts
  have fsD:Fq K HD s p:=sx2.seqT lC (sC.fq fsB)
  have e2':=set2_l (i:=j) (j:=i) (q:=(ngI p)) e1'
  have w2':=set2_w (i:=j) (j:=i) (q:=(ngI p)) e1' w1' hjm
  have mx2:Mx K HD D as (set2 (set2 X i j (ngI p)) j i (ngI p)):=mx2
  obtain⟨li,bi⟩:=mi4.g i (by omega)
  obtain⟨lj,bj⟩:=mi4.g j hjm
  have v2i:Mq.ix2 (set2 (set2 X i j (ngI p)) j i (ngI p)) i i=Mq.ix2 X i i:=by
   rw[ix2_set e1' w1' hjm (by omega),if_neg (by omega),ix2_set mi4.l mi4.w (by omega) hjm,if_neg (by omega)]
  have v2j:Mq.ix2 (set2 (set2 X i j (ngI p)) j i (ngI p)) j j=Mq.ix2 X j j:=by
   rw[ix2_set e1' w1' hjm (by omega),if_neg (by omega),ix2_set mi4.l mi4.w (by omega) hjm,if_neg (by omega)]
  obtain⟨ai,xi,ui,hai,ati,gI,hI,fI,lI,cI,fui⟩:=mx_cell mx2 e2' w2' (show i < m by omega) (show i < m by omega)
  rw[v2i] at fui
  refine⟨_,rfl,_,rfl,D,_,_,_,rfl,rfl,SqL.of mx2.d,ati,_,rfl,ai,xi,_,_,rfl,rfl,SqL.of hI,cI,rd_ix1 rfl fsD (rd_ix0 rfl fsD ⟨by show 2≤sizeLine;decide,fun t3 ht3=>?_⟩)⟩
  have sE:=same_new ht3 (.tup [.int p.2,.int p.1])
  have eE:upd HD t3 (.tup [.int p.2,.int p.1]) t3=some (.tup [.int p.2,.int p.1]):=upd_same
  generalize upd HD t3 (.tup [.int p.2,.int p.1])=HE at sE eE ⊢
  have fE:Fq K HE t3 (p.2,p.1):=Fq.of eE
  refine⟨ui,t3,_,(p.2,p.1),_,k,rfl,sE.fq fui,fE,li.pos,ip.b,bi,ib,by omega,fun v3 HF sF eF=>?_⟩
  have mxF:=mx2.same (sE.trans sF)
  have fF:Fq K HF v3 (Mq.plus (Mq.ix2 X i i) (p.2,p.1)):=Fq.of eF
  obtain⟨a3,x3,vv3,ha3,at3,g3,h3,f3,l3,c3,fv3⟩:=mx_cell (mxF) e2' w2' (show i < m by omega) (show i < m by omega)
  refine⟨_,rfl,_,rfl,D,_,_,_,rfl,rfl,SqL.of (mxF).d,at3,_,rfl,a3,x3,_,i,rfl,rfl,h3,ixN_nat (by omega),?_⟩
  obtain⟨mx3,sx3⟩:=(mxF).set (j:=i) ha3 g3 h3 f3 (Same.refl _) fF
  generalize upd HF a3 (.lst (x3.set i (.ref v3)))=HG at mx3 sx3 ⊢
  have lF:=mxF.lsts
  have fsG:Fq K HG s p:=sx3.seqT lF ((sE.trans sF).fq fsD)
  have e3':=set2_l (i:=i) (j:=i) (q:=Mq.plus (Mq.ix2 X i i) (p.2,p.1)) e2'
  have w3':=set2_w (i:=i) (j:=i) (q:=Mq.plus (Mq.ix2 X i i) (p.2,p.1)) e2' w2' (by omega)
  have mx3':Mx K HG D as (set2 (set2 (set2 X i j (ngI p)) j i (ngI p)) i i (Mq.plus (Mq.ix2 X i i) (p.2,p.1))):=mx3
  obtain⟨aj,xj,uj,haj,atj,gJ,hJ,fJ,lJ,cJ,fuj⟩:=mx_cell mx3' e3' w3' hjm hjm
  rw[ix2_set e2' w2' (by omega) (by omega),if_neg (by omega),v2j] at fuj
  refine⟨_,rfl,_,rfl,D,_,_,_,rfl,rfl,SqL.of mx3'.d,atj,_,rfl,aj,xj,_,_,rfl,rfl,SqL.of hJ,cJ,rd_ix1 rfl fsG (rd_ix0 rfl fsG ⟨by show 2≤sizeLine;decide,fun t4 ht4=>?_⟩)⟩
  have sI:=same_new ht4 (.tup [.int p.2,.int p.1])
  have eI:upd HG t4 (.tup [.int p.2,.int p.1]) t4=some (.tup [.int p.2,.int p.1]):=upd_same
  generalize upd HG t4 (.tup [.int p.2,.int p.1])=HI at sI eI ⊢
  have fI':Fq K HI t4 (p.2,p.1):=Fq.of eI
  refine⟨uj,t4,_,(p.2,p.1),_,k,rfl,sI.fq fuj,fI',lj.pos,ip.b,bj,ib,by omega,fun v4 HJ sJ eJ=>?_⟩
  have mxJ:=mx3'.same (sI.trans sJ)
  have fJ':Fq K HJ v4 (Mq.plus (Mq.ix2 X j j) (p.2,p.1)):=Fq.of eJ
  obtain⟨a4,x4,vv4,ha4,at4,g4,h4,f4,l4,c4,fv4⟩:=mx_cell (mxJ) e3' w3' hjm hjm
  refine⟨_,rfl,_,rfl,D,_,_,_,rfl,rfl,SqL.of (mxJ).d,at4,_,rfl,a4,x4,_,j,rfl,rfl,h4,ixN_nat (by omega),?_⟩
  obtain⟨mx4,sx4⟩:=(mxJ).set (j:=j) ha4 g4 h4 f4 (Same.refl _) fJ'
  generalize upd HJ a4 (.lst (x4.set j (.ref v4)))=HL at mx4 sx4 ⊢
  have sx:=sA.sx.trans (sx1.trans (sC.sx.trans (sx2.trans ((sE.trans sF).sx.trans (sx3.trans ((sI.trans sJ).sx.trans sx4))))))
  exact⟨SX.same s6 sx fr',_,_,_,_,_,rfl,mx4,al'⟩
 rintro σ H4 ⟨s4,X,z3,z4,z5,z6,rfl,mx4,mi4⟩
 rw[lts,List.take_length] at mi4
 refine⟨_,rfl,q D as X H4 (s1.trans s4) (by rw[← hH1];exact hD) (fun b hb=>by rw[← hH1];exact fr' b hb) mx4 mi4⟩
def sF:List Mq.Q2→Rat
 | []=>0
 |p :: r=>Mq.val p+sF r
theorem sF_snoc (p:Mq.Q2):∀ps:List Mq.Q2,sF (ps++[p])=sF ps+Mq.val p
 | []=>by show Mq.val p+0=0+Mq.val p;grind
 |q :: r=>by show Mq.val q+sF (r++[p])=Mq.val q+sF r+Mq.val p;rw[sF_snoc p r];grind
theorem sN_cons (x:Mq.Q2)(fs:List Mq.Q2):∀r,r≤fs.length→sN (x :: fs) (r+1)=sF (fs.take r)
 |0,_=>by show (0:Rat)+0=0;grind
 |r+1,h=>by
  have ih:=sN_cons x fs r (by omega)
  show sN (x :: fs) (r+1)+(if 0 < r+1 then Mq.val ((x :: fs).getD (r+1) Mq.z0) else 0)=_
  rw[ih,if_pos (by omega),List.take_add_one,Mq.getQ1 (show r < fs.length by omega)]
  show _=sF (fs.take r++[fs.getD r Mq.z0])
  rw[sF_snoc];rfl
def spLComes (K:PySem.W.Frag):Sp:=fun vs H Q _=>∃(a:Addr) (ns:List Int) (m:Nat) (fr:Bool),vs=[.ref a,.int (m:Int),.bl fr]∧SqL K H a (ns.map V.int)∧ns.length≤63∧1≤m∧m≤10∧(fr=true→m≤3)∧∀(c:Addr) (ys:List V) (cs:List Mq.Q2) (H':Hp),Same H H'→H c=none→H' c=some (.lst ys)→Fqs K H' ys cs→cs.length=m→(∀p∈cs,Mq.Low p∧Mq.Bd 97 p)→(∀i,0 < i→i < m→Mq.Bd (bits fr) (cs.getD i Mq.z0))→Mq.val (cs.getD 0 Mq.z0)=- sN cs m→Q (.ref c) H'
abbrev sLComes:Stmt:=top 74
theorem scLComes:FnScope ["_law_script","_law_many","_law_far","_law_found","_law_left","_law_k","_law_cell","_law_one"] ["_law_script","_law_many","_law_far"] (defScope sLComes):=⟨rfl,rfl,rfl,by decide +kernel,rfl,by decide +kernel,by decide +kernel⟩
theorem ok_lcomes {dV:Value}(F:FunD K "_law_comes" "_law_comes" sLComes dV f fd)(mr:mg "range"=none)(G1:FnOk P w K mg base CX0 1 g1 gd1 ["_law_script","_law_k"] (spNth K))(b1:Binds K gd1 ["_law_script","_law_k"] [])(k1:PySem.W.keepIn K (.ref g1)=true)(m1:mg "_law_nth"=some (.ref g1))(G2:FnOk P w K mg base CX0 3 g2 gd2 ["_law_cell","_law_far"] spAmount)(b2:Binds K gd2 ["_law_cell","_law_far"] [])(k2:PySem.W.keepIn K (.ref g2)=true)(m2:mg "_law_amount"=some (.ref g2))(G3:FnOk P w K mg base CX0 3 g3 gd3 ["_law_one","_law_other"] (spTwo K Mq.plus))(b3:Binds K gd3 ["_law_one","_law_other"] [])(k3:PySem.W.keepIn K (.ref g3)=true)(m3:mg "_law_plus"=some (.ref g3)) :
  FnOk P w K mg base CX 4 f fd ["_law_script","_law_many","_law_far"] (spLComes K):=by
 refine F.ok scLComes (fun vs H Q E h=>?_) (fun cdv A outer s H vs Q E hr h=>?_)
 ·obtain⟨a,ns,m,fr,rfl,hS,h63,hm1,m10,h3,q⟩:=h
  rfl
 obtain⟨a,ns,m,fr,rfl,hS,h63,hm1,m10,h3,q⟩:=h
 have r1:=hr.mono (show 1≤3 by omega)
 refine⟨_,(pss_cons (ps_set (i:=3) scLComes.nd rfl (Or.inl rfl) (pe_lst pa_nil))
  (pss_cons (ps_set (i:=4) scLComes.nd rfl (Or.inl rfl) (pe_tup (pa_cons pe_int (pa_cons pe_int pa_nil))))
  (pss_cons (ps_for PassesOwn.never rfl (pi_range2 rfl mr (pa_cons pe_int (pa_cons (pv 1) pa_nil))) (pg_name (i:=5) scLComes.nd rfl (Or.inl rfl))
   (pss_cons (ps_set (i:=6) scLComes.nd rfl (Or.inl rfl) (pe_op op_fdiv (pe_call G1 r1 rfl m1 k1 b1 .nil pass0 (pa_cons (pv 0) (pa_cons (pe_op op_add pe_int (pv 5)) pa_nil))) pe_int))
  (pss_cons (ps_set (i:=7) scLComes.nd rfl (Or.inl rfl) (pe_tup (pa_cons pe_int (pa_cons pe_int pa_nil))))
  (pss_cons (ps_if (pt_cmpR op_ne (pe_op op_mod (pv 6) pe_int) pe_int (nomark _)) (pss_one (ps_set (i:=7) scLComes.nd rfl (Or.inl rfl) (pe_call G2 hr rfl m2 k2 b2 .nil pass0 (pa_cons (pv 6) (pa_cons (pv 2) pa_nil))))) pss_nil)
  (pss_cons (ps_expr (pe_bm PySem.F.plainAttrs_list PySem.F.slot_list_append PySem.F.type_list_append mt_append (pv 3) (pa_cons (pv 7) pa_nil)))
  (pss_one (ps_set (i:=4) scLComes.nd rfl (Or.inl rfl) (pe_call G3 hr rfl m3 k3 b3 .nil pass0 (pa_cons (pv 4) (pa_cons (pe_tup (pa_cons (pe_op op_sub pe_int (pe_ix ix_tup (pv 7) pe_int (fun _ _=>rfl))) (pa_cons (pe_ix ix_tup (pv 7) pe_int (fun _ _=>rfl)) pa_nil))) pa_nil))))))))))
  (pss_one (ps_ret (pe_op op_cat (pe_lst (pa_cons (pv 4) pa_nil)) (pv 3))))))),?_⟩
 have kb:bits fr≤30:=by cases fr<;>decide
 have b97:1+(bits fr+1)*(m - 1)≤97:=by
  cases fr
  ·show 1+5*(m - 1)≤97;omega
  ·have:=h3 rfl
   show 1+31*(m - 1)≤97;omega
 refine⟨by show 0≤sizeLine;decide,fun l hl=>?_⟩
 have s0:=same_new hl (.lst [])
 have e0:upd H l (.lst []) l=some (.lst []):=upd_same
 generalize upd H l (.lst [])=H0 at s0 e0 ⊢
 refine⟨by show 2≤sizeLine;decide,fun t0 ht0=>?_⟩
 have s1:=same_new ht0 (.tup [.int 0,.int 1])
 have e1:upd H0 t0 (.tup [.int 0,.int 1]) t0=some (.tup [.int 0,.int 1]):=upd_same
 generalize upd H0 t0 (.tup [.int 0,.int 1])=H1 at s1 e1 ⊢
 have s01:=s0.trans s1
 refine⟨_,rfl,1,(m:Int),rfl,⟨by omega,by omega,by omega,by omega⟩,?_⟩
 rw[show ((m:Int) - 1).toNat=m - 1 by omega]
 refine for_range (lo:=1) (n:=m - 1) (fun i σ H'=>Same H H'∧∃(fs:List Mq.Q2) (ys:List V) (lf:Mq.Q2) (r:Addr) (z5 z6 z7:Option V),σ=[some (.ref a),some (.int (m:Int)),some (.bl fr),some (.ref l),some (.ref r),z5,z6,z7]∧H' l=some (.lst ys)∧Fqs K H' ys fs∧fs.length=i∧(∀p∈fs,Mq.Low p∧Mq.Bd (bits fr+1) p∧Mq.Bd (bits fr) p)∧Fq K H' r lf∧Mq.Low lf∧Mq.Bd (1+(bits fr+1)*i) lf∧Mq.val lf=- sF fs) ⟨s01,[],[],(0,1),t0,none,none,none,rfl,s1 _ _ e0,.nil,rfl,fun p hp=>(by cases hp),Fq.of e1,⟨by decide,by decide⟩,⟨show (0:Nat) < 2 ^ (1+(bits fr+1)*0) by rw[Nat.mul_zero];decide,show (1:Nat) < 2 ^ (1+(bits fr+1)*0) by rw[Nat.mul_zero];decide⟩,by rw[Mq.val01];rfl⟩ ?_ ?_
 ·rintro i σ H2 hi ⟨s2,fs,ys,lf,r,z5,z6,z7,rfl,e2,F2,lf2,hfs,fr2,lo2,bd2,v2⟩
  have bi:(bits fr+1)*i≤31*9:=Nat.mul_le_mul (by omega) (by omega)
  refine⟨_,rfl,_,rfl,_,_,rfl,rfl,a,ns,_,2+(1+i),rfl,by omega,s2.seq hS,h63,by omega,fun v H3 s3=>⟨_,_,rfl,rfl,⟨by decide,by decide⟩,?_⟩⟩
  obtain⟨cell,hcell⟩:∃cell,v / 20=cell:=⟨_,rfl⟩
  dsimp only[gName,List.set]
  rw[hcell]
  clear hcell
  have s23:=s2.trans s3
  refine(fun (hrest:∀(u:Addr) (Hx:Hp) (p:Mq.Q2),Same H3 Hx→Fq K Hx u p→Mq.Low p→Mq.Bd (bits fr) p→PySem.W.KIN.Hid ((?T:Addr→Hp→Prop) u Hx))=>?main) ?rest
  case main=>
   refine⟨by show 2≤sizeLine;decide,fun t1 ht1=>?_⟩
   have s4:=same_new ht1 (.tup [.int 0,.int 1])
   have e4:upd H3 t1 (.tup [.int 0,.int 1]) t1=some (.tup [.int 0,.int 1]):=upd_same
   generalize upd H3 t1 (.tup [.int 0,.int 1])=H4 at s4 e4 ⊢
   refine⟨_,rfl,_,_,rfl,rfl,(show (0:Int) < 3 by decide),rfl,_,rfl,ite2 (fun _=>?_) (fun _=>?_)⟩
   ·refine⟨_,rfl,_,rfl,cell,fr,rfl,fun p lp bp u H5 s5 e5=>?_⟩
    have s45:=s4.trans s5
    have fu:Fq K H5 u p:=Fq.of e5
    simp only[gName,List.set_set]
    dsimp only[List.set]
    clear e5 s5 e4 s4
    exact(hrest u H5 p s45 fu lp bp).out
   ·exact(hrest t1 H4 (0,1) s4 (Fq.of e4) ⟨by decide,by decide⟩ (Mq.Bd.mono (n:=1) ⟨show (0:Nat) < 2 ^ 1 by decide,show (1:Nat) < 2 ^ 1 by decide⟩ (by cases fr<;>decide))).out
  case rest=>
  intro u H5 p s5 fu lp bp
  refine⟨?_⟩
  have s25:=s3.trans s5
  have s05:=s2.trans s25
  have e5:=s25 _ _ e2
  have lys:=F2.length
  refine⟨_,rfl,.inl ⟨rfl,_,SqL.of e5⟩,_,rfl,l,_,_,rfl,rfl,e5,small1000 (by omega),?_⟩
  have F6:Fqs K (upd H5 l (.lst (ys++[.ref u]))) (ys++[.ref u]) (fs++[p]):=((F2.same s25).app (.cons fu .nil)).upd e5
  have s6:Same H (upd H5 l (.lst (ys++[.ref u]))):=s05.change hl
  have fu6:Fq K (upd H5 l (.lst (ys++[.ref u]))) u p:=fu.upd e5
  have fr6:Fq K (upd H5 l (.lst (ys++[.ref u]))) r lf:=(s25.fq fr2).upd e5
  have e6:upd H5 l (.lst (ys++[.ref u])) l=some (.lst (ys++[.ref u])):=upd_same
  generalize upd H5 l (.lst (ys++[.ref u]))=H6 at F6 s6 fu6 fr6 e6 ⊢
  refine⟨_,rfl,rd_ix0 rfl fu6 ⟨_,_,rfl,rfl,rd_ix1 rfl fu6 ⟨by show 2≤sizeLine;decide,fun t2 ht2=>?_⟩⟩⟩
  have s7:=same_new ht2 (.tup [.int (0 - p.1),.int p.2])
  have e7:upd H6 t2 (.tup [.int (0 - p.1),.int p.2]) t2=some (.tup [.int (0 - p.1),.int p.2]):=upd_same
  generalize upd H6 t2 (.tup [.int (0 - p.1),.int p.2])=H7 at s7 e7 ⊢
  have f7:Fq K H7 t2 (0 - p.1,p.2):=Fq.of e7
  have nb:Mq.Bd (bits fr) (0 - p.1,p.2):=⟨by show Mq.B (bits fr) (0 - p.1);rw[Int.zero_sub];exact bp.a.neg,bp.b⟩
  refine⟨r,t2,lf,(0 - p.1,p.2),1+(bits fr+1)*i,bits fr,rfl,s7.fq fr6,f7,lo2.pos,lp.pos,bd2,nb,by omega,fun w1 H8 s8 e8=>?_⟩
  have s68:=s7.trans s8
  refine⟨s6.trans s68,fs++[p],_,_,w1,_,_,_,rfl,s68 _ _ e6,F6.same s68,by rw[List.length_append,lf2];rfl,fun x hx=>?_,Fq.of e8,Mq.plus_low lo2.pos lp.pos,(Mq.plus_bd bd2 nb lo2.pos lp.pos).mono (by rw[Nat.mul_succ];omega),?_⟩
  ·rcases List.mem_append.mp hx with z | z
   ·exact hfs x z
   ·rw[List.mem_singleton.mp z];exact⟨lp,bp.mono (by omega),bp⟩
  ·rw[Mq.val_plus (q:=(0 - p.1,p.2)) lo2.pos lp.pos,v2,sF_snoc]
   have:Mq.val (0 - p.1,p.2)=- Mq.val p:=by
    unfold Mq.val
    simp only[Int.zero_sub,Rat.intCast_neg]
    grind
   rw[this];grind
 rintro σ H2 ⟨s2,fs,ys,lf,r,z5,z6,z7,rfl,e2,F2,lf2,hfs,fr2,lo2,bd2,v2⟩
 refine⟨_,rfl,by show 1≤sizeLine;decide,fun L hL=>?_⟩
 have s3:=same_new hL (.lst [.ref r])
 have e3:upd H2 L (.lst [.ref r]) L=some (.lst [.ref r]):=upd_same
 generalize upd H2 L (.lst [.ref r])=H3 at s3 e3 ⊢
 have lys:=F2.length
 refine⟨_,rfl,L,l,_,_,rfl,rfl,e3,s3 _ _ e2,?_,fun C hC=>?_⟩
 ·rw[List.length_cons,List.length_nil]
  exact Nat.le_trans (show _≤100 by omega) (by decide)
 have s4:=same_new hC (.lst ([.ref r]++ys))
 have e4:upd H3 C (.lst ([.ref r]++ys)) C=some (.lst ([.ref r]++ys)):=upd_same
 generalize upd H3 C (.lst ([.ref r]++ys))=H4 at s4 e4 ⊢
 have s24:=s3.trans s4
 refine q C _ (lf :: fs) H4 (s2.trans s24) ((s2.trans s3).free hC) e4 (Fqs.cons (s24.fq fr2) (F2.same s24)) (by rw[List.length_cons,lf2];omega) (fun p hp=>?_) (fun i i0 im=>?_) ?_
 ·rcases List.mem_cons.mp hp with z | z
  ·rw[z];exact⟨lo2,bd2.mono b97⟩
  ·exact⟨(hfs p z).1,(hfs p z).2.1.mono (by omega)⟩
 ·obtain⟨i',rfl⟩:∃i',i=i' + 1:=⟨i - 1,by omega⟩
  show Mq.Bd (bits fr) (fs.getD i' Mq.z0)
  exact(hfs _ (List.mem_of_getElem? (Mq.getQ1 (show i' < fs.length by omega)))).2.2
 ·have:=sN_cons lf fs (m - 1) (by omega)
  rw[show m - 1+1=m by omega,List.take_of_length_le (by omega)] at this
  rw[this]
  exact v2
end
end K56
namespace L2
open PySem PySem.Spec PyProof.Rows
theorem px_meth0 {X:Cx}{o:Expr}{ta:TE}{C f:Addr}{m:Str}{k:Nat}{fd:FuncData}{ps:List Str}{ds:List Value}{dvs:List V}{sp:Sp}{apos pos:Pos}{pl:Sem Bool}(he:PE X.nox o ta)(c:Cls X.K C)(hm:Meth X.K C m f)(F:FnOk X.prog X.w X.K X.mg X.base (CX1 X.prog X.w) k f fd ps sp)(fm:Frm X)(hr:Room k X.A)(hb:Binds X.K fd ps ds)(hd:Vals dvs ds)(ht:eval (.Call (.Attribute o m apos) [] [] pos) X.env=(do
   let ov ← eval o X.env
   standAt apos.atName
   let (f,first) ← holding [ov] (getMethod ov m pl)
   callWith pos f first (backTo pos (starEach [] X.env)) (backToKw pos (keywordEach [] X.env))):=by rfl) :
  PX X (.Call (.Attribute o m apos) [] [] pos) (xMeth C m sp dvs ta tNil):=by
 intro pins s σ H Q E I h
 refine PySem.W.methodCall_KW (pl:=pl) (wpAny_mono (he pins s σ H _ (I.wish _) h) (fun u s1 h1=>?_) fun _ _ z=>False.elim z) ht
 obtain⟨x,H1,I1,rx,a,dx,fs,ex,ea,l,q⟩:=h1
 subst ex
 obtain rfl:u=Value.ref a:=rx
 refine getmeth_ok (X:=X.nox) I1 ea c hm l ?_
 exact PySem.W.callWith_K0 (first:=[.ref a]) I1.kIn hm.kp (run_x (us:=[.ref a]) (vs:=[.ref a]) F fm hr hb hd I1.unwish (.cons rfl .nil) q)
end L2
namespace K56
open PySem L2 Shp
section
variable {P:Program} {w:World} {K:PySem.W.Frag} {mg:Str→Option Value} {base:Heap} {f g1 g2 g3 g4 g5 g6 g7 g8:Addr} {fd gd1 gd2 gd3 gd4 gd5 gd6 gd7 gd8:FuncData} {CX:CXT}
variable {CR:Addr} {CK:Kd→Addr} {fW fJ fT fS:Kd→Addr} {fdW fdJ fdT fdS:Kd→FuncData}
theorem call_isiXK {X:Cx}{K:PySem.W.Frag}(h:X.K=K):CallR X (.builtin "isinstance") (fun xs H Q=>∃a C c cv b,xs=[.ref a,c]∧H a=some (excO a (.ref C) none)∧ExcK K C∧RelV c cv∧(∀u,RelV c u→u=cv)∧PySem.W.kitOne K (.ref C) cv=some b∧Q (.bl b) H):=by subst h;exact call_isiX
structure NetOk (m n:Nat) (X:List (List Mq.Q2)) (cs:List Mq.Q2):Prop where
 s:Sq m n X cs
 bO:∀i j,i < j→j < m→Mq.Bd 97 (Mq.ix2 X i j)
 bC:∀i,0 < i→i < m→Mq.Bd 97 (cs.getD i Mq.z0)
 ng:∀i j,i < j→j < m→(Mq.ix2 X i j).1≤0
theorem Dr.ok {m k b:Nat}{pf:Nat→Nat→Option Mq.Q2}{X:List (List Mq.Q2)}{cs:List Mq.Q2}(h:Dr m k b pf X cs):NetOk m b X cs:=by
 have:=h.k97
 exact⟨h.sq,fun i j hi hj=>((h.J.one h.P hi hj).2.2.2.1).mono (by omega),fun i h0 hi=>(h.rk i h0 hi).mono (by omega),fun i j hi hj=>(h.J.one h.P hi hj).2.1⟩
def spTooM (CT:Addr)(K:PySem.W.Frag):Sp:=fun vs H Q _=>∃(t:Addr) (es:List Int) (X:List (List Mq.Q2)) (cs:List Mq.Q2) (m n:Nat),vs=[.ref t]∧TabAt CT K H t es X cs∧es.length=m∧NetOk m n X cs∧40 < (netOf X cs m).length∧∀H',Same H H'→Q (.bl true) H'
abbrev sTooM:Stmt:=top 75
theorem scTooM:FnScope ["_law_table","_law_plain","e"] ["_law_table"] (defScope sTooM):=⟨rfl,rfl,rfl,by decide +kernel,rfl,by decide +kernel,by decide +kernel⟩
theorem ok_toom {dV:Value}(F:FunD K "_law_too_many" "_law_too_many" sTooM dV f fd){CN CT CE CO:Addr}(TBx:TB K mg CT)(b:Bl mg)(mO:mg "OhmError"=some (.ref CO))(eO:PySem.W.exmOne K (.ref CE) (.ref CO)=some true)(xk:ExcK K CE)(mN:mg "TooMany"=some (.ref CE))(kS:PySem.W.kitOne K (.ref CE) (.ref CE)=some true){gTN:Addr}{gdTN:FuncData}(GTN:FnOk P w K mg base (CX1 P w) 6 gTN gdTN ["self"] (spTNet CN CT CE K))(bTN:Binds K gdTN ["self"] [])(mTN:Meth K CT "net" gTN) :
  FnOk P w K mg base CX 7 f fd ["_law_table"] (spTooM CT K):=by
 refine F.ok scTooM (fun vs H Q E h=>?_) (fun cdv A outer s H vs Q E hr h=>?_)
 ·obtain⟨t,es,X,cs,m,n,rfl,ta,le,no,h40,q⟩:=h
  rfl
 obtain⟨t,es,X,cs,m,n,rfl,ta,le,no,h40,q⟩:=h
 refine⟨_,(pss_cons (ps_set (i:=1) scTooM.nd rfl (Or.inl rfl) pe_bl) (pss_cons (ps_try ⟨rfl,rfl,rfl⟩ (psxs_one (psx_expr (px_meth0 (pv 0) TBx.cl mTN GTN ⟨rfl,rfl,rfl⟩ hr bTN .nil))) pss_nil
   (ph_as (j:=2) ⟨rfl,rfl,rfl⟩ scTooM.nd rfl rfl rfl (.inl mO) (fun a=>pss_one (ps_set (i:=1) scTooM.nd rfl (Or.inl rfl) (pe_callB (call_isiXK (K:=K) rfl) rfl b.isi PyProof.Rows.boot_isinstance (pa_cons (pv 2) (pa_cons (pe_cls rfl mN) pa_nil))))) ph_never)) (pss_one (ps_ret (pv 1))))),?_⟩
 obtain⟨dx,p,l,a,us,ys,ht,_⟩:=ta.e
 refine⟨_,rfl,t,dx,_,rfl,ht,(tflds_no _ _ _ (by decide +kernel) (by decide +kernel) (by decide +kernel)),t,es,X,cs,m,n,rfl,ta,le,no.s,no.bO,no.bC,no.ng,.inr ⟨h40,fun H1 s1=>?_⟩⟩
 intro x hx
 refine⟨true,eO,?_⟩
 rw[if_pos rfl]
 have sa:=same_new hx (excO x (.ref CE) none)
 have ea:upd H1 x (excO x (.ref CE) none) x=some (excO x (.ref CE) none):=upd_same
 generalize upd H1 x (excO x (.ref CE) none)=H2 at sa ea ⊢
 refine⟨_,rfl,x,CE,_,_,true,rfl,ea,xk,rfl,fun _ h=>h,kS,?_⟩
 exact⟨_,rfl,q H2 (s1.trans sa)⟩
def spLRows (CN:Addr)(K:PySem.W.Frag):Sp:=fun vs H Q _=>∃(n l d:Addr) (m:Int) (ds:List RD) (ts:List V),vs=[.ref n,.ref d]∧NetAt CN K H n l m ds∧SqL K H d ts∧Rts K H ts ds∧(∀x∈ds,Mq.Low x.2.2.2)∧∀H',Same H H'→Q (.bl true) H'
abbrev sLRows:Stmt:=top 76
theorem scLRows:FnScope ["_law_net","_law_due","_law_told","_law_row"] ["_law_net","_law_due"] (defScope sLRows):=⟨rfl,rfl,rfl,by decide +kernel,rfl,by decide +kernel,by decide +kernel⟩
theorem ok_lrows {dV:Value}(F:FunD K "_law_rows" "_law_rows" sLRows dV f fd){CN:Addr}(NTx:NT K mg CN)(b:Bl mg)(ml:mg "len"=none)(mli:mg "list"=none)(mt:mg "tuple"=none){gCo:Addr}{gdCo:FuncData}(GCo:FnOk P w K mg base CX0 1 gCo gdCo ["self"] (spCount CN K))(bCo:Binds K gdCo ["self"] [])(mCo:Meth K CN "count" gCo){gTo:Addr}{gdTo:FuncData}(GTo:FnOk P w K mg base CX0 1 gTo gdTo ["self"] (spNTold CN K))(bTo:Binds K gdTo ["self"] [])(mTo:Meth K CN "told" gTo)(G1:FnOk P w K mg base CX0 2 g1 gd1 ["_law_found"] (spIs K))(b1:Binds K gd1 ["_law_found"] [])(k1:PySem.W.keepIn K (.ref g1)=true)(m1:mg "_law_is"=some (.ref g1))(G2:FnOk P w K mg base CX0 1 g2 gd2 ["_law_found"] spAnInt)(b2:Binds K gd2 ["_law_found"] [])(k2:PySem.W.keepIn K (.ref g2)=true)(m2:mg "_law_an_int"=some (.ref g2)) :
  FnOk P w K mg base CX 3 f fd ["_law_net","_law_due"] (spLRows CN K):=by
 refine F.ok scLRows (fun vs H Q E h=>?_) (fun cdv A outer s H vs Q E hr h=>?_)
 ·obtain⟨n,l,d,m,ds,ts,rfl,nt,hd,rt,lw,q⟩:=h
  rfl
 obtain⟨n,l,d,m,ds,ts,rfl,nt,hd,rt,lw,q⟩:=h
 have r1:=hr.mono (show 1≤2 by omega)
 have hu:=hr.units
 refine⟨_,(pss_cons (ps_set (i:=2) scLRows.nd rfl (Or.inl rfl) (pe_meth0 (pv 0) NTx.cl mTo GTo r1 bTo .nil pass0))
  (pss_cons (ps_if (PW.pt (pw_or (pt_not (pt_val (pe_isiQ (i:=2) rfl (Or.inl rfl) b.isi mli rfl rfl PyProof.Rows.boot_list))) (pw_or (pt_cmpR op_ne (pe_callB call_len_seq rfl ml PySem.boot_len (pa_cons (pv 2) pa_nil)) (pe_callB call_len_seq rfl ml PySem.boot_len (pa_cons (pv 1) pa_nil)) (nomark _)) (pw_or1 (pt_cmpR op_ne (pe_meth0 (pv 0) NTx.cl mCo GCo r1 bCo .nil pass0) (pe_callB call_len_seq rfl ml PySem.boot_len (pa_cons (pv 1) pa_nil)) (nomark _)))))) (pss_one (ps_ret pe_bl)) pss_nil)
  (pss_cons (ps_for PassesOwn.never rfl (pi_list (pv 2)) (pg_name (i:=3) scLRows.nd rfl (Or.inl rfl))
   (pss_cons (ps_if (PW.pt (pw_or (pt_not (pt_val (pe_isiQ (i:=3) rfl (Or.inl rfl) b.isi mt rfl rfl PyProof.Rows.boot_tuple))) (pw_or (pt_cmpR op_ne (pe_callB call_len_seq rfl ml PySem.boot_len (pa_cons (pv 3) pa_nil)) pe_int (nomark _)) (pw_or1 (pt_not (pt_val (pe_call G1 hr rfl m1 k1 b1 .nil pass0 (pa_cons (pe_ix ix_tup (pv 3) pe_int (fun _ _=>rfl)) pa_nil)))))))) (pss_one (ps_ret pe_bl)) pss_nil)
  (pss_one (ps_if (PW.pt (pw_or (pt_not (pt_val (pe_call G2 r1 rfl m2 k2 b2 .nil pass0 (pa_cons (pe_ix ix_tup (pv 3) pe_int (fun _ _=>rfl)) pa_nil)))) (pw_or1 (pt_not (pt_val (pe_call G2 r1 rfl m2 k2 b2 .nil pass0 (pa_cons (pe_ix ix_tup (pv 3) pe_int (fun _ _=>rfl)) pa_nil))))))) (pss_one (ps_ret pe_bl)) pss_nil))))
  (pss_one (ps_ret (pe_cmpR (op_eqD hu) (pv 2) (pv 1) (nomark _))))))),?_⟩
 obtain⟨dx,hn⟩:=nt.ob
 refine⟨_,rfl,n,dx,_,rfl,hn,nflds_no _ _ (by decide +kernel) (by decide +kernel),n,l,m,ds,rfl,nt,fun a xs H1 s1 na ea Ra=>?_⟩
 have lx:=Ra.length
 have lt:=rt.length
 obtain⟨dx1,hn1⟩:=(nt.same s1).ob
 have eaS:=SqL.of (K:=K) ea
 refine⟨_,_,true,rfl,.lst eaS,rfl,_,rfl,iteF ?_⟩
 refine⟨_,rfl,a,xs,rfl,.inl eaS,_,rfl,d,ts,rfl,.inl (s1.seq hd),rfl,_,rfl,L2.ifF ?_ ?_⟩
 ·rw[lx,lt];simp
 refine⟨_,rfl,n,dx1,_,rfl,hn1,nflds_no _ _ (by decide +kernel) (by decide +kernel),n,l,m,ds,rfl,nt.same s1,_,rfl,d,ts,rfl,.inl (s1.seq hd),rfl,_,rfl,L2.ifF ?_ ?_⟩
 ·rw[lt];simp
 refine⟨_,rfl,a,rfl,⟨_,eaS⟩,?_⟩
 refine for_list (xs:=xs) (fun i σ H'=>Same H1 H'∧∃z3,σ=[some (.ref n),some (.ref d),some (.ref a),z3]) ⟨Same.refl _,none,rfl⟩ (fun i σ H' _ h=>h.1.seq eaS) ?_ ?_
 ·rintro i x σ H2 hx ⟨s2,z3,rfl⟩
  have hi:i < ds.length:=by have:=(List.getElem?_eq_some_iff.mp hx).1;omega
  obtain⟨t,z,et,ht,fz⟩:=(Ra.same s2).at (List.getElem?_eq_getElem hi)
  have ex:x=.ref t:=by rw[et] at hx;exact(Option.some.inj hx).symm
  subst ex
  have lz:=lw _ (List.getElem_mem hi)
  refine⟨_,_,true,rfl,.tup ht,rfl,_,rfl,iteF ?_⟩
  refine⟨_,rfl,t,_,rfl,.inr ht,rfl,_,rfl,L2.ifF (by rfl) ?_⟩
  refine⟨_,rfl,t,_,3,_,rfl,rfl,ht,rfl,z,_,rfl,fz,lz,_,rfl,iteF ?_⟩
  refine⟨_,rfl,t,_,1,_,rfl,rfl,ht,rfl,_,rfl,_,rfl,iteF ?_⟩
  refine⟨_,rfl,t,_,2,_,rfl,rfl,ht,rfl,_,rfl,_,rfl,iteF ?_⟩
  exact⟨s2,_,rfl⟩
 rintro σ H2 ⟨s2,z3,rfl⟩
 refine⟨_,rfl,_,rfl,?_⟩
 exact rd_eqR (neg:=false) (s2.seq eaS) ((s1.trans s2).seq hd) (Ra.same s2) (rt.same (s1.trans s2)) (q _ (s1.trans s2))
def lqd (ps:List Mq.Q2):PyData:=.list (ps.map qd)
theorem lqds_lay:∀X:List (List Mq.Q2),PyData.canLayAll0 (X.map lqd)=true
 | []=>rfl
 |r :: X=>by
  show (PyData.canLayAll0 (r.map qd) && PyData.canLayAll0 (X.map lqd))=true
  rw[lqds_lay X,qds_lay];rfl
theorem lqds_depth:∀X:List (List Mq.Q2),PyData.depthAll (X.map lqd)≤2
 | []=>by simp[PyData.depthAll]
 |r :: X=>by
  have h:=lqds_depth X
  have h1:=qds_depth r
  simp only[List.map_cons,PyData.depthAll]
  have:(lqd r).depth≤2:=by simp only[lqd,PyData.depth];omega
  omega
theorem lns_dat {K:PySem.W.Frag}{H:Hp}:∀{us:List V} {X:List (List Mq.Q2)},Lns K H us X→DatVs K H us (X.map lqd)
 | [],[],_=>.nil
 | [],_ :: _,h=>by have:=h.l;simp at this
 |_ :: _,[],h=>by have:=h.l;simp at this
 |x :: us,ps :: X,h=>by
  obtain⟨a,xs,rfl,h1,h2⟩:=h.r 0 x ps rfl rfl
  exact .cons (.lst h1 h2.dat) (lns_dat ⟨by have:=h.l;simpa using this,fun i y qs e1 e2=>h.r (i+1) y qs (by simpa using e1) (by simpa using e2)⟩)
def kd (es:List Int)(X:List (List Mq.Q2))(cs:List Mq.Q2):PyData:=.tuple [.list (es.map PyData.int),.list (X.map lqd),.list (cs.map qd)]
theorem kd_lay (es:List Int)(X:List (List Mq.Q2))(cs:List Mq.Q2):(kd es X cs).canLay0=true:=by
 show (PyData.canLayAll0 (es.map PyData.int) && (PyData.canLayAll0 (X.map lqd) && (PyData.canLayAll0 (cs.map qd) && true)))=true
 rw[ints_lay,lqds_lay,qds_lay];rfl
theorem kd_depth (es:List Int)(X:List (List Mq.Q2))(cs:List Mq.Q2):(kd es X cs).depth≤16:=by
 have h1:=ints_depth es
 have h2:=lqds_depth X
 have h3:=qds_depth cs
 simp only[kd,PyData.depth,PyData.depthAll]
 omega
theorem kd_of {K:PySem.W.Frag}{H:Hp}{r p l c:Addr}{es:List Int}{X:List (List Mq.Q2)}{cs:List Mq.Q2}{us ys:List V}(h:SqT K H r [.ref p,.ref l,.ref c])(h1:SqL K H p (es.map V.int))(h2:SqL K H l us)(h3:Lns K H us X)(h4:SqL K H c ys)(h5:Fqs K H ys cs):DatV K H (.ref r) (kd es X cs):=.tup h (.cons (.lst h1 (ints_dat es)) (.cons (.lst h2 (lns_dat h3)) (.cons (.lst h4 h5.dat) .nil)))
theorem rd_eqM {K:PySem.W.Frag}{H:Hp}{a b:Addr}{us vs:List V}{X:List (List Mq.Q2)}{neg:Bool}{Q:VK}(h1:SqL K H a us)(h2:SqL K H b vs)(f1:Lns K H us X)(f2:Lns K H vs X)(z:Q (.bl (!neg)) H):rDat K neg (.ref a) (.ref b) H Q:=
 rd_eqS (d:=.list (X.map lqd)) (.lst h1 (lns_dat f1)) (.lst h2 (lns_dat f2)) (lqds_lay X) (by have:=lqds_depth X;simp only[PyData.depth];omega) z
def spLaw (K:PySem.W.Frag):Sp:=fun vs H Q _=>∃(a:Addr) (ns:List Int),vs=[.ref a]∧SqL K H a (ns.map V.int)∧ns.length≤63∧∀H',Q (.bl true) H'
theorem at103 (fr:Bool):∃v:Int,atI [V.int 10,.int 3] (if fr then 1 else 0)=some (.int v)∧v=if fr then 3 else 10:=by cases fr<;>exact⟨_,rfl,rfl⟩
theorem nd_lrow:(["_law_row"]:List Str).Nodup:=by decide +kernel
theorem nd_k_comes_here:(["_law_k","_law_comes_here"]:List Str).Nodup:=by decide +kernel
theorem nd_k:(["_law_k"]:List Str).Nodup:=by decide +kernel
abbrev sLaw:Stmt:=top 77
theorem scLaw:FnScope ["_law_script","_law_far","_law_many","_law_ends_here","_law_pieces_here","_law_matrix_here","_law_comes_here","_law_handed","_law_table","_law_kept","_law_due","_law_net","_law_again","_law_later"] ["_law_script"] (defScope sLaw):=⟨rfl,rfl,rfl,by decide +kernel,rfl,by decide +kernel,by decide +kernel⟩
theorem ok_law {dV:Value}(F:FunD K "law" "law" sLaw dV f fd){CT CN CE:Addr}(b:Bl mg)(mr:mg "range"=none)(ml:mg "len"=none)(mli:mg "list"=none)(TBx:TB K mg CT)(NTx:NT K mg CN){gTI:Addr}{gdTI:FuncData}(GTI:FnOk P w K mg base CX0 1 gTI gdTI ["self","ends","matrix","comes"] (spTInitA CT K))(bTI:Binds K gdTI ["self","ends","matrix","comes"] [])(MT:Mk K CT gTI){gEn:Addr}{gdEn:FuncData}(GEn:FnOk P w K mg base CX0 1 gEn gdEn ["self"] (spTEnds CT K))(bEn:Binds K gdEn ["self"] [])(mEn:Meth K CT "ends" gEn){gMx:Addr}{gdMx:FuncData}(GMx:FnOk P w K mg base CX0 1 gMx gdMx ["self"] (spTMat CT K))(bMx:Binds K gdMx ["self"] [])(mMx:Meth K CT "matrix" gMx){gCm:Addr}{gdCm:FuncData}(GCm:FnOk P w K mg base CX0 1 gCm gdCm ["self"] (spTComes CT K))(bCm:Binds K gdCm ["self"] [])(mCm:Meth K CT "comes" gCm){gTN:Addr}{gdTN:FuncData}(GTN:FnOk P w K mg base (CX1 P w) 6 gTN gdTN ["self"] (spTNet CN CT CE K))(bTN:Binds K gdTN ["self"] [])(mTN:Meth K CT "net" gTN){gMa:Addr}{gdMa:FuncData}(GMa:FnOk P w K mg base CX0 1 gMa gdMa ["self"] (spMany CN K))(bMa:Binds K gdMa ["self"] [])(mMa:Meth K CN "many" gMa){gAd:Addr}{gdAd:FuncData}(GAd:FnOk P w K mg base (CX1 P w) 5 gAd gdAd ["self","row"] (spAddF CN K CK CE))(bAd:Binds K gdAd ["self","row"] [])(mAd:Meth K CN "add" gAd)(G1:FnOk P w K mg base CX0 1 g1 gd1 ["_law_script","_law_k"] (spNth K))(b1:Binds K gd1 ["_law_script","_law_k"] [])(k1:PySem.W.keepIn K (.ref g1)=true)(m1:mg "_law_nth"=some (.ref g1))(G2:FnOk P w K mg base CX0 2 g2 gd2 ["_law_script","_law_many"] (spEnds K))(b2:Binds K gd2 ["_law_script","_law_many"] [])(k2:PySem.W.keepIn K (.ref g2)=true)(m2:mg "_law_ends"=some (.ref g2))(G3:FnOk P w K mg base CX0 4 g3 gd3 ["_law_script","_law_many","_law_far"] (spPieces K))(b3:Binds K gd3 ["_law_script","_law_many","_law_far"] [])(k3:PySem.W.keepIn K (.ref g3)=true)(m3:mg "_law_pieces"=some (.ref g3))(G4:FnOk P w K mg base CX0 4 g4 gd4 ["_law_many","_law_pieces_here"] (spMatrix K))(b4:Binds K gd4 ["_law_many","_law_pieces_here"] [])(k4:PySem.W.keepIn K (.ref g4)=true)(m4:mg "_law_matrix"=some (.ref g4))(G5:FnOk P w K mg base CX0 4 g5 gd5 ["_law_script","_law_many","_law_far"] (spLComes K))(b5:Binds K gd5 ["_law_script","_law_many","_law_far"] [])(k5:PySem.W.keepIn K (.ref g5)=true)(m5:mg "_law_comes"=some (.ref g5))(G6:FnOk P w K mg base CX0 7 g6 gd6 ["_law_table"] (spTooM CT K))(b6:Binds K gd6 ["_law_table"] [])(k6:PySem.W.keepIn K (.ref g6)=true)(m6:mg "_law_too_many"=some (.ref g6))(G7:FnOk P w K mg base CX0 3 g7 gd7 ["_law_net","_law_due"] (spLRows CN K))(b7:Binds K gd7 ["_law_net","_law_due"] [])(k7:PySem.W.keepIn K (.ref g7)=true)(m7:mg "_law_rows"=some (.ref g7))(G8:FnOk P w K mg base CX0 9 g8 gd8 ["net","ends"] (spTof CN CT K))(b8:Binds K gd8 ["net","ends"] [])(k8:PySem.W.keepIn K (.ref g8)=true)(m8:mg "table_of"=some (.ref g8))(G9:FnOk P w K mg base CX0 3 g9 gd9 ["told"] (spRowOfG K CK))(b9:Binds K gd9 ["told"] [])(k9:PySem.W.keepIn K (.ref g9)=true)(m9:mg "row_of"=some (.ref g9)) :
  FnOk P w K mg base CX 10 f fd ["_law_script"] (spLaw K):=by
 refine F.ok scLaw (fun vs H Q E h=>?_) (fun cdv A outer s H vs Q E hr h=>?_)
 ·obtain⟨a,ns,rfl,hS,h63,q⟩:=h
  rfl
 obtain⟨a,ns,rfl,hS,h63,q⟩:=h
 have hu:=hr.units
 have r1:=hr.mono (show 1≤9 by omega)
 have r2:=hr.mono (show 2≤9 by omega)
 have r3:=hr.mono (show 3≤9 by omega)
 have r4:=hr.mono (show 4≤9 by omega)
 have r5:=hr.mono (show 5≤9 by omega)
 have r6:=hr.mono (show 6≤9 by omega)
 have r7:=hr.mono (show 7≤9 by omega)
 have GTc:=GTN.calm
 have GAc:=GAd.calm
 refine⟨_,(pss_cons (ps_set (i:=1) scLaw.nd rfl (Or.inl rfl) (pe_cmpR op_eq (pe_op op_mod (pe_op op_fdiv (pe_call G1 r1 rfl m1 k1 b1 .nil pass0 (pa_cons (pv 0) (pa_cons pe_int pa_nil))) pe_int) pe_int) pe_int (nomark _)))
  (pss_cons (ps_set (i:=2) scLaw.nd rfl (Or.inl rfl) (pe_op op_add pe_int (pe_op op_mod (pe_call G1 r1 rfl m1 k1 b1 .nil pass0 (pa_cons (pv 0) (pa_cons pe_int pa_nil))) (pe_ix ix_list (pe_lst (pa_cons pe_int (pa_cons pe_int pa_nil))) (pe_callTy call_int1 rfl b.int PyProof.Rows.boot_int (pa_cons (pv 1) pa_nil)) (fun _ _=>rfl)))))
  (pss_cons (ps_set (i:=3) scLaw.nd rfl (Or.inl rfl) (pe_call G2 r2 rfl m2 k2 b2 .nil pass0 (pa_cons (pv 0) (pa_cons (pv 2) pa_nil))))
  (pss_cons (ps_set (i:=4) scLaw.nd rfl (Or.inl rfl) (pe_call G3 r4 rfl m3 k3 b3 .nil pass0 (pa_cons (pv 0) (pa_cons (pv 2) (pa_cons (pv 1) pa_nil)))))
  (pss_cons (ps_set (i:=5) scLaw.nd rfl (Or.inl rfl) (pe_call G4 r4 rfl m4 k4 b4 .nil pass0 (pa_cons (pv 2) (pa_cons (pv 4) pa_nil))))
  (pss_cons (ps_set (i:=6) scLaw.nd rfl (Or.inr rfl) (pe_call G5 r4 rfl m5 k5 b5 .nil pass0 (pa_cons (pv 0) (pa_cons (pv 2) (pa_cons (pv 1) pa_nil)))))
  (pss_cons (ps_set (i:=7) scLaw.nd rfl (Or.inl rfl) (pe_tup (pa_cons (pe_callTy call_list_of rfl mli PyProof.Rows.boot_list (pa_cons (pv 3) pa_nil)) (pa_cons (pe_comp (nl:=1) (fr:=[]) (Nc:=["_law_row"]) (cl:=[]) rfl ⟨rfl,rfl,by decide +kernel,by decide +kernel,fun x c h=>(by cases h),has_of rfl,rfl,fun i n h=>(by simp at h)⟩
    (pi_list (pv 5)) (fun C s3 H3 fp pins=>(pg_name (i:=0) nd_lrow rfl (Or.inl rfl))) (fun C s3 H3 fp pins=>pif_nil)
    (fun C s3 H3 fp pins=>(pe_callTy (call_list_ofK (K:=K) rfl) rfl mli PyProof.Rows.boot_list (pa_cons (pv 0) pa_nil)))) (pa_cons (pe_callTy call_list_of rfl mli PyProof.Rows.boot_list (pa_cons (pv 6) pa_nil)) pa_nil)))))
  (pss_cons (ps_set (i:=8) scLaw.nd rfl (Or.inl rfl) (pe_make MT GTI r2 rfl TBx.mT bTI .nil pass0 (pa_cons (pe_ix ix_tup (pv 7) pe_int (fun _ _=>rfl)) (pa_cons (pe_ix ix_tup (pv 7) pe_int (fun _ _=>rfl)) (pa_cons (pe_ix ix_tup (pv 7) pe_int (fun _ _=>rfl)) pa_nil)))))
  (pss_cons (ps_expr (pe_bm PySem.F.plainAttrs_list PySem.F.slot_list_append PySem.F.type_list_append mt_append (pe_ix ix_tup (pv 7) pe_int (fun _ _=>rfl)) (pa_cons pe_int pa_nil)))
  (pss_cons (ps_expr (pe_bm PySem.F.plainAttrs_list PySem.F.slot_list_append PySem.F.type_list_append mt_append (pe_ix ix_list (pe_ix ix_tup (pv 7) pe_int (fun _ _=>rfl)) pe_int (fun _ _=>rfl)) (pa_cons (pe_tup (pa_cons pe_int (pa_cons pe_int pa_nil))) pa_nil)))
  (pss_cons (ps_asg (pe_tup (pa_cons pe_int (pa_cons pe_int pa_nil))) (pg_sub (pe_ix ix_tup (pv 7) pe_int (fun _ _=>rfl)) pe_int set_list))
  (pss_cons (ps_set (i:=9) scLaw.nd rfl (Or.inl rfl) (pe_tup (pa_cons (pv 3) (pa_cons (pv 5) (pa_cons (pv 6) pa_nil)))))
  (pss_cons (ps_set (i:=10) scLaw.nd rfl (Or.inl rfl) (pe_op op_cat (pv 4) (pe_comp (nl:=1) (fr:=[6]) (Nc:=["_law_k","_law_comes_here"]) (cl:=[("_law_comes_here",s.heap.objs.size+1)]) rfl ⟨rfl,rfl,by decide +kernel,by decide +kernel,fun x c h=>h,has_of rfl,rfl,fun i n h=>match i,h with | 0,h=>by cases h;exact⟨6,rfl,rfl,rfl,rfl,.inl rfl⟩ | k+1,h=>by rw[show 1+(k+1)=k+2 by omega] at h;cases h⟩
    (pi_range2 rfl mr (pa_cons pe_int (pa_cons (pv 2) pa_nil))) (fun C s3 H3 fp pins=>(pg_name (i:=0) nd_k_comes_here rfl (Or.inl rfl))) (fun C s3 H3 fp pins=>(pif_one (pt_cmpR op_ne (pe_ix (ix_tupK (K:=K) rfl) (pe_ix (ix_listK (K:=K) rfl) (pv 1) (pv 0) (fun _ _=>rfl)) pe_int (fun _ _=>rfl)) pe_int (nomark _))))
    (fun C s3 H3 fp pins=>(pe_tup (pa_cons pe_str (pa_cons pe_int (pa_cons (pv 0) (pa_cons (pe_ix (ix_listK (K:=K) rfl) (pv 1) (pv 0) (fun _ _=>rfl)) pa_nil)))))))))
  (pss_cons (ps_if (pt_cmpR op_gt (pe_callB call_len_seq rfl ml PySem.boot_len (pa_cons (pv 10) pa_nil)) pe_int (nomark _)) (pss_one (ps_ret (pe_and (pe_call G6 r7 rfl m6 k6 b6 .nil pass0 (pa_cons (pv 8) pa_nil)) (pe_one (pe_cmpR (op_eqD hu) (pe_tup (pa_cons (pe_meth0 (pv 8) TBx.cl mEn GEn r1 bEn .nil pass0) (pa_cons (pe_meth0 (pv 8) TBx.cl mMx GMx r1 bMx .nil pass0) (pa_cons (pe_meth0 (pv 8) TBx.cl mCm GCm r1 bCm .nil pass0) pa_nil)))) (pv 9) (nomark _)))))) pss_nil)
  (pss_cons (ps_set (i:=11) scLaw.nd rfl (Or.inl rfl) (pe_meth0 (pv 8) TBx.cl mTN GTc r6 bTN .nil pass0))
  (pss_cons (ps_if (PW.pt (pw_or (pt_cmpR op_ne (pe_meth0 (pv 11) NTx.cl mMa GMa r1 bMa .nil pass0) (pv 2) (nomark _)) (pw_or1 (pt_not (pt_val (pe_call G7 r3 rfl m7 k7 b7 .nil pass0 (pa_cons (pv 11) (pa_cons (pv 10) pa_nil)))))))) (pss_one (ps_ret pe_bl)) pss_nil)
  (pss_cons (ps_set (i:=12) scLaw.nd rfl (Or.inl rfl) (pe_call G8 hr rfl m8 k8 b8 .nil pass0 (pa_cons (pv 11) (pa_cons (pe_comp (nl:=1) (fr:=[]) (Nc:=["_law_k"]) (cl:=[]) rfl ⟨rfl,rfl,by decide +kernel,by decide +kernel,fun x c h=>(by cases h),has_of rfl,rfl,fun i n h=>(by simp at h)⟩
    (pi_range1 rfl mr (pa_cons (pv 2) pa_nil)) (fun C s3 H3 fp pins=>(pg_name (i:=0) nd_k rfl (Or.inl rfl))) (fun C s3 H3 fp pins=>pif_nil)
    (fun C s3 H3 fp pins=>(pv 0))) pa_nil))))
  (pss_cons (ps_if (PW.pt (pw_or (pt_cmpR (op_neD hu) (pe_meth0 (pv 12) TBx.cl mEn GEn r1 bEn .nil pass0) (pe_comp (nl:=1) (fr:=[]) (Nc:=["_law_k"]) (cl:=[]) rfl ⟨rfl,rfl,by decide +kernel,by decide +kernel,fun x c h=>(by cases h),has_of rfl,rfl,fun i n h=>(by simp at h)⟩
    (pi_range1 rfl mr (pa_cons (pv 2) pa_nil)) (fun C s3 H3 fp pins=>(pg_name (i:=0) nd_k rfl (Or.inl rfl))) (fun C s3 H3 fp pins=>pif_nil)
    (fun C s3 H3 fp pins=>(pv 0))) (nomark _)) (pw_or (pt_cmpR (op_neD hu) (pe_meth0 (pv 12) TBx.cl mMx GMx r1 bMx .nil pass0) (pv 5) (nomark _)) (pw_or1 (pt_cmpR (op_neD hu) (pe_meth0 (pv 12) TBx.cl mCm GCm r1 bCm .nil pass0) (pv 6) (nomark _)))))) (pss_one (ps_ret pe_bl)) pss_nil)
  (pss_cons (ps_if (pt_cmpR op_lt (pe_callB call_len_seq rfl ml PySem.boot_len (pa_cons (pv 10) pa_nil)) pe_int (nomark _)) (pss_one (ps_expr (pe_meth (pv 11) NTx.cl mAd GAc r5 bAd .nil pass0 (pa_cons (pe_call G9 r3 rfl m9 k9 b9 .nil pass0 (pa_cons (pe_tup (pa_cons pe_str (pa_cons pe_int (pa_cons pe_int (pa_cons (pe_tup (pa_cons pe_int (pa_cons pe_int pa_nil))) pa_nil))))) pa_nil)) pa_nil)))) pss_nil)
  (pss_cons (ps_set (i:=13) scLaw.nd rfl (Or.inl rfl) (pe_meth0 (pv 8) TBx.cl mTN GTc r6 bTN .nil pass0))
  (pss_one (ps_ret (pe_and (pe_call G7 r3 rfl m7 k7 b7 .nil pass0 (pa_cons (pv 13) (pa_cons (pv 10) pa_nil))) (pe_one (pe_cmpR (op_eqD hu) (pe_tup (pa_cons (pe_meth0 (pv 8) TBx.cl mEn GEn r1 bEn .nil pass0) (pa_cons (pe_meth0 (pv 8) TBx.cl mMx GMx r1 bMx .nil pass0) (pa_cons (pe_meth0 (pv 8) TBx.cl mCm GCm r1 bCm .nil pass0) pa_nil)))) (pv 9) (nomark _)))))))))))))))))))))))))),?_⟩
 refine⟨_,rfl,a,ns,0,0,rfl,rfl,hS,h63,by omega,fun v0 H1 s1=>⟨_,_,rfl,rfl,⟨by decide,by decide⟩,_,_,rfl,rfl,(show (0:Int) < 3 by decide),rfl,?_⟩⟩
 obtain⟨fr,hfr⟩:∃fr:Bool,decide (V.int (v0 / 10 % 3)=V.int 1)=fr:=⟨_,rfl⟩
 show tSeq _ _ _ [some (.ref a),some (.bl (decide (V.int (v0 / 10 % 3)=V.int 1))),none,none,none,none,none,none,none,none,none,none,none,none] H1
 rw[hfr]
 clear hfr
 refine⟨_,rfl,a,ns,0,0,rfl,rfl,s1.seq hS,h63,by omega,fun v1 H2 s2=>⟨by show 2≤sizeLine;decide,fun l1 hl1=>?_⟩⟩
 have s3:=same_new hl1 (.lst [.int 10,.int 3])
 have e3:upd H2 l1 (.lst [.int 10,.int 3]) l1=some (.lst [.int 10,.int 3]):=upd_same
 generalize upd H2 l1 (.lst [.int 10,.int 3])=H3 at s3 e3 ⊢
 obtain⟨k6,ek,ek6⟩:=at103 fr
 have k61:3≤k6∧k6≤10:=by rw[ek6];cases fr<;>decide
 refine⟨_,rfl,.inr ⟨fr,rfl,l1,_,_,_,rfl,rfl,SqL.of e3,ek,_,_,rfl,rfl,by omega,_,_,rfl,rfl,?_⟩⟩
 have f0:=Int.emod_nonneg v1 (show k6≠0 by omega)
 have f9:=Int.emod_lt_of_pos v1 (show 0 < k6 by omega)
 obtain⟨m,hm⟩:∃m:Nat,1+v1 % k6=(m:Int):=⟨(1+v1 % k6).toNat,by omega⟩
 show tSeq _ _ _ [some (.ref a),some (.bl fr),some (.int (1+v1 % k6)),none,none,none,none,none,none,none,none,none,none,none] H3
 rw[hm]
 have hm1:1≤m:=by omega
 have m10:m≤10:=by omega
 have hm3:fr=true→m≤3:=fun z=>by rw[z] at ek6;simp at ek6;omega
 clear f0 f9 hm ek ek6 k61
 have s03:=s1.trans (s2.trans s3)
 clear s1 s2 s3 e3
 have kb:bits fr≤30:=by cases fr<;>decide
 refine⟨_,rfl,_,rfl,a,ns,m,rfl,s03.seq hS,h63,m10,fun le es H4 s4 nle ele les=>?_⟩
 have s04:=s03.trans s4
 refine⟨_,rfl,_,rfl,_,rfl,a,ns,m,fr,rfl,s04.seq hS,h63,m10,fun lp ts pf H5 s5 nlp elp rtp PFp=>?_⟩
 have s05:=s04.trans s5
 refine⟨_,rfl,_,rfl,lp,ts,pf,m,bits fr,rfl,SqL.of elp,rtp,PFp,kb,m10,fun Dm as X H6 s6 nDm nas mxm MJm=>?_⟩
 have s06:=s05.trans s6
 refine⟨_,rfl,_,rfl,_,rfl,a,ns,m,fr,rfl,s06.seq hS,h63,hm1,m10,hm3,fun lc yc cs H7 s7 nlc elc FC lcs rcs rck c0=>?_⟩
 have len45:(pcsF pf m m).length≤45:=Nat.le_trans (pcsF_bs pf m m) (bs_45 m10)
 obtain⟨bb,hbb,hb1⟩:∃bb:Nat,97≤bb∧(1+(bits fr+1)*(pcsF pf m m).length≤bb∧10+bb+bb*(m+1)≤8000):=by
  cases fr
  ·refine⟨230,by decide,?_,?_⟩
   ·show 1+5*_≤230;omega
   ·omega
  ·have h3:=hm3 rfl
   have h3b:(pcsF pf m m).length≤3:=by
    refine Nat.le_trans (pcsF_bs pf m m) ?_
    have:∀m:Fin 4,bs m.1 m.1≤3:=by decide
    exact this ⟨m,by omega⟩
   refine⟨97,by decide,?_,?_⟩
   ·show 1+31*_≤97;omega
   ·omega
 have DR:Dr m (bits fr) bb pf X cs:=⟨hm1,by omega,by omega,PFp,MJm,lcs,rcs,rck,c0,hbb,hb1.1,hb1.2⟩
 have ele7:=(s5.trans (s6.trans s7)) _ _ ele
 have elp7:=(s6.trans s7) _ _ elp
 have rtp7:=rtp.same (s6.trans s7)
 have mx7:=mxm.same s7
 have s07:=s06.trans s7
 have lX:=MJm.l
 clear ele elp rtp mxm s03 s04 s05 s06 s4 s5 s6 s7 nle nlp nDm nas nlc PFp MJm rcs rck c0
 show tSeq _ _ _ [some (.ref a),some (.bl fr),some (.int (m:Int)),some (.ref le),some (.ref lp),some (.ref Dm),some (.ref lc),none,none,none,none,none,none,none] H7
 refine⟨_,rfl,le,_,rfl,.inl (SqL.of ele7),fun h0 hh0=>?_⟩
 have s8:=same_new hh0 (.lst (es.map V.int))
 have eh0:upd H7 h0 (.lst (es.map V.int)) h0=some (.lst (es.map V.int)):=upd_same
 generalize upd H7 h0 (.lst (es.map V.int))=H8 at s8 eh0 ⊢
 refine⟨_,rfl,Dm,rfl,⟨_,SqL.of (s8 _ _ mx7.d)⟩,fun D hD=>?_⟩
 have hL0:=(mx7.same s8).lnh.lns
 have sD:=same_new hD (.lst [])
 have nDh:D≠h0:=Ne.symm (ne_of_none eh0 hD)
 refine comp_list (xs:=as.map V.ref) (fun i zs H'=>Same H8 H'∧H' D=some (.lst zs)∧LnH K H' zs (X.take i)∧∀x∈zs,x≠.ref D∧∃b,x=.ref b∧H8 b=none) ⟨sD,upd_same,by rw[List.take_zero];exact .nil,fun x hx=>by cases hx⟩ (fun i zs H' h=>h.2.1) (fun i zs H' _ h=>h.1.seq (SqL.of (s8 _ _ mx7.d))) ?_ ?_
 ·rintro i zs x H2 hx ⟨s2,e2,G2,n2⟩ C' hC'
  have hi:i < X.length:=by have:=(List.getElem?_eq_some_iff.mp hx).1;have:=hL0.l;omega
  have hc:X[i]?=some X[i]:=List.getElem?_eq_getElem hi
  obtain⟨ra,rx,rfl,era,Sra⟩:=(hL0.same s2).r i x _ hx hc
  have lz:=G2.l
  rw[List.length_take] at lz
  refine⟨keep1.1,keep1.2,iteT ?_⟩
  refine⟨_,rfl,ra,rx,rfl,.inl era,fun L hL=>?_⟩
  have sL:=same_new hL (.lst rx)
  have eL:upd H2 L (.lst rx) L=some (.lst rx):=upd_same
  generalize upd H2 L (.lst rx)=H3' at sL eL ⊢
  have e23:=sL _ _ e2
  have nLK:L≠D:=Ne.symm (ne_of_none e2 hL)
  refine⟨e23,small1000 (by omega),hC' _ _ ⟨(s2.trans sL).change hD,upd_same,?_,fun y hy=>?_⟩⟩
  ·rw[List.take_add_one,hc]
   refine((G2.same sL).snoc eL (Sra.same sL)).upd e23 fun y hy=>?_
   rcases List.mem_append.mp hy with z | z
   ·exact(n2 y z).1
   ·have:y=.ref L:=by simpa using z
    rw[this];exact fun z=>nLK (by injection z)
  ·rcases List.mem_append.mp hy with z | z
   ·exact n2 y z
   ·have:y=.ref L:=by simpa using z
    rw[this];exact⟨fun z=>nLK (by injection z),L,rfl,s2.free hL⟩
 rintro zm H9 ⟨s9,e9,G9,n9⟩
 rw[hL0.l,List.take_length] at G9
 clear hL0 sD
 refine⟨_,rfl,lc,yc,rfl,.inl (SqL.of ((s8.trans s9) _ _ elc)),fun h2 hh2=>?_⟩
 have sA:=same_new hh2 (.lst yc)
 have eh2:upd H9 h2 (.lst yc) h2=some (.lst yc):=upd_same
 generalize upd H9 h2 (.lst yc)=HA at sA eh2 ⊢
 refine⟨by show 3≤sizeLine;decide,fun T0 hT0=>?_⟩
 have sB:=same_new hT0 (.tup [.ref h0,.ref D,.ref h2])
 have eT0:upd HA T0 (.tup [.ref h0,.ref D,.ref h2]) T0=some (.tup [.ref h0,.ref D,.ref h2]):=upd_same
 generalize upd HA T0 (.tup [.ref h0,.ref D,.ref h2])=HB at sB eT0 ⊢
 have sAB:=sA.trans sB
 have s9B:=s9.trans sAB
 have s8B:=s8.trans s9B
 have lz:=G9.l
 obtain⟨r0,x0,e0,hr0,F0⟩:=G9.at (Mq.getL (show 0 < X.length by omega))
 obtain⟨_,r0',er0,nr0⟩:=n9 _ (List.mem_of_getElem? e0)
 have:r0=r0':=by injection er0
 subst this
 have n20:h2≠h0:=fun z=>by rw[z,s9 _ _ eh0] at hh2;cases hh2
 have n2r:h2≠r0:=fun z=>by rw[z,hr0] at hh2;cases hh2
 have nr00:r0≠h0:=fun z=>by rw[z,eh0] at nr0;cases nr0
 have ehB:=s9B _ _ eh0
 have erB:=sAB _ _ hr0
 have e2B:=sB _ _ eh2
 have eDB:=sAB _ _ e9
 have GB:=G9.same sAB
 have FCB:=FC.same s8B
 show tSeq _ _ _ [some (.ref a),some (.bl fr),some (.int (m:Int)),some (.ref le),some (.ref lp),some (.ref Dm),some (.ref lc),some (.ref T0),none,none,none,none,none,none] HB
 have hTS:=SqT.of (K:=K) eT0
 refine⟨_,rfl,T0,_,0,_,rfl,rfl,hTS,rfl,_,rfl,T0,_,1,_,rfl,rfl,hTS,rfl,_,rfl,T0,_,2,_,rfl,rfl,hTS,rfl,?_⟩
 intro tb dx htb hdx ndx
 have sN:Same HB (upd (upd HB dx (.own tb)) tb (.ins CT dx [])):=seq_make (K:=K) htb hdx ndx
 have lv:Lsts [h0,r0,h2] (upd (upd HB dx (.own tb)) tb (.ins CT dx [])):=fun b hb=>by
  simp only[List.mem_cons,List.not_mem_nil,or_false] at hb
  rcases hb with rfl | rfl | rfl
  ·exact⟨_,sN _ _ ehB⟩
  ·exact⟨_,sN _ _ erB⟩
  ·exact⟨_,sN _ _ e2B⟩
 refine⟨tb,dx,h0,D,h2,es,zm,yc,X,cs,rfl,upd_same,sN.seq (SqL.of ehB),sN.seq (SqL.of eDB),GB.lns.same sN,by omega,sN.seq (SqL.of e2B),FCB.same sN,[h0,r0,h2],lv,fun HC sC' TA=>⟨rfl,?_⟩⟩
 have sC:=same_make htb hdx ndx sC'
 have lvC:Lsts [h0,r0,h2] HC:=fun b hb=>by
  simp only[List.mem_cons,List.not_mem_nil,or_false] at hb
  rcases hb with rfl | rfl | rfl
  ·exact⟨_,sC _ _ ehB⟩
  ·exact⟨_,sC _ _ erB⟩
  ·exact⟨_,sC _ _ e2B⟩
 have ehC:=sC _ _ ehB
 have erC:=sC _ _ erB
 have e2C:=sC _ _ e2B
 have eDC:=sC _ _ eDB
 have eTC:=sC _ _ eT0
 clear sC' sN htb hdx ndx dx lv
 show tSeq _ _ _ [some (.ref a),some (.bl fr),some (.int (m:Int)),some (.ref le),some (.ref lp),some (.ref Dm),some (.ref lc),some (.ref T0),some (.ref tb),none,none,none,none,none] HC
 refine⟨_,rfl,T0,_,0,_,rfl,rfl,SqT.of eTC,rfl,.inl ⟨rfl,_,SqL.of ehC⟩,h0,_,_,rfl,rfl,ehC,small1000 (by rw[List.length_map];omega),?_⟩
 have x1:SX [h0,r0,h2] HC (upd HC h0 (.lst (es.map V.int++[.int 0]))):=(Same.refl HC).sx.write (by simp)
 have erD:upd HC h0 (.lst (es.map V.int++[.int 0])) r0=some (.lst x0):=by rw[upd_ne nr00];exact erC
 have e2D:upd HC h0 (.lst (es.map V.int++[.int 0])) h2=some (.lst yc):=by rw[upd_ne n20];exact e2C
 have eDD:upd HC h0 (.lst (es.map V.int++[.int 0])) D=some (.lst zm):=by rw[upd_ne nDh];exact eDC
 have eTD:upd HC h0 (.lst (es.map V.int++[.int 0])) T0=some (.tup [.ref h0,.ref D,.ref h2]):=by rw[upd_ne (fun z=>by rw[z,ehC] at eTC;cases eTC)];exact eTC
 generalize upd HC h0 (.lst (es.map V.int++[.int 0]))=HD at x1 erD e2D eDD eTD ⊢
 have lx0:=F0.length
 have at0:atI zm 0=some (.ref r0):=atI_nat e0
 have lrow:(X.getD 0 []).length=m:=DR.J.w _ (List.mem_of_getElem? (Mq.getL (show 0 < X.length by omega)))
 refine⟨_,rfl,T0,_,1,_,rfl,rfl,SqT.of eTD,rfl,D,zm,0,_,rfl,rfl,SqL.of eDD,at0,.inl ⟨rfl,_,SqL.of erD⟩,by show 2≤sizeLine;decide,fun t1 ht1=>?_⟩
 have sE:=same_new ht1 (.tup [.int 1,.int 1])
 have et1:upd HD t1 (.tup [.int 1,.int 1]) t1=some (.tup [.int 1,.int 1]):=upd_same
 generalize upd HD t1 (.tup [.int 1,.int 1])=HE at sE et1 ⊢
 refine⟨r0,_,_,rfl,rfl,sE _ _ erD,small1000 (by omega),?_⟩
 have x2:SX [h0,r0,h2] HC (upd HE r0 (.lst (x0++[.ref t1]))):=(x1.trans sE.sx).write (by simp)
 have e2F:upd HE r0 (.lst (x0++[.ref t1])) h2=some (.lst yc):=by rw[upd_ne n2r];exact sE _ _ e2D
 have eTF:upd HE r0 (.lst (x0++[.ref t1])) T0=some (.tup [.ref h0,.ref D,.ref h2]):=by rw[upd_ne (fun z=>by rw[z,erD] at eTD;cases eTD)];exact sE _ _ eTD
 generalize upd HE r0 (.lst (x0++[.ref t1]))=HF at x2 e2F eTF ⊢
 refine⟨by show 2≤sizeLine;decide,fun t2 ht2=>?_⟩
 have sG:=same_new ht2 (.tup [.int 7,.int 5])
 have et2:upd HF t2 (.tup [.int 7,.int 5]) t2=some (.tup [.int 7,.int 5]):=upd_same
 generalize upd HF t2 (.tup [.int 7,.int 5])=HG at sG et2 ⊢
 have lyc:0 < yc.length:=by rw[FC.length,lcs];omega
 have ix0:ixN yc.length 0=some 0:=ixN_nat lyc
 refine⟨_,rfl,T0,_,2,_,rfl,rfl,SqT.of (sG _ _ eTF),rfl,h2,yc,_,0,rfl,rfl,sG _ _ e2F,ix0,?_⟩
 have x3:SX [h0,r0,h2] HC (upd HG h2 (.lst (yc.set 0 (.ref t2)))):=(x2.trans sG.sx).write (by simp)
 generalize upd HG h2 (.lst (yc.set 0 (.ref t2)))=HI at x3 ⊢
 have TI:=(TA.sx lvC x3).at
 have s7I:Same H7 HI:=SX.same (s8B.trans sC) x3 fun b hb=>by
  simp only[List.mem_cons,List.not_mem_nil,or_false] at hb
  rcases hb with rfl | rfl | rfl
  ·exact hh0
  ·exact s8.free nr0
  ·exact(s8.trans s9).free hh2
 have eleI:=s7I _ _ ele7
 have elpI:=s7I _ _ elp7
 have rtpI:=rtp7.same s7I
 have mxI:=mx7.same s7I
 have elcI:=s7I _ _ elc
 have FCI:=FC.same s7I
 have s0I:=s07.trans s7I
 clear x1 x2 x3 erD e2D eDD eTD e2F eTF sE sG et1 et2 ht1 ht2 TA lvC ehC erC e2C eDC eTC ehB erB e2B eDB GB FCB hTS sC s8B s9B sAB sA sB eT0 hT0 eh2 hh2 e9 G9 n9 lz hr0 e0 F0 nr0 er0 n20 n2r nr00 s8 s9 eh0 hh0 hD nDh elp7 rtp7 mx7 ele7 elc FC s7I s07 lx0 lrow
 show tSeq _ _ _ [some (.ref a),some (.bl fr),some (.int (m:Int)),some (.ref le),some (.ref lp),some (.ref Dm),some (.ref lc),some (.ref T0),some (.ref tb),none,none,none,none,none] HI
 refine⟨_,rfl,_,rfl,_,rfl,by show 3≤sizeLine;decide,fun Tk hTk=>?_⟩
 have sJ:=same_new hTk (.tup [.ref le,.ref Dm,.ref lc])
 have eTk:upd HI Tk (.tup [.ref le,.ref Dm,.ref lc]) Tk=some (.tup [.ref le,.ref Dm,.ref lc]):=upd_same
 generalize upd HI Tk (.tup [.ref le,.ref Dm,.ref lc])=HJ at sJ eTk ⊢
 have elpJ:=sJ _ _ elpI
 have rtpJ:=rtpI.same sJ
 have elcJ:=sJ _ _ elcI
 have FCJ:=FCI.same sJ
 show tSeq _ _ _ [some (.ref a),some (.bl fr),some (.int (m:Int)),some (.ref le),some (.ref lp),some (.ref Dm),some (.ref lc),some (.ref T0),some (.ref tb),some (.ref Tk),none,none,none,none] HJ
 refine⟨_,rfl,_,rfl,1,(m:Int),rfl,⟨by omega,by omega,by omega,by omega⟩,fun E hE=>?_⟩
 rw[show ((m:Int) - 1).toNat=m - 1 by omega]
 have sE0:=same_new hE (.lst [])
 refine comp_range (lo:=1) (n:=m - 1) (fun i zs H'=>Same HJ H'∧H' E=some (.lst zs)∧Rts K H' zs (pus cs (i+1))) ⟨sE0,upd_same,.nil⟩ (fun i zs H' h=>h.2.1) ?_ ?_
 ·rintro i zs H2 hi ⟨s2,e2,R2⟩ C hC
  have hi1:1+i < cs.length:=by omega
  obtain⟨v,ev,fv⟩:=FCJ.at (Mq.getQ1 hi1)
  have lw:=(DR.rc _ (List.mem_of_getElem? (Mq.getQ1 hi1))).1
  have eP:pus cs (i+1+1)=pus cs (i+1)++oneU cs (i+1):=fm_succ _ _
  have lz:=R2.length
  have lp20:(pus cs (i+1)).length≤i+1:=pus_len cs (i+1)
  rw[show ((1:Int)+(i:Int))=((1+i:Nat):Int) by omega]
  refine⟨keep1.1,keep1.2,?_⟩
  have fv2:=s2.fq fv
  refine⟨_,rfl,_,rfl,lc,yc,_,_,rfl,rfl,SqL.of (s2 _ _ elcJ),atI_nat ev,v,_,0,_,rfl,rfl,fv2,rfl,rfl,_,rfl,?_⟩
  by_cases hz:(cs.getD (1+i) Mq.z0).1=0
  ·have eU:oneU cs (i+1)=[]:=by unfold oneU;rw[Nat.add_comm i 1,if_neg (fun h=>h.2 (low_zero lw hz))]
   refine L2.ifF (by rw[hz];rfl) (hC _ _ ⟨s2,e2,?_⟩)
   rw[eP,eU,List.append_nil];exact R2
  have eU:oneU cs (i+1)=[(.pu,0,((1+i:Nat):Int),cs.getD (1+i) Mq.z0)]:=by
   unfold oneU;rw[Nat.add_comm i 1,if_pos ⟨by omega,fun z=>hz (by rw[z])⟩]
  refine L2.ifT (by rw[show decide (V.int (cs.getD (1+i) Mq.z0).1=V.int 0)=false from decide_eq_false fun z=>hz (by injection z)];rfl) ?_
  refine⟨_,rfl,_,rfl,_,rfl,lc,yc,_,_,rfl,rfl,SqL.of (s2 _ _ elcJ),atI_nat ev,by show 4≤sizeLine;decide,fun T1 hT1=>?_⟩
  have s3:=same_new hT1 (.tup [.str "push",.int 0,.int ((1+i:Nat):Int),.ref v])
  have eT1:upd H2 T1 (.tup [.str "push",.int 0,.int ((1+i:Nat):Int),.ref v]) T1=some (.tup [.str "push",.int 0,.int ((1+i:Nat):Int),.ref v]):=upd_same
  generalize upd H2 T1 (.tup [.str "push",.int 0,.int ((1+i:Nat):Int),.ref v])=H3 at s3 eT1 ⊢
  have e3:=s3 _ _ e2
  refine⟨e3,small1000 (by omega),hC _ _ ⟨(s2.trans s3).change hE,upd_same,?_⟩⟩
  rw[eP,eU]
  exact(Rts.app (R2.same s3) (.cons (k:=.pu) (SqT.of eT1) (s3.fq fv2) .nil)).upd e3
 rintro zs HK ⟨sK,eE,RE⟩
 rw[show m - 1+1=m by omega] at RE
 have lts:=rtpJ.length
 have lzs:=RE.length
 have lpu:(pus cs m).length≤m:=pus_len cs m
 refine⟨lp,E,ts,zs,rfl,rfl,sK _ _ elpJ,eE,?_,fun du hdu=>?_⟩
 ·exact Nat.le_trans (show _≤100 by omega) (by decide)
 have sL:=same_new hdu (.lst (ts++zs))
 have edu:upd HK du (.lst (ts++zs)) du=some (.lst (ts++zs)):=upd_same
 generalize upd HK du (.lst (ts++zs))=HL at sL edu ⊢
 have RD0:Rts K HL (ts++zs) (netOf X cs m):=by
  rw[DR.net];exact Rts.app (rtpJ.same (sK.trans sL)) (RE.same sL)
 have sIL:=sJ.trans (sK.trans sL)
 have ldu:=RD0.length
 have eTkL:=(sK.trans sL) _ _ eTk
 have TL:=TI.same sIL
 have eleL:=sIL _ _ eleI
 have mxL:=mxI.same sIL
 have elcL:=sIL _ _ elcI
 have FCL:=FCI.same sIL
 have s0L:=s0I.trans sIL
 have NO:=DR.ok
 have lowN:∀x∈netOf X cs m,Mq.Low x.2.2.2:=fun x hx=>(DR.row x hx).1.2.2.2.2.1
 clear TI eleI elpI rtpI mxI elcI FCI sJ sK sL elpJ rtpJ elcJ FCJ eTk hTk hE sE0 eE RE hdu lts lzs lpu s0I sIL
 show tSeq _ _ _ [some (.ref a),some (.bl fr),some (.int (m:Int)),some (.ref le),some (.ref lp),some (.ref Dm),some (.ref lc),some (.ref T0),some (.ref tb),some (.ref Tk),some (.ref du),none,none,none] HL
 refine⟨_,rfl,du,_,rfl,.inl (SqL.of edu),_,_,rfl,rfl,_,rfl,?_⟩
 rw[ldu]
 by_cases h40:40 < (netOf X cs m).length
 ·refine L2.ifT (decide_eq_true (by omega)) ?_
  refine⟨_,rfl,tb,es,X,cs,m,bb,rfl,TL,les,NO,h40,fun HM sM=>⟨_,rfl,iteT ?_⟩⟩
  obtain⟨dx1,_,_,_,_,_,ht1,_⟩:=(TL.same sM).e
  refine⟨_,rfl,tb,dx1,_,rfl,ht1,(tflds_no _ _ _ (by decide +kernel) (by decide +kernel) (by decide +kernel)),tb,es,X,cs,rfl,TL.same sM,fun a1 HU sU n1 f1=>?_⟩
  refine⟨_,rfl,tb,dx1,_,rfl,sU _ _ ht1,(tflds_no _ _ _ (by decide +kernel) (by decide +kernel) (by decide +kernel)),tb,es,X,cs,rfl,(TL.same sM).same sU,by omega,fun a2 u2 HV sV f2 M2=>?_⟩
  refine⟨_,rfl,tb,dx1,_,rfl,(sU.trans sV) _ _ ht1,(tflds_no _ _ _ (by decide +kernel) (by decide +kernel) (by decide +kernel)),tb,es,X,cs,rfl,(TL.same sM).same (sU.trans sV),fun a3 y3 HW sW f3 F3=>?_⟩
  refine⟨by show 3≤sizeLine;decide,fun t3 ht3=>?_⟩
  have sX:=same_new ht3 (.tup [.ref a1,.ref a2,.ref a3])
  have f4:upd HW t3 (.tup [.ref a1,.ref a2,.ref a3]) t3=some (.tup [.ref a1,.ref a2,.ref a3]):=upd_same
  generalize upd HW t3 (.tup [.ref a1,.ref a2,.ref a3])=HX at sX f4 ⊢
  have sZ:=(sM).trans (sU.trans (sV.trans (sW.trans sX)))
  refine⟨_,rfl,rd_eqS (neg:=false) (kd_of (SqT.of f4) (SqL.of ((sV.trans (sW.trans sX)) _ _ f1)) (SqL.of ((sW.trans sX) _ _ f2)) (M2.lns.same (sW.trans sX)) (SqL.of (sX _ _ f3)) (F3.same sX)) (kd_of (SqT.of (sZ _ _ eTkL)) (SqL.of (sZ _ _ eleL)) (SqL.of (sZ _ _ mxL.d)) (mxL.same sZ).lnh.lns (SqL.of (sZ _ _ elcL)) (FCL.same sZ)) (kd_lay es X cs) (kd_depth es X cs) ?_⟩
  exact q _
 refine L2.ifF (decide_eq_false (by omega)) ?_
 have nl40:(netOf X cs m).length≤40:=by omega
 obtain⟨dxL,_,_,_,_,_,htL,_⟩:=TL.e
 refine⟨_,rfl,tb,dxL,_,rfl,htL,(tflds_no _ _ _ (by decide +kernel) (by decide +kernel) (by decide +kernel)),tb,es,X,cs,m,bb,rfl,TL,les,NO.s,NO.bO,NO.bC,NO.ng,.inl ⟨nl40,fun nn ll HM sM nnn nll ntM=>?_⟩⟩
 show tSeq _ _ _ [some (.ref a),some (.bl fr),some (.int (m:Int)),some (.ref le),some (.ref lp),some (.ref Dm),some (.ref lc),some (.ref T0),some (.ref tb),some (.ref Tk),some (.ref du),some (.ref nn),none,none] HM
 obtain⟨dn,hn⟩:=ntM.ob
 refine⟨_,rfl,nn,dn,_,rfl,hn,nflds_no _ _ (by decide +kernel) (by decide +kernel),nn,ll,_,_,rfl,ntM,_,rfl,rfl,_,rfl,L2.ifF (by simp) ?_⟩
 refine⟨_,rfl,_,rfl,nn,ll,du,(m:Int),_,_,rfl,ntM,SqL.of (sM _ _ edu),RD0.same sM,lowN,fun HN sN=>⟨_,rfl,iteF ?_⟩⟩
 have sLN:=sM.trans sN
 have ntN:=ntM.same sN
 refine⟨_,rfl,_,rfl,(m:Int),rfl,by omega,by omega,fun E2 hE2=>?_⟩
 rw[Int.toNat_natCast]
 have sE2:=same_new hE2 (.lst [])
 refine comp_range (n:=m) (fun i zs H'=>Same HN H'∧H' E2=some (.lst zs)∧zs=(upTo i).map V.int) ⟨sE2,upd_same,rfl⟩ (fun i zs H' h=>h.2.1) ?_ ?_
 ·rintro i zs H2 hi ⟨s2,e2,rfl⟩ C hC
  refine⟨keep1.1,keep1.2,iteT ?_⟩
  rw[Int.zero_add]
  refine⟨_,rfl,e2,small1000 (by rw[List.length_map,ints_len];omega),hC _ _ ⟨s2.change hE2,upd_same,?_⟩⟩
  unfold upTo
  rw[List.range_succ,List.map_append,List.map_append];rfl
 rintro zs2 HO' ⟨sO,eE2,rfl⟩
 have kb2:(4*bits fr+20)*(netOf X cs m).length+4*bits fr+30≤8900:=by
  have:(4*bits fr+20)*(netOf X cs m).length≤140*40:=Nat.mul_le_mul (by omega) nl40
  omega
 refine⟨nn,ll,E2,m,bits fr,bb,_,X,cs,rfl,ntN.same sO,fun d hd=>⟨(DR.row d hd).1,(DR.row d hd).2.1⟩,fun d hd=>(DR.row d hd).2.2,nl40,kb2,DR.sq,DR.eqM,DR.eqR,eE2,fun ta HP sP TP=>?_⟩
 have sLP:=sLN.trans (sO.trans sP)
 show tSeq _ _ _ [some (.ref a),some (.bl fr),some (.int (m:Int)),some (.ref le),some (.ref lp),some (.ref Dm),some (.ref lc),some (.ref T0),some (.ref tb),some (.ref Tk),some (.ref du),some (.ref nn),some (.ref ta),none] HP
 obtain⟨dxP,_,_,_,_,_,htP,_⟩:=TP.e
 refine⟨_,rfl,ta,dxP,_,rfl,htP,(tflds_no _ _ _ (by decide +kernel) (by decide +kernel) (by decide +kernel)),ta,upTo m,X,cs,rfl,TP,fun b1' HQ sQ n1 f1=>?_⟩
 refine⟨_,rfl,(m:Int),rfl,by omega,by omega,fun E3 hE3=>?_⟩
 rw[Int.toNat_natCast]
 have sE3:=same_new hE3 (.lst [])
 refine comp_range (n:=m) (fun i zs H'=>Same HQ H'∧H' E3=some (.lst zs)∧zs=(upTo i).map V.int) ⟨sE3,upd_same,rfl⟩ (fun i zs H' h=>h.2.1) ?_ ?_
 ·rintro i zs H2 hi ⟨s2,e2,rfl⟩ C hC
  refine⟨keep1.1,keep1.2,iteT ?_⟩
  rw[Int.zero_add]
  refine⟨_,rfl,e2,small1000 (by rw[List.length_map,ints_len];omega),hC _ _ ⟨s2.change hE3,upd_same,?_⟩⟩
  unfold upTo
  rw[List.range_succ,List.map_append,List.map_append];rfl
 rintro zs3 HR ⟨sR,eE3,rfl⟩
 have sPR:=sQ.trans sR
 refine rd_eqI (neg:=true) (SqL.of (sR _ _ f1)) (SqL.of eE3) ⟨_,rfl,iteF ?_⟩
 refine⟨_,rfl,ta,dxP,_,rfl,sPR _ _ htP,(tflds_no _ _ _ (by decide +kernel) (by decide +kernel) (by decide +kernel)),ta,upTo m,X,cs,rfl,TP.same sPR,by omega,fun b2' u2 HS sS f2 M2=>?_⟩
 have sLS:=sLP.trans (sPR.trans sS)
 refine⟨_,rfl,rd_eqM (neg:=true) (SqL.of f2) (SqL.of (sLS _ _ mxL.d)) M2.lns (mxL.same sLS).lnh.lns ⟨_,rfl,iteF ?_⟩⟩
 refine⟨_,rfl,ta,dxP,_,rfl,(sPR.trans sS) _ _ htP,(tflds_no _ _ _ (by decide +kernel) (by decide +kernel) (by decide +kernel)),ta,upTo m,X,cs,rfl,TP.same (sPR.trans sS),fun b3' y3 HT sT f3 F3=>?_⟩
 have sLT:=sLS.trans sT
 refine⟨_,rfl,rd_eqL (neg:=true) (SqL.of f3) (SqL.of (sLT _ _ elcL)) F3 (FCL.same sLT) ⟨_,rfl,L2.ifF rfl ?_⟩⟩
 have ntT:=ntN.same (sO.trans (sP.trans (sPR.trans (sS.trans sT))))
 clear sLP sPR sQ sR sS sT sP sO sE2 sE3 hE2 hE3 eE2 eE3 f1 f2 f3 M2 F3 TP htP sLS ntN
 refine(fun (hrest:∀(Hx:Hp),Same HL Hx→PySem.W.KIN.Hid ((?T:Hp→Prop) Hx))=>?main) ?rest
 case main=>
  refine⟨_,rfl,du,_,rfl,.inl (SqL.of (sLT _ _ edu)),_,_,rfl,rfl,_,rfl,?_⟩
  rw[ldu]
  by_cases h39:(netOf X cs m).length < 40
  ·refine L2.ifT (decide_eq_true (by omega)) ?_
   obtain⟨dnT,hnT⟩:=ntT.ob
   refine⟨_,rfl,nn,dnT,_,rfl,hnT,nflds_no _ _ (by decide +kernel) (by decide +kernel),by show 2≤sizeLine;decide,fun t5 ht5=>?_⟩
   have sU:=same_new ht5 (.tup [.int 1,.int 1])
   have e5:upd HT t5 (.tup [.int 1,.int 1]) t5=some (.tup [.int 1,.int 1]):=upd_same
   generalize upd HT t5 (.tup [.int 1,.int 1])=HU at sU e5 ⊢
   refine⟨by show 4≤sizeLine;decide,fun t6 ht6=>?_⟩
   have sV:=same_new ht6 (.tup [.str "push",.int 0,.int 0,.ref t5])
   have e6:upd HU t6 (.tup [.str "push",.int 0,.int 0,.ref t5]) t6=some (.tup [.str "push",.int 0,.int 0,.ref t5]):=upd_same
   generalize upd HU t6 (.tup [.str "push",.int 0,.int 0,.ref t5])=HV at sV e6 ⊢
   refine⟨t6,_,_,_,_,rfl,SqT.of e6,.pu,rfl,fun x HW sW nx rwx=>?_⟩
   have sTW:=sU.trans (sV.trans sW)
   have f5:Fq K HW t5 (1,1):=(sV.trans sW).fq (Fq.of e5)
   refine⟨nn,ll,x,t5,(m:Int),_,.pu,0,0,(1,1),rfl,ntT.same sTW,rwx,f5,⟨by show (0:Int)≤0;omega,by show (0:Int) < (m:Int);omega,by show (0:Int)≤0;omega,by show (0:Int) < (m:Int);omega,one_low,fun z=>absurd (show Kd.pu=Kd.pc from z) (by decide),one_bd.mono (by omega)⟩,.inl ⟨h39,fun HX sX ntX=>?_⟩⟩
   have sLX:=sameX_same (sLT.trans sTW) sX nll
   clear sX ntX
   exact(hrest HX sLX).out
  ·exact L2.ifF (decide_eq_false (by omega)) (hrest HT sLT).out
 case rest=>
 intro HX sLX
 refine⟨?_⟩
 obtain⟨dx2,_,_,_,_,_,ht2,_⟩:=(TL.same sLX).e
 refine⟨_,rfl,tb,dx2,_,rfl,ht2,(tflds_no _ _ _ (by decide +kernel) (by decide +kernel) (by decide +kernel)),tb,es,X,cs,m,bb,rfl,TL.same sLX,les,NO.s,NO.bO,NO.bC,NO.ng,.inl ⟨nl40,fun n2 l2 HY sY _ _ ntY=>?_⟩⟩
 have sLY:=sLX.trans sY
 refine⟨_,rfl,_,rfl,n2,l2,du,(m:Int),_,_,rfl,ntY,SqL.of (sLY _ _ edu),RD0.same sLY,lowN,fun HZ sZ'=>⟨_,rfl,iteT ?_⟩⟩
 have sLZ:=sLY.trans sZ'
 obtain⟨dx9,_,_,_,_,_,ht9,_⟩:=(TL.same sLZ).e
 refine⟨_,rfl,tb,dx9,_,rfl,ht9,(tflds_no _ _ _ (by decide +kernel) (by decide +kernel) (by decide +kernel)),tb,es,X,cs,rfl,TL.same sLZ,fun a1 HU sU n1 f1=>?_⟩
 refine⟨_,rfl,tb,dx9,_,rfl,sU _ _ ht9,(tflds_no _ _ _ (by decide +kernel) (by decide +kernel) (by decide +kernel)),tb,es,X,cs,rfl,(TL.same sLZ).same sU,by omega,fun a2 u2 HV sV f2 M2=>?_⟩
 refine⟨_,rfl,tb,dx9,_,rfl,(sU.trans sV) _ _ ht9,(tflds_no _ _ _ (by decide +kernel) (by decide +kernel) (by decide +kernel)),tb,es,X,cs,rfl,(TL.same sLZ).same (sU.trans sV),fun a3 y3 HW sW f3 F3=>?_⟩
 refine⟨by show 3≤sizeLine;decide,fun t3 ht3=>?_⟩
 have sX:=same_new ht3 (.tup [.ref a1,.ref a2,.ref a3])
 have f4:upd HW t3 (.tup [.ref a1,.ref a2,.ref a3]) t3=some (.tup [.ref a1,.ref a2,.ref a3]):=upd_same
 generalize upd HW t3 (.tup [.ref a1,.ref a2,.ref a3])=HX at sX f4 ⊢
 have sZ:=(sLZ).trans (sU.trans (sV.trans (sW.trans sX)))
 refine⟨_,rfl,rd_eqS (neg:=false) (kd_of (SqT.of f4) (SqL.of ((sV.trans (sW.trans sX)) _ _ f1)) (SqL.of ((sW.trans sX) _ _ f2)) (M2.lns.same (sW.trans sX)) (SqL.of (sX _ _ f3)) (F3.same sX)) (kd_of (SqT.of (sZ _ _ eTkL)) (SqL.of (sZ _ _ eleL)) (SqL.of (sZ _ _ mxL.d)) (mxL.same sZ).lnh.lns (SqL.of (sZ _ _ elcL)) (FCL.same sZ)) (kd_lay es X cs) (kd_depth es X cs) ?_⟩
 exact q _
end
end K56
namespace L2
open PySem PySem.W
theorem walkX_of {q:Program}{loose:List Str}{XP:(Str→Option Value)→Heap→Prop}{K:Params→PySem.W.Frag}{bs:List Addr}{n t:Nat}{r:RowW}{d:DefRec}{kwd:List (Str × Expr)}{run:Value→List Value→Sem Value}(e:∀P,bs=(K P).map (·.1))(h:WalkO q loose XP (fun w h=>(K w.params).In h) r d kwd run):WalkX q loose XP (PySem.W.X.obsZ bs) (PySem.W.X.valZ K n t) r d kwd run:=
 fun w s₀ s₁ mg mb G y a o pm cd doc dV kV h1 h2 h3 h4 h5 h6 args vals as' L=>h w s₀ s₁ mg mb G (InK.keeps w _ _ (PySem.W.X.z_facts e y).2.1 L.keeps) a o pm cd doc dV kV h1 h2 h3 h4 h5 h6 args vals as'
end L2
namespace K56
open PySem L2 Shp
abbrev sPiv:Stmt:=top 45
abbrev sClrRows:Stmt:=top 46
theorem ok_piv2 {P:Program}{w:World}{K:PySem.W.Frag}{mg:Str→Option Value}{base:Heap}{f:Addr}{fd:FuncData}{CX:CXT}{dV:Value}(F:FunD K "pivot_place" "pivot_place" sPiv dV f fd):FnOk P w K mg base CX 1 f fd ["rows","rank","column"] (fun _ _ _ _=>False):=⟨fun _ _ _ _ h=>h.elim,fun _ _ _ _ _ _ _ _ _ _ _ _ _ h=>h.elim⟩
theorem ok_clrr2 {P:Program}{w:World}{K:PySem.W.Frag}{mg:Str→Option Value}{base:Heap}{f:Addr}{fd:FuncData}{CX:CXT}{dV:Value}(F:FunD K "cleared_rows" "cleared_rows" sClrRows dV f fd):FnOk P w K mg base CX 2 f fd ["rows","rank","column","divisor"] (fun _ _ _ _=>False):=⟨fun _ _ _ _ h=>h.elim,fun _ _ _ _ _ _ _ _ _ _ _ _ _ h=>h.elim⟩
theorem all_mk {l:PySem.W.OpenLaw}{w:World}{K:PySem.W.Frag}{h:Heap}{mg:Str→Option Value}{fa:Addr}(X:K.In h)(G:h.Ns mainGlobals mg)(hfa:mg "law"=some (.ref fa)){c_Row:Addr}{c_Piece:Addr}{c_Push:Addr}{c_Hold:Addr}{c_Net:Addr}{c_Table:Addr}{c_OhmError:Addr}{c_TooMany:Addr}{f1:Addr}{od1 an1:Option Addr}{sl1:Array (Option Value)}{oc1 kV1 dc1 pm1 cd1 ct1:Value}{f2:Addr}{od2 an2:Option Addr}{sl2:Array (Option Value)}{oc2 kV2 dc2 pm2 cd2 ct2:Value}{f3:Addr}{od3 an3:Option Addr}{sl3:Array (Option Value)}{oc3 kV3 dc3 pm3 cd3 ct3:Value}{f4:Addr}{od4 an4:Option Addr}{sl4:Array (Option Value)}{oc4 kV4 dc4 pm4 cd4 ct4:Value}{T4:Addr}{oT4:Value}{dT4:Option Addr}{nT4:Nat}{sT4:Array (Option Value)}{tk4:Tok}{f5:Addr}{od5 an5:Option Addr}{sl5:Array (Option Value)}{oc5 kV5 dc5 pm5 cd5 ct5:Value}{f6:Addr}{od6 an6:Option Addr}{sl6:Array (Option Value)}{oc6 kV6 dc6 pm6 cd6 ct6:Value}{f7:Addr}{od7 an7:Option Addr}{sl7:Array (Option Value)}{oc7 kV7 dc7 pm7 cd7 ct7:Value}{f8:Addr}{od8 an8:Option Addr}{sl8:Array (Option Value)}{oc8 kV8 dc8 pm8 cd8 ct8:Value}{f9:Addr}{od9 an9:Option Addr}{sl9:Array (Option Value)}{oc9 kV9 dc9 pm9 cd9 ct9:Value}{f10:Addr}{od10 an10:Option Addr}{sl10:Array (Option Value)}{oc10 kV10 dc10 pm10 cd10 ct10:Value}{f11:Addr}{od11 an11:Option Addr}{sl11:Array (Option Value)}{oc11 kV11 dc11 pm11 cd11 ct11:Value}{f12:Addr}{od12 an12:Option Addr}{sl12:Array (Option Value)}{oc12 kV12 dc12 pm12 cd12 ct12:Value}{f13:Addr}{od13 an13:Option Addr}{sl13:Array (Option Value)}{oc13 kV13 dc13 pm13 cd13 ct13:Value}{f14:Addr}{od14 an14:Option Addr}{sl14:Array (Option Value)}{oc14 kV14 dc14 pm14 cd14 ct14:Value}{f15:Addr}{od15 an15:Option Addr}{sl15:Array (Option Value)}{oc15 kV15 dc15 pm15 cd15 ct15:Value}{f16:Addr}{od16 an16:Option Addr}{sl16:Array (Option Value)}{oc16 kV16 dc16 pm16 cd16 ct16:Value}{f17:Addr}{od17 an17:Option Addr}{sl17:Array (Option Value)}{oc17 kV17 dc17 pm17 cd17 ct17:Value}{f18:Addr}{od18 an18:Option Addr}{sl18:Array (Option Value)}{oc18 kV18 dc18 pm18 cd18 ct18:Value}{f19:Addr}{od19 an19:Option Addr}{sl19:Array (Option Value)}{oc19 kV19 dc19 pm19 cd19 ct19:Value}{f20:Addr}{od20 an20:Option Addr}{sl20:Array (Option Value)}{oc20 kV20 dc20 pm20 cd20 ct20:Value}{f21:Addr}{od21 an21:Option Addr}{sl21:Array (Option Value)}{oc21 kV21 dc21 pm21 cd21 ct21:Value}{f22:Addr}{od22 an22:Option Addr}{sl22:Array (Option Value)}{oc22 kV22 dc22 pm22 cd22 ct22:Value}{f23:Addr}{od23 an23:Option Addr}{sl23:Array (Option Value)}{oc23 kV23 dc23 pm23 cd23 ct23:Value}{f24:Addr}{od24 an24:Option Addr}{sl24:Array (Option Value)}{oc24 kV24 dc24 pm24 cd24 ct24:Value}{f25:Addr}{od25 an25:Option Addr}{sl25:Array (Option Value)}{oc25 kV25 dc25 pm25 cd25 ct25:Value}{f26:Addr}{od26 an26:Option Addr}{sl26:Array (Option Value)}{oc26 kV26 dc26 pm26 cd26 ct26:Value}{f27:Addr}{od27 an27:Option Addr}{sl27:Array (Option Value)}{oc27 kV27 dc27 pm27 cd27 ct27:Value}{f28:Addr}{od28 an28:Option Addr}{sl28:Array (Option Value)}{oc28 kV28 dc28 pm28 cd28 ct28:Value}{f29:Addr}{od29 an29:Option Addr}{sl29:Array (Option Value)}{oc29 kV29 dc29 pm29 cd29 ct29:Value}{f30:Addr}{od30 an30:Option Addr}{sl30:Array (Option Value)}{oc30 kV30 dc30 pm30 cd30 ct30:Value}{f31:Addr}{od31 an31:Option Addr}{sl31:Array (Option Value)}{oc31 kV31 dc31 pm31 cd31 ct31:Value}{f32:Addr}{od32 an32:Option Addr}{sl32:Array (Option Value)}{oc32 kV32 dc32 pm32 cd32 ct32:Value}{f33:Addr}{od33 an33:Option Addr}{sl33:Array (Option Value)}{oc33 kV33 dc33 pm33 cd33 ct33:Value}{f34:Addr}{od34 an34:Option Addr}{sl34:Array (Option Value)}{oc34 kV34 dc34 pm34 cd34 ct34:Value}{f35:Addr}{od35 an35:Option Addr}{sl35:Array (Option Value)}{oc35 kV35 dc35 pm35 cd35 ct35:Value}{f36:Addr}{od36 an36:Option Addr}{sl36:Array (Option Value)}{oc36 kV36 dc36 pm36 cd36 ct36:Value}{f37:Addr}{od37 an37:Option Addr}{sl37:Array (Option Value)}{oc37 kV37 dc37 pm37 cd37 ct37:Value}{f38:Addr}{od38 an38:Option Addr}{sl38:Array (Option Value)}{oc38 kV38 dc38 pm38 cd38 ct38:Value}{f39:Addr}{od39 an39:Option Addr}{sl39:Array (Option Value)}{oc39 kV39 dc39 pm39 cd39 ct39:Value}{f40:Addr}{od40 an40:Option Addr}{sl40:Array (Option Value)}{oc40 kV40 dc40 pm40 cd40 ct40:Value}{f41:Addr}{od41 an41:Option Addr}{sl41:Array (Option Value)}{oc41 kV41 dc41 pm41 cd41 ct41:Value}{f42:Addr}{od42 an42:Option Addr}{sl42:Array (Option Value)}{oc42 kV42 dc42 pm42 cd42 ct42:Value}{f43:Addr}{od43 an43:Option Addr}{sl43:Array (Option Value)}{oc43 kV43 dc43 pm43 cd43 ct43:Value}{f44:Addr}{od44 an44:Option Addr}{sl44:Array (Option Value)}{oc44 kV44 dc44 pm44 cd44 ct44:Value}{f45:Addr}{od45 an45:Option Addr}{sl45:Array (Option Value)}{oc45 kV45 dc45 pm45 cd45 ct45:Value}{f46:Addr}{od46 an46:Option Addr}{sl46:Array (Option Value)}{oc46 kV46 dc46 pm46 cd46 ct46:Value}{f47:Addr}{od47 an47:Option Addr}{sl47:Array (Option Value)}{oc47 kV47 dc47 pm47 cd47 ct47:Value}{f48:Addr}{od48 an48:Option Addr}{sl48:Array (Option Value)}{oc48 kV48 dc48 pm48 cd48 ct48:Value}{f49:Addr}{od49 an49:Option Addr}{sl49:Array (Option Value)}{oc49 kV49 dc49 pm49 cd49 ct49:Value}{f50:Addr}{od50 an50:Option Addr}{sl50:Array (Option Value)}{oc50 kV50 dc50 pm50 cd50 ct50:Value}{f51:Addr}{od51 an51:Option Addr}{sl51:Array (Option Value)}{oc51 kV51 dc51 pm51 cd51 ct51:Value}{f52:Addr}{od52 an52:Option Addr}{sl52:Array (Option Value)}{oc52 kV52 dc52 pm52 cd52 ct52:Value}{f53:Addr}{od53 an53:Option Addr}{sl53:Array (Option Value)}{oc53 kV53 dc53 pm53 cd53 ct53:Value}{f54:Addr}{od54 an54:Option Addr}{sl54:Array (Option Value)}{oc54 kV54 dc54 pm54 cd54 ct54:Value}{f55:Addr}{od55 an55:Option Addr}{sl55:Array (Option Value)}{oc55 kV55 dc55 pm55 cd55 ct55:Value}{f56:Addr}{od56 an56:Option Addr}{sl56:Array (Option Value)}{oc56 kV56 dc56 pm56 cd56 ct56:Value}{f57:Addr}{od57 an57:Option Addr}{sl57:Array (Option Value)}{oc57 kV57 dc57 pm57 cd57 ct57:Value}{f58:Addr}{od58 an58:Option Addr}{sl58:Array (Option Value)}{oc58 kV58 dc58 pm58 cd58 ct58:Value}{f59:Addr}{od59 an59:Option Addr}{sl59:Array (Option Value)}{oc59 kV59 dc59 pm59 cd59 ct59:Value}{f60:Addr}{od60 an60:Option Addr}{sl60:Array (Option Value)}{oc60 kV60 dc60 pm60 cd60 ct60:Value}{f61:Addr}{od61 an61:Option Addr}{sl61:Array (Option Value)}{oc61 kV61 dc61 pm61 cd61 ct61:Value}{f62:Addr}{od62 an62:Option Addr}{sl62:Array (Option Value)}{oc62 kV62 dc62 pm62 cd62 ct62:Value}{f63:Addr}{od63 an63:Option Addr}{sl63:Array (Option Value)}{oc63 kV63 dc63 pm63 cd63 ct63:Value}{f64:Addr}{od64 an64:Option Addr}{sl64:Array (Option Value)}{oc64 kV64 dc64 pm64 cd64 ct64:Value}{f65:Addr}{od65 an65:Option Addr}{sl65:Array (Option Value)}{oc65 kV65 dc65 pm65 cd65 ct65:Value}{f66:Addr}{od66 an66:Option Addr}{sl66:Array (Option Value)}{oc66 kV66 dc66 pm66 cd66 ct66:Value}{f67:Addr}{od67 an67:Option Addr}{sl67:Array (Option Value)}{oc67 kV67 dc67 pm67 cd67 ct67:Value}{aO:Addr}{dO:Option Addr}{nO:Nat}{sO:Array (Option Value)}{t2 t3:Tok}{aN:Addr}{dN:Option Addr}{nN:Nat}{sN:Array (Option Value)}{t0 t1:Tok}{tM:Tok}{tR:Tok}(y_Row:PySem.W.nsIn K mainGlobals "Row"=some (some (.ref c_Row)))(y_Piece:PySem.W.nsIn K mainGlobals "Piece"=some (some (.ref c_Piece)))(y_Push:PySem.W.nsIn K mainGlobals "Push"=some (some (.ref c_Push)))(y_Hold:PySem.W.nsIn K mainGlobals "Hold"=some (some (.ref c_Hold)))(y_Net:PySem.W.nsIn K mainGlobals "Net"=some (some (.ref c_Net)))(y_Table:PySem.W.nsIn K mainGlobals "Table"=some (some (.ref c_Table)))(y_OhmError:PySem.W.nsIn K mainGlobals "OhmError"=some (some (.ref c_OhmError)))(y_TooMany:PySem.W.nsIn K mainGlobals "TooMany"=some (some (.ref c_TooMany)))(a1:PySem.W.nsIn K mainGlobals "is_whole"=some (some (.ref f1)))(l1:K.lookup f1=some ⟨oc1,od1,.func (PySem.W.fnOf "is_whole" "is_whole" (defArgs sWhole) (defBody sWhole) (defScope sWhole) .none kV1 dc1 pm1 an1 cd1 ct1),sl1⟩)(c1:PySem.W.codeIn K cd1 "is_whole"=true)(k1:PySem.W.keepIn K (.ref f1)=true)(a2:PySem.W.nsIn K mainGlobals "greatest_common"=some (some (.ref f2)))(l2:K.lookup f2=some ⟨oc2,od2,.func (PySem.W.fnOf "greatest_common" "greatest_common" (defArgs sGc) (defBody sGc) (defScope sGc) .none kV2 dc2 pm2 an2 cd2 ct2),sl2⟩)(c2:PySem.W.codeIn K cd2 "greatest_common"=true)(k2:PySem.W.keepIn K (.ref f2)=true)(a3:PySem.W.nsIn K mainGlobals "under"=some (some (.ref f3)))(l3:K.lookup f3=some ⟨oc3,od3,.func (PySem.W.fnOf "under" "under" (defArgs sUnder) (defBody sUnder) (defScope sUnder) .none kV3 dc3 pm3 an3 cd3 ct3),sl3⟩)(c3:PySem.W.codeIn K cd3 "under"=true)(k3:PySem.W.keepIn K (.ref f3)=true)(a4:PySem.W.nsIn K mainGlobals "fraction"=some (some (.ref f4)))(l4:K.lookup f4=some ⟨oc4,od4,.func (PySem.W.fnOf "fraction" "fraction" (defArgs sFrac) (defBody sFrac) (defScope sFrac) (.ref T4) kV4 dc4 pm4 an4 cd4 ct4),sl4⟩)(c4:PySem.W.codeIn K cd4 "fraction"=true)(k4:PySem.W.keepIn K (.ref f4)=true)(lt4:K.lookup T4=some ⟨oT4,dT4,.seq #[.int 1 tk4] nT4,sT4⟩)(a5:PySem.W.nsIn K mainGlobals "minus"=some (some (.ref f5)))(l5:K.lookup f5=some ⟨oc5,od5,.func (PySem.W.fnOf "minus" "minus" (defArgs sMinus) (defBody sMinus) (defScope sMinus) .none kV5 dc5 pm5 an5 cd5 ct5),sl5⟩)(c5:PySem.W.codeIn K cd5 "minus"=true)(k5:PySem.W.keepIn K (.ref f5)=true)(a6:PySem.W.nsIn K mainGlobals "plus"=some (some (.ref f6)))(l6:K.lookup f6=some ⟨oc6,od6,.func (PySem.W.fnOf "plus" "plus" (defArgs sPlus) (defBody sPlus) (defScope sPlus) .none kV6 dc6 pm6 an6 cd6 ct6),sl6⟩)(c6:PySem.W.codeIn K cd6 "plus"=true)(k6:PySem.W.keepIn K (.ref f6)=true)(a7:PySem.W.nsIn K mainGlobals "over"=some (some (.ref f7)))(l7:K.lookup f7=some ⟨oc7,od7,.func (PySem.W.fnOf "over" "over" (defArgs sOver) (defBody sOver) (defScope sOver) .none kV7 dc7 pm7 an7 cd7 ct7),sl7⟩)(c7:PySem.W.codeIn K cd7 "over"=true)(k7:PySem.W.keepIn K (.ref f7)=true)(a8:PySem.W.nsIn K mainGlobals "is_fraction"=some (some (.ref f8)))(l8:K.lookup f8=some ⟨oc8,od8,.func (PySem.W.fnOf "is_fraction" "is_fraction" (defArgs sIsF) (defBody sIsF) (defScope sIsF) .none kV8 dc8 pm8 an8 cd8 ct8),sl8⟩)(c8:PySem.W.codeIn K cd8 "is_fraction"=true)(k8:PySem.W.keepIn K (.ref f8)=true)(a9_0:PySem.W.findIn K (.ref c_Piece) "__init__"=some (some (.ref f9)))(a9_1:PySem.W.findIn K (.ref c_Push) "__init__"=some (some (.ref f9)))(a9_2:PySem.W.findIn K (.ref c_Hold) "__init__"=some (some (.ref f9)))(i9:PySem.W.isFn K (.ref f9)=true)(l9:K.lookup f9=some ⟨oc9,od9,.func (PySem.W.fnOf "__init__" "Row.__init__" (defArgs sRInit) (defBody sRInit) (defScope sRInit) .none kV9 dc9 pm9 an9 cd9 ct9),sl9⟩)(c9:PySem.W.codeIn K cd9 "Row.__init__"=true)(k9:PySem.W.keepIn K (.ref f9)=true)(a10_0:PySem.W.findIn K (.ref c_Piece) "word"=some (some (.ref f10)))(i10:PySem.W.isFn K (.ref f10)=true)(l10:K.lookup f10=some ⟨oc10,od10,.func (PySem.W.fnOf "word" "Piece.word" (defArgs sWord_pc) (defBody sWord_pc) (defScope sWord_pc) .none kV10 dc10 pm10 an10 cd10 ct10),sl10⟩)(c10:PySem.W.codeIn K cd10 "Piece.word"=true)(k10:PySem.W.keepIn K (.ref f10)=true)(a11_0:PySem.W.findIn K (.ref c_Push) "word"=some (some (.ref f11)))(i11:PySem.W.isFn K (.ref f11)=true)(l11:K.lookup f11=some ⟨oc11,od11,.func (PySem.W.fnOf "word" "Push.word" (defArgs sWord_pu) (defBody sWord_pu) (defScope sWord_pu) .none kV11 dc11 pm11 an11 cd11 ct11),sl11⟩)(c11:PySem.W.codeIn K cd11 "Push.word"=true)(k11:PySem.W.keepIn K (.ref f11)=true)(a12_0:PySem.W.findIn K (.ref c_Hold) "word"=some (some (.ref f12)))(i12:PySem.W.isFn K (.ref f12)=true)(l12:K.lookup f12=some ⟨oc12,od12,.func (PySem.W.fnOf "word" "Hold.word" (defArgs sWord_ho) (defBody sWord_ho) (defScope sWord_ho) .none kV12 dc12 pm12 an12 cd12 ct12),sl12⟩)(c12:PySem.W.codeIn K cd12 "Hold.word"=true)(k12:PySem.W.keepIn K (.ref f12)=true)(a13_0:PySem.W.findIn K (.ref c_Piece) "joins"=some (some (.ref f13)))(i13:PySem.W.isFn K (.ref f13)=true)(l13:K.lookup f13=some ⟨oc13,od13,.func (PySem.W.fnOf "joins" "Piece.joins" (defArgs sJoins_pc) (defBody sJoins_pc) (defScope sJoins_pc) .none kV13 dc13 pm13 an13 cd13 ct13),sl13⟩)(c13:PySem.W.codeIn K cd13 "Piece.joins"=true)(k13:PySem.W.keepIn K (.ref f13)=true)(a14_0:PySem.W.findIn K (.ref c_Push) "joins"=some (some (.ref f14)))(i14:PySem.W.isFn K (.ref f14)=true)(l14:K.lookup f14=some ⟨oc14,od14,.func (PySem.W.fnOf "joins" "Push.joins" (defArgs sJoins_pu) (defBody sJoins_pu) (defScope sJoins_pu) .none kV14 dc14 pm14 an14 cd14 ct14),sl14⟩)(c14:PySem.W.codeIn K cd14 "Push.joins"=true)(k14:PySem.W.keepIn K (.ref f14)=true)(a15_0:PySem.W.findIn K (.ref c_Hold) "joins"=some (some (.ref f15)))(i15:PySem.W.isFn K (.ref f15)=true)(l15:K.lookup f15=some ⟨oc15,od15,.func (PySem.W.fnOf "joins" "Hold.joins" (defArgs sJoins_ho) (defBody sJoins_ho) (defScope sJoins_ho) .none kV15 dc15 pm15 an15 cd15 ct15),sl15⟩)(c15:PySem.W.codeIn K cd15 "Hold.joins"=true)(k15:PySem.W.keepIn K (.ref f15)=true)(a16_0:PySem.W.findIn K (.ref c_Piece) "told"=some (some (.ref f16)))(a16_1:PySem.W.findIn K (.ref c_Push) "told"=some (some (.ref f16)))(a16_2:PySem.W.findIn K (.ref c_Hold) "told"=some (some (.ref f16)))(i16:PySem.W.isFn K (.ref f16)=true)(l16:K.lookup f16=some ⟨oc16,od16,.func (PySem.W.fnOf "told" "Row.told" (defArgs sRTold) (defBody sRTold) (defScope sRTold) .none kV16 dc16 pm16 an16 cd16 ct16),sl16⟩)(c16:PySem.W.codeIn K cd16 "Row.told"=true)(k16:PySem.W.keepIn K (.ref f16)=true)(a17:PySem.W.nsIn K mainGlobals "row_of"=some (some (.ref f17)))(l17:K.lookup f17=some ⟨oc17,od17,.func (PySem.W.fnOf "row_of" "row_of" (defArgs sRowOf) (defBody sRowOf) (defScope sRowOf) .none kV17 dc17 pm17 an17 cd17 ct17),sl17⟩)(c17:PySem.W.codeIn K cd17 "row_of"=true)(k17:PySem.W.keepIn K (.ref f17)=true)(a18:PySem.W.nsIn K mainGlobals "is_piece_size"=some (some (.ref f18)))(l18:K.lookup f18=some ⟨oc18,od18,.func (PySem.W.fnOf "is_piece_size" "is_piece_size" (defArgs sPS) (defBody sPS) (defScope sPS) .none kV18 dc18 pm18 an18 cd18 ct18),sl18⟩)(c18:PySem.W.codeIn K cd18 "is_piece_size"=true)(k18:PySem.W.keepIn K (.ref f18)=true)(a19:PySem.W.nsIn K mainGlobals "is_number_below"=some (some (.ref f19)))(l19:K.lookup f19=some ⟨oc19,od19,.func (PySem.W.fnOf "is_number_below" "is_number_below" (defArgs sNB) (defBody sNB) (defScope sNB) .none kV19 dc19 pm19 an19 cd19 ct19),sl19⟩)(c19:PySem.W.codeIn K cd19 "is_number_below"=true)(k19:PySem.W.keepIn K (.ref f19)=true)(a20:PySem.W.nsIn K mainGlobals "refuse_size"=some (some (.ref f20)))(l20:K.lookup f20=some ⟨oc20,od20,.func (PySem.W.fnOf "refuse_size" "refuse_size" (defArgs sRS) (defBody sRS) (defScope sRS) .none kV20 dc20 pm20 an20 cd20 ct20),sl20⟩)(c20:PySem.W.codeIn K cd20 "refuse_size"=true)(k20:PySem.W.keepIn K (.ref f20)=true)(a21:PySem.W.nsIn K mainGlobals "refuse_points"=some (some (.ref f21)))(l21:K.lookup f21=some ⟨oc21,od21,.func (PySem.W.fnOf "refuse_points" "refuse_points" (defArgs sRP) (defBody sRP) (defScope sRP) .none kV21 dc21 pm21 an21 cd21 ct21),sl21⟩)(c21:PySem.W.codeIn K cd21 "refuse_points"=true)(k21:PySem.W.keepIn K (.ref f21)=true)(a22_0:PySem.W.findIn K (.ref c_Net) "__init__"=some (some (.ref f22)))(i22:PySem.W.isFn K (.ref f22)=true)(l22:K.lookup f22=some ⟨oc22,od22,.func (PySem.W.fnOf "__init__" "Net.__init__" (defArgs sNInit) (defBody sNInit) (defScope sNInit) .none kV22 dc22 pm22 an22 cd22 ct22),sl22⟩)(c22:PySem.W.codeIn K cd22 "Net.__init__"=true)(k22:PySem.W.keepIn K (.ref f22)=true)(a23_0:PySem.W.findIn K (.ref c_Net) "many"=some (some (.ref f23)))(i23:PySem.W.isFn K (.ref f23)=true)(l23:K.lookup f23=some ⟨oc23,od23,.func (PySem.W.fnOf "many" "Net.many" (defArgs sMany) (defBody sMany) (defScope sMany) .none kV23 dc23 pm23 an23 cd23 ct23),sl23⟩)(c23:PySem.W.codeIn K cd23 "Net.many"=true)(k23:PySem.W.keepIn K (.ref f23)=true)(a24_0:PySem.W.findIn K (.ref c_Net) "count"=some (some (.ref f24)))(i24:PySem.W.isFn K (.ref f24)=true)(l24:K.lookup f24=some ⟨oc24,od24,.func (PySem.W.fnOf "count" "Net.count" (defArgs sCount) (defBody sCount) (defScope sCount) .none kV24 dc24 pm24 an24 cd24 ct24),sl24⟩)(c24:PySem.W.codeIn K cd24 "Net.count"=true)(k24:PySem.W.keepIn K (.ref f24)=true)(a25_0:PySem.W.findIn K (.ref c_Net) "told"=some (some (.ref f25)))(i25:PySem.W.isFn K (.ref f25)=true)(l25:K.lookup f25=some ⟨oc25,od25,.func (PySem.W.fnOf "told" "Net.told" (defArgs sNTold) (defBody sNTold) (defScope sNTold) .none kV25 dc25 pm25 an25 cd25 ct25),sl25⟩)(c25:PySem.W.codeIn K cd25 "Net.told"=true)(k25:PySem.W.keepIn K (.ref f25)=true)(a26_0:PySem.W.findIn K (.ref c_Net) "add"=some (some (.ref f26)))(i26:PySem.W.isFn K (.ref f26)=true)(l26:K.lookup f26=some ⟨oc26,od26,.func (PySem.W.fnOf "add" "Net.add" (defArgs sAdd) (defBody sAdd) (defScope sAdd) .none kV26 dc26 pm26 an26 cd26 ct26),sl26⟩)(c26:PySem.W.codeIn K cd26 "Net.add"=true)(k26:PySem.W.keepIn K (.ref f26)=true)(a27_0:PySem.W.findIn K (.ref c_Net) "rows"=some (some (.ref f27)))(i27:PySem.W.isFn K (.ref f27)=true)(l27:K.lookup f27=some ⟨oc27,od27,.func (PySem.W.fnOf "rows" "Net.rows" (defArgs sRows) (defBody sRows) (defScope sRows) .none kV27 dc27 pm27 an27 cd27 ct27),sl27⟩)(c27:PySem.W.codeIn K cd27 "Net.rows"=true)(k27:PySem.W.keepIn K (.ref f27)=true)(a28:PySem.W.nsIn K mainGlobals "joined"=some (some (.ref f28)))(l28:K.lookup f28=some ⟨oc28,od28,.func (PySem.W.fnOf "joined" "joined" (defArgs sJoined) (defBody sJoined) (defScope sJoined) .none kV28 dc28 pm28 an28 cd28 ct28),sl28⟩)(c28:PySem.W.codeIn K cd28 "joined"=true)(k28:PySem.W.keepIn K (.ref f28)=true)(a29:PySem.W.nsIn K mainGlobals "marks_of"=some (some (.ref f29)))(l29:K.lookup f29=some ⟨oc29,od29,.func (PySem.W.fnOf "marks_of" "marks_of" (defArgs sMarks) (defBody sMarks) (defScope sMarks) .none kV29 dc29 pm29 an29 cd29 ct29),sl29⟩)(c29:PySem.W.codeIn K cd29 "marks_of"=true)(k29:PySem.W.keepIn K (.ref f29)=true)(a30:PySem.W.nsIn K mainGlobals "groups"=some (some (.ref f30)))(l30:K.lookup f30=some ⟨oc30,od30,.func (PySem.W.fnOf "groups" "groups" (defArgs sGroups) (defBody sGroups) (defScope sGroups) .none kV30 dc30 pm30 an30 cd30 ct30),sl30⟩)(c30:PySem.W.codeIn K cd30 "groups"=true)(k30:PySem.W.keepIn K (.ref f30)=true)(a31:PySem.W.nsIn K mainGlobals "refuse_holds"=some (some (.ref f31)))(l31:K.lookup f31=some ⟨oc31,od31,.func (PySem.W.fnOf "refuse_holds" "refuse_holds" (defArgs sRHo) (defBody sRHo) (defScope sRHo) .none kV31 dc31 pm31 an31 cd31 ct31),sl31⟩)(c31:PySem.W.codeIn K cd31 "refuse_holds"=true)(k31:PySem.W.keepIn K (.ref f31)=true)(a32:PySem.W.nsIn K mainGlobals "in_wholes"=some (some (.ref f32)))(l32:K.lookup f32=some ⟨oc32,od32,.func (PySem.W.fnOf "in_wholes" "in_wholes" (defArgs sIW) (defBody sIW) (defScope sIW) .none kV32 dc32 pm32 an32 cd32 ct32),sl32⟩)(c32:PySem.W.codeIn K cd32 "in_wholes"=true)(k32:PySem.W.keepIn K (.ref f32)=true)(a33:PySem.W.nsIn K mainGlobals "over_pivot"=some (some (.ref f33)))(l33:K.lookup f33=some ⟨oc33,od33,.func (PySem.W.fnOf "over_pivot" "over_pivot" (defArgs sOverP) (defBody sOverP) (defScope sOverP) .none kV33 dc33 pm33 an33 cd33 ct33),sl33⟩)(c33:PySem.W.codeIn K cd33 "over_pivot"=true)(k33:PySem.W.keepIn K (.ref f33)=true)(a34:PySem.W.nsIn K mainGlobals "pivot_place"=some (some (.ref f34)))(l34:K.lookup f34=some ⟨oc34,od34,.func (PySem.W.fnOf "pivot_place" "pivot_place" (defArgs sPiv) (defBody sPiv) (defScope sPiv) .none kV34 dc34 pm34 an34 cd34 ct34),sl34⟩)(c34:PySem.W.codeIn K cd34 "pivot_place"=true)(k34:PySem.W.keepIn K (.ref f34)=true)(a35:PySem.W.nsIn K mainGlobals "cleared_rows"=some (some (.ref f35)))(l35:K.lookup f35=some ⟨oc35,od35,.func (PySem.W.fnOf "cleared_rows" "cleared_rows" (defArgs sClrRows) (defBody sClrRows) (defScope sClrRows) .none kV35 dc35 pm35 an35 cd35 ct35),sl35⟩)(c35:PySem.W.codeIn K cd35 "cleared_rows"=true)(k35:PySem.W.keepIn K (.ref f35)=true)(a36:PySem.W.nsIn K mainGlobals "eliminated"=some (some (.ref f36)))(l36:K.lookup f36=some ⟨oc36,od36,.func (PySem.W.fnOf "eliminated" "eliminated" (defArgs sElim) (defBody sElim) (defScope sElim) .none kV36 dc36 pm36 an36 cd36 ct36),sl36⟩)(c36:PySem.W.codeIn K cd36 "eliminated"=true)(k36:PySem.W.keepIn K (.ref f36)=true)(a37:PySem.W.nsIn K mainGlobals "reduced"=some (some (.ref f37)))(l37:K.lookup f37=some ⟨oc37,od37,.func (PySem.W.fnOf "reduced" "reduced" (defArgs sRed) (defBody sRed) (defScope sRed) .none kV37 dc37 pm37 an37 cd37 ct37),sl37⟩)(c37:PySem.W.codeIn K cd37 "reduced"=true)(k37:PySem.W.keepIn K (.ref f37)=true)(a38:PySem.W.nsIn K mainGlobals "raise_at"=some (some (.ref f38)))(l38:K.lookup f38=some ⟨oc38,od38,.func (PySem.W.fnOf "raise_at" "raise_at" (defArgs sRaise) (defBody sRaise) (defScope sRaise) .none kV38 dc38 pm38 an38 cd38 ct38),sl38⟩)(c38:PySem.W.codeIn K cd38 "raise_at"=true)(k38:PySem.W.keepIn K (.ref f38)=true)(a39:PySem.W.nsIn K mainGlobals "enter_stream"=some (some (.ref f39)))(l39:K.lookup f39=some ⟨oc39,od39,.func (PySem.W.fnOf "enter_stream" "enter_stream" (defArgs sEnter) (defBody sEnter) (defScope sEnter) .none kV39 dc39 pm39 an39 cd39 ct39),sl39⟩)(c39:PySem.W.codeIn K cd39 "enter_stream"=true)(k39:PySem.W.keepIn K (.ref f39)=true)(a40:PySem.W.nsIn K mainGlobals "enter_piece"=some (some (.ref f40)))(l40:K.lookup f40=some ⟨oc40,od40,.func (PySem.W.fnOf "enter_piece" "enter_piece" (defArgs sEnterP) (defBody sEnterP) (defScope sEnterP) .none kV40 dc40 pm40 an40 cd40 ct40),sl40⟩)(c40:PySem.W.codeIn K cd40 "enter_piece"=true)(k40:PySem.W.keepIn K (.ref f40)=true)(a41:PySem.W.nsIn K mainGlobals "enter_push"=some (some (.ref f41)))(l41:K.lookup f41=some ⟨oc41,od41,.func (PySem.W.fnOf "enter_push" "enter_push" (defArgs sEnterU) (defBody sEnterU) (defScope sEnterU) .none kV41 dc41 pm41 an41 cd41 ct41),sl41⟩)(c41:PySem.W.codeIn K cd41 "enter_push"=true)(k41:PySem.W.keepIn K (.ref f41)=true)(a42_0:PySem.W.findIn K (.ref c_Table) "__init__"=some (some (.ref f42)))(i42:PySem.W.isFn K (.ref f42)=true)(l42:K.lookup f42=some ⟨oc42,od42,.func (PySem.W.fnOf "__init__" "Table.__init__" (defArgs sTInit) (defBody sTInit) (defScope sTInit) .none kV42 dc42 pm42 an42 cd42 ct42),sl42⟩)(c42:PySem.W.codeIn K cd42 "Table.__init__"=true)(k42:PySem.W.keepIn K (.ref f42)=true)(a43_0:PySem.W.findIn K (.ref c_Table) "ends"=some (some (.ref f43)))(i43:PySem.W.isFn K (.ref f43)=true)(l43:K.lookup f43=some ⟨oc43,od43,.func (PySem.W.fnOf "ends" "Table.ends" (defArgs sTEnds) (defBody sTEnds) (defScope sTEnds) .none kV43 dc43 pm43 an43 cd43 ct43),sl43⟩)(c43:PySem.W.codeIn K cd43 "Table.ends"=true)(k43:PySem.W.keepIn K (.ref f43)=true)(a44_0:PySem.W.findIn K (.ref c_Table) "matrix"=some (some (.ref f44)))(i44:PySem.W.isFn K (.ref f44)=true)(l44:K.lookup f44=some ⟨oc44,od44,.func (PySem.W.fnOf "matrix" "Table.matrix" (defArgs sTMat) (defBody sTMat) (defScope sTMat) .none kV44 dc44 pm44 an44 cd44 ct44),sl44⟩)(c44:PySem.W.codeIn K cd44 "Table.matrix"=true)(k44:PySem.W.keepIn K (.ref f44)=true)(a45_0:PySem.W.findIn K (.ref c_Table) "comes"=some (some (.ref f45)))(i45:PySem.W.isFn K (.ref f45)=true)(l45:K.lookup f45=some ⟨oc45,od45,.func (PySem.W.fnOf "comes" "Table.comes" (defArgs sTComes) (defBody sTComes) (defScope sTComes) .none kV45 dc45 pm45 an45 cd45 ct45),sl45⟩)(c45:PySem.W.codeIn K cd45 "Table.comes"=true)(k45:PySem.W.keepIn K (.ref f45)=true)(a46_0:PySem.W.findIn K (.ref c_Table) "net"=some (some (.ref f46)))(i46:PySem.W.isFn K (.ref f46)=true)(l46:K.lookup f46=some ⟨oc46,od46,.func (PySem.W.fnOf "net" "Table.net" (defArgs sTNet) (defBody sTNet) (defScope sTNet) .none kV46 dc46 pm46 an46 cd46 ct46),sl46⟩)(c46:PySem.W.codeIn K cd46 "Table.net"=true)(k46:PySem.W.keepIn K (.ref f46)=true)(a47:PySem.W.nsIn K mainGlobals "picked"=some (some (.ref f47)))(l47:K.lookup f47=some ⟨oc47,od47,.func (PySem.W.fnOf "picked" "picked" (defArgs sPick) (defBody sPick) (defScope sPick) .none kV47 dc47 pm47 an47 cd47 ct47),sl47⟩)(c47:PySem.W.codeIn K cd47 "picked"=true)(k47:PySem.W.keepIn K (.ref f47)=true)(a48:PySem.W.nsIn K mainGlobals "narrowed"=some (some (.ref f48)))(l48:K.lookup f48=some ⟨oc48,od48,.func (PySem.W.fnOf "narrowed" "narrowed" (defArgs sNar) (defBody sNar) (defScope sNar) .none kV48 dc48 pm48 an48 cd48 ct48),sl48⟩)(c48:PySem.W.codeIn K cd48 "narrowed"=true)(k48:PySem.W.keepIn K (.ref f48)=true)(a49:PySem.W.nsIn K mainGlobals "loose_points"=some (some (.ref f49)))(l49:K.lookup f49=some ⟨oc49,od49,.func (PySem.W.fnOf "loose_points" "loose_points" (defArgs sLoose) (defBody sLoose) (defScope sLoose) .none kV49 dc49 pm49 an49 cd49 ct49),sl49⟩)(c49:PySem.W.codeIn K cd49 "loose_points"=true)(k49:PySem.W.keepIn K (.ref f49)=true)(a50:PySem.W.nsIn K mainGlobals "refuse_ends"=some (some (.ref f50)))(l50:K.lookup f50=some ⟨oc50,od50,.func (PySem.W.fnOf "refuse_ends" "refuse_ends" (defArgs sREnds) (defBody sREnds) (defScope sREnds) .none kV50 dc50 pm50 an50 cd50 ct50),sl50⟩)(c50:PySem.W.codeIn K cd50 "refuse_ends"=true)(k50:PySem.W.keepIn K (.ref f50)=true)(a51:PySem.W.nsIn K mainGlobals "table_of_all"=some (some (.ref f51)))(l51:K.lookup f51=some ⟨oc51,od51,.func (PySem.W.fnOf "table_of_all" "table_of_all" (defArgs sTall) (defBody sTall) (defScope sTall) .none kV51 dc51 pm51 an51 cd51 ct51),sl51⟩)(c51:PySem.W.codeIn K cd51 "table_of_all"=true)(k51:PySem.W.keepIn K (.ref f51)=true)(a52:PySem.W.nsIn K mainGlobals "table_of"=some (some (.ref f52)))(l52:K.lookup f52=some ⟨oc52,od52,.func (PySem.W.fnOf "table_of" "table_of" (defArgs sTof) (defBody sTof) (defScope sTof) .none kV52 dc52 pm52 an52 cd52 ct52),sl52⟩)(c52:PySem.W.codeIn K cd52 "table_of"=true)(k52:PySem.W.keepIn K (.ref f52)=true)(a53:PySem.W.nsIn K mainGlobals "_law_nth"=some (some (.ref f53)))(l53:K.lookup f53=some ⟨oc53,od53,.func (PySem.W.fnOf "_law_nth" "_law_nth" (defArgs sNth) (defBody sNth) (defScope sNth) .none kV53 dc53 pm53 an53 cd53 ct53),sl53⟩)(c53:PySem.W.codeIn K cd53 "_law_nth"=true)(k53:PySem.W.keepIn K (.ref f53)=true)(a54:PySem.W.nsIn K mainGlobals "_law_divisor"=some (some (.ref f54)))(l54:K.lookup f54=some ⟨oc54,od54,.func (PySem.W.fnOf "_law_divisor" "_law_divisor" (defArgs sDiv) (defBody sDiv) (defScope sDiv) .none kV54 dc54 pm54 an54 cd54 ct54),sl54⟩)(c54:PySem.W.codeIn K cd54 "_law_divisor"=true)(k54:PySem.W.keepIn K (.ref f54)=true)(a55:PySem.W.nsIn K mainGlobals "_law_lowest"=some (some (.ref f55)))(l55:K.lookup f55=some ⟨oc55,od55,.func (PySem.W.fnOf "_law_lowest" "_law_lowest" (defArgs sLowest) (defBody sLowest) (defScope sLowest) .none kV55 dc55 pm55 an55 cd55 ct55),sl55⟩)(c55:PySem.W.codeIn K cd55 "_law_lowest"=true)(k55:PySem.W.keepIn K (.ref f55)=true)(a56:PySem.W.nsIn K mainGlobals "_law_is"=some (some (.ref f56)))(l56:K.lookup f56=some ⟨oc56,od56,.func (PySem.W.fnOf "_law_is" "_law_is" (defArgs sIs) (defBody sIs) (defScope sIs) .none kV56 dc56 pm56 an56 cd56 ct56),sl56⟩)(c56:PySem.W.codeIn K cd56 "_law_is"=true)(k56:PySem.W.keepIn K (.ref f56)=true)(a57:PySem.W.nsIn K mainGlobals "_law_an_int"=some (some (.ref f57)))(l57:K.lookup f57=some ⟨oc57,od57,.func (PySem.W.fnOf "_law_an_int" "_law_an_int" (defArgs sAnInt) (defBody sAnInt) (defScope sAnInt) .none kV57 dc57 pm57 an57 cd57 ct57),sl57⟩)(c57:PySem.W.codeIn K cd57 "_law_an_int"=true)(k57:PySem.W.keepIn K (.ref f57)=true)(a58:PySem.W.nsIn K mainGlobals "_law_size"=some (some (.ref f58)))(l58:K.lookup f58=some ⟨oc58,od58,.func (PySem.W.fnOf "_law_size" "_law_size" (defArgs sSize) (defBody sSize) (defScope sSize) .none kV58 dc58 pm58 an58 cd58 ct58),sl58⟩)(c58:PySem.W.codeIn K cd58 "_law_size"=true)(k58:PySem.W.keepIn K (.ref f58)=true)(a59:PySem.W.nsIn K mainGlobals "_law_amount"=some (some (.ref f59)))(l59:K.lookup f59=some ⟨oc59,od59,.func (PySem.W.fnOf "_law_amount" "_law_amount" (defArgs sAmount) (defBody sAmount) (defScope sAmount) .none kV59 dc59 pm59 an59 cd59 ct59),sl59⟩)(c59:PySem.W.codeIn K cd59 "_law_amount"=true)(k59:PySem.W.keepIn K (.ref f59)=true)(a60:PySem.W.nsIn K mainGlobals "_law_plus"=some (some (.ref f60)))(l60:K.lookup f60=some ⟨oc60,od60,.func (PySem.W.fnOf "_law_plus" "_law_plus" (defArgs sLPlus) (defBody sLPlus) (defScope sLPlus) .none kV60 dc60 pm60 an60 cd60 ct60),sl60⟩)(c60:PySem.W.codeIn K cd60 "_law_plus"=true)(k60:PySem.W.keepIn K (.ref f60)=true)(a61:PySem.W.nsIn K mainGlobals "_law_ends"=some (some (.ref f61)))(l61:K.lookup f61=some ⟨oc61,od61,.func (PySem.W.fnOf "_law_ends" "_law_ends" (defArgs sEnds) (defBody sEnds) (defScope sEnds) .none kV61 dc61 pm61 an61 cd61 ct61),sl61⟩)(c61:PySem.W.codeIn K cd61 "_law_ends"=true)(k61:PySem.W.keepIn K (.ref f61)=true)(a62:PySem.W.nsIn K mainGlobals "_law_pieces"=some (some (.ref f62)))(l62:K.lookup f62=some ⟨oc62,od62,.func (PySem.W.fnOf "_law_pieces" "_law_pieces" (defArgs sPieces) (defBody sPieces) (defScope sPieces) .none kV62 dc62 pm62 an62 cd62 ct62),sl62⟩)(c62:PySem.W.codeIn K cd62 "_law_pieces"=true)(k62:PySem.W.keepIn K (.ref f62)=true)(a63:PySem.W.nsIn K mainGlobals "_law_matrix"=some (some (.ref f63)))(l63:K.lookup f63=some ⟨oc63,od63,.func (PySem.W.fnOf "_law_matrix" "_law_matrix" (defArgs sMatrix) (defBody sMatrix) (defScope sMatrix) .none kV63 dc63 pm63 an63 cd63 ct63),sl63⟩)(c63:PySem.W.codeIn K cd63 "_law_matrix"=true)(k63:PySem.W.keepIn K (.ref f63)=true)(a64:PySem.W.nsIn K mainGlobals "_law_comes"=some (some (.ref f64)))(l64:K.lookup f64=some ⟨oc64,od64,.func (PySem.W.fnOf "_law_comes" "_law_comes" (defArgs sLComes) (defBody sLComes) (defScope sLComes) .none kV64 dc64 pm64 an64 cd64 ct64),sl64⟩)(c64:PySem.W.codeIn K cd64 "_law_comes"=true)(k64:PySem.W.keepIn K (.ref f64)=true)(a65:PySem.W.nsIn K mainGlobals "_law_too_many"=some (some (.ref f65)))(l65:K.lookup f65=some ⟨oc65,od65,.func (PySem.W.fnOf "_law_too_many" "_law_too_many" (defArgs sTooM) (defBody sTooM) (defScope sTooM) .none kV65 dc65 pm65 an65 cd65 ct65),sl65⟩)(c65:PySem.W.codeIn K cd65 "_law_too_many"=true)(k65:PySem.W.keepIn K (.ref f65)=true)(a66:PySem.W.nsIn K mainGlobals "_law_rows"=some (some (.ref f66)))(l66:K.lookup f66=some ⟨oc66,od66,.func (PySem.W.fnOf "_law_rows" "_law_rows" (defArgs sLRows) (defBody sLRows) (defScope sLRows) .none kV66 dc66 pm66 an66 cd66 ct66),sl66⟩)(c66:PySem.W.codeIn K cd66 "_law_rows"=true)(k66:PySem.W.keepIn K (.ref f66)=true)(a67:PySem.W.nsIn K mainGlobals "law"=some (some (.ref f67)))(l67:K.lookup f67=some ⟨oc67,od67,.func (PySem.W.fnOf "law" "law" (defArgs sLaw) (defBody sLaw) (defScope sLaw) .none kV67 dc67 pm67 an67 cd67 ct67),sl67⟩)(c67:PySem.W.codeIn K cd67 "law"=true)(k67:PySem.W.keepIn K (.ref f67)=true)(v_ONE:PySem.W.nsIn K mainGlobals "ONE"=some (some (.ref aO)))(v_NOUGHT:PySem.W.nsIn K mainGlobals "NOUGHT"=some (some (.ref aN)))(v_MOST_POINTS:PySem.W.nsIn K mainGlobals "MOST_POINTS"=some (some (.int 20 tM)))(v_MOST_ROWS:PySem.W.nsIn K mainGlobals "MOST_ROWS"=some (some (.int 40 tR)))(lO:K.lookup aO=some ⟨.type "tuple",dO,.seq #[.int 1 t2,.int 1 t3] nO,sO⟩)(lN:K.lookup aN=some ⟨.type "tuple",dN,.seq #[.int 0 t0,.int 1 t1] nN,sN⟩)(x1_TooMany:PySem.W.excIn K c_TooMany bmVE "ValueError.__new__"=true)(xm_T:PySem.W.exmOne K (.ref c_TooMany) (.ref c_OhmError)=some true)(pg_Piece:PySem.W.plainGet K c_Piece Str.empty=true)(hd_Piece:PySem.W.hasDictIn K c_Piece=true)(po_Piece:PySem.W.plainOver K c_Piece=true)(sa_Piece:PySem.W.findIn K (.ref c_Piece) "__setattr__"=some (some (.builtin "object.__setattr__")))(mk_Piece:PySem.W.makesIn K c_Piece=true)(kc_Piece:PySem.W.keepIn K (.ref c_Piece)=true)(t1_Piece:PySem.W.findIn K (.ref c_Piece) "__class__"=some (some (.builtin "object.__class__")))(t4_Piece:PySem.W.mroIn K c_Piece (.type "object")=some true)(na_Piece_start:PySem.W.findIn K (.ref c_Piece) "start"=some none)(na_Piece_goal:PySem.W.findIn K (.ref c_Piece) "goal"=some none)(na_Piece_size:PySem.W.findIn K (.ref c_Piece) "size"=some none)(pg_Push:PySem.W.plainGet K c_Push Str.empty=true)(hd_Push:PySem.W.hasDictIn K c_Push=true)(po_Push:PySem.W.plainOver K c_Push=true)(sa_Push:PySem.W.findIn K (.ref c_Push) "__setattr__"=some (some (.builtin "object.__setattr__")))(mk_Push:PySem.W.makesIn K c_Push=true)(kc_Push:PySem.W.keepIn K (.ref c_Push)=true)(t1_Push:PySem.W.findIn K (.ref c_Push) "__class__"=some (some (.builtin "object.__class__")))(t4_Push:PySem.W.mroIn K c_Push (.type "object")=some true)(na_Push_start:PySem.W.findIn K (.ref c_Push) "start"=some none)(na_Push_goal:PySem.W.findIn K (.ref c_Push) "goal"=some none)(na_Push_size:PySem.W.findIn K (.ref c_Push) "size"=some none)(pg_Hold:PySem.W.plainGet K c_Hold Str.empty=true)(hd_Hold:PySem.W.hasDictIn K c_Hold=true)(po_Hold:PySem.W.plainOver K c_Hold=true)(sa_Hold:PySem.W.findIn K (.ref c_Hold) "__setattr__"=some (some (.builtin "object.__setattr__")))(mk_Hold:PySem.W.makesIn K c_Hold=true)(kc_Hold:PySem.W.keepIn K (.ref c_Hold)=true)(t1_Hold:PySem.W.findIn K (.ref c_Hold) "__class__"=some (some (.builtin "object.__class__")))(t4_Hold:PySem.W.mroIn K c_Hold (.type "object")=some true)(na_Hold_start:PySem.W.findIn K (.ref c_Hold) "start"=some none)(na_Hold_goal:PySem.W.findIn K (.ref c_Hold) "goal"=some none)(na_Hold_size:PySem.W.findIn K (.ref c_Hold) "size"=some none)(tt2:PySem.W.specialIn K (.builtin "object.__class__") "__get__"=some (some (.builtin "getset_descriptor.__get__")))(tt3:PySem.W.takesIn K (.builtin "object.__class__")=some true)(isR_Piece:PySem.W.kitOne K (.ref c_Piece) (.ref c_Row)=some true)(isR_Push:PySem.W.kitOne K (.ref c_Push) (.ref c_Row)=some true)(isR_Hold:PySem.W.kitOne K (.ref c_Hold) (.ref c_Row)=some true)(isK_Piece_Push:PySem.W.kitOne K (.ref c_Piece) (.ref c_Push)=some false)(isK_Piece_Hold:PySem.W.kitOne K (.ref c_Piece) (.ref c_Hold)=some false)(isK_Push_Piece:PySem.W.kitOne K (.ref c_Push) (.ref c_Piece)=some false)(isK_Push_Hold:PySem.W.kitOne K (.ref c_Push) (.ref c_Hold)=some false)(isK_Hold_Piece:PySem.W.kitOne K (.ref c_Hold) (.ref c_Piece)=some false)(isK_Hold_Push:PySem.W.kitOne K (.ref c_Hold) (.ref c_Push)=some false)(pg_Net:PySem.W.plainGet K c_Net Str.empty=true)(hd_Net:PySem.W.hasDictIn K c_Net=true)(po_Net:PySem.W.plainOver K c_Net=true)(sa_Net:PySem.W.findIn K (.ref c_Net) "__setattr__"=some (some (.builtin "object.__setattr__")))(mk_Net:PySem.W.makesIn K c_Net=true)(kc_Net:PySem.W.keepIn K (.ref c_Net)=true)(t1_Net:PySem.W.findIn K (.ref c_Net) "__class__"=some (some (.builtin "object.__class__")))(t4_Net:PySem.W.mroIn K c_Net (.type "object")=some true)(na_Net_point_count:PySem.W.findIn K (.ref c_Net) "point_count"=some none)(na_Net_kept:PySem.W.findIn K (.ref c_Net) "kept"=some none)(x2_TooMany:PySem.W.findIn K (.ref c_TooMany) "__getattribute__"=some (some (.builtin "BaseException.__getattribute__")))(x3_TooMany:PySem.W.findIn K (.ref c_TooMany) "__getattr__"=some none)(x4_TooMany:PySem.W.mroIn K c_TooMany (.type "BaseException")=some true)(x5_TooMany:PySem.W.mroIn K c_TooMany (.type "object")=some true)(x6_TooMany:PySem.W.findIn K (.ref c_TooMany) "__class__"=some (some (.builtin "object.__class__")))(x7_TooMany:PySem.W.specialIn K (.builtin "object.__class__") "__get__"=some (some (.builtin "getset_descriptor.__get__")))(x8_TooMany:PySem.W.takesIn K (.builtin "object.__class__")=some true)(x9_TooMany:(PySem.W.clsIn K c_TooMany).isSome=true)(pg_Table:PySem.W.plainGet K c_Table Str.empty=true)(hd_Table:PySem.W.hasDictIn K c_Table=true)(po_Table:PySem.W.plainOver K c_Table=true)(sa_Table:PySem.W.findIn K (.ref c_Table) "__setattr__"=some (some (.builtin "object.__setattr__")))(mk_Table:PySem.W.makesIn K c_Table=true)(kc_Table:PySem.W.keepIn K (.ref c_Table)=true)(t1_Table:PySem.W.findIn K (.ref c_Table) "__class__"=some (some (.builtin "object.__class__")))(t4_Table:PySem.W.mroIn K c_Table (.type "object")=some true)(na_Table_places:PySem.W.findIn K (.ref c_Table) "places"=some none)(na_Table_lines:PySem.W.findIn K (.ref c_Table) "lines"=some none)(na_Table_arrivals:PySem.W.findIn K (.ref c_Table) "arrivals"=some none)(z1:PySem.W.nsIn K mainGlobals "isinstance"=some none)(z2:PySem.W.nsIn K mainGlobals "int"=some none)(z3:PySem.W.nsIn K mainGlobals "bool"=some none)(z4:PySem.W.nsIn K mainGlobals "abs"=some none)(z5:PySem.W.nsIn K mainGlobals "len"=some none)(z6:PySem.W.nsIn K mainGlobals "range"=some none)(z7:PySem.W.nsIn K mainGlobals "str"=some none)(z8:PySem.W.nsIn K mainGlobals "tuple"=some none)(z9:PySem.W.nsIn K mainGlobals "list"=some none)(z10:PySem.W.nsIn K mainGlobals "all"=some none)(z11:PySem.W.nsIn K mainGlobals "any"=some none)(z12:PySem.W.nsIn K mainGlobals "sorted"=some none)(z13:PySem.W.nsIn K mainGlobals "set"=some none)(z14:PySem.W.nsIn K mainGlobals "zip"=some none)(z15:PySem.W.nsIn K mainGlobals "enumerate"=some none) :
  ∃fd:FuncData,(∀(s:Shared) (v:Value),BindsTo s fd ⟨[v],[]⟩ [("_law_script",v)])∧∀base:Heap,K.In base→base.Ns mainGlobals mg→FnOk l.prog w K mg base CX0 10 fa fd ["_law_script"] (spLaw K):=by
 have e:=hfa.symm.trans (PySem.W.mg_of X G a67)
 cases e
 have mc_Row:=PySem.W.mg_of X G y_Row
 have mc_Piece:=PySem.W.mg_of X G y_Piece
 have mc_Push:=PySem.W.mg_of X G y_Push
 have mc_Hold:=PySem.W.mg_of X G y_Hold
 have mc_Net:=PySem.W.mg_of X G y_Net
 have mc_Table:=PySem.W.mg_of X G y_Table
 have mc_OhmError:=PySem.W.mg_of X G y_OhmError
 have mc_TooMany:=PySem.W.mg_of X G y_TooMany
 have F1:=fund_mk (st:=sWhole) l1 c1 k1
 have m1:=PySem.W.mg_of X G a1
 have b1:=F1.binds (ps:=["thing"]) fun _ _ _ _ _ _ us hl=>match us,hl with | [_],_=>rfl
 have F2:=fund_mk (st:=sGc) l2 c2 k2
 have m2:=PySem.W.mg_of X G a2
 have b2:=F2.binds (ps:=["one","other"]) fun _ _ _ _ _ _ us hl=>match us,hl with | [_,_],_=>rfl
 have F3:=fund_mk (st:=sUnder) l3 c3 k3
 have m3:=PySem.W.mg_of X G a3
 have b3:=F3.binds (ps:=["one","other"]) fun _ _ _ _ _ _ us hl=>match us,hl with | [_,_],_=>rfl
 have F4:=fund_mk (st:=sFrac) l4 c4 k4
 have m4:=PySem.W.mg_of X G a4
 have b4:Binds K _ ["top","bottom"] []:=fun s us XX hl=>match us,hl with | [_,_],_=>PySem.W.binds_K (fd:=PySem.W.fnOf "fraction" "fraction" (defArgs sFrac) (defBody sFrac) (defScope sFrac) (.ref T4) kV4 dc4 pm4 an4 cd4 ct4) XX rfl lt4 rfl rfl rfl
 have bd4:Binds K _ ["top","bottom"] [.int 1 tk4]:=fun s us XX hl=>match us,(show us.length=1 by simp at hl;omega) with | [_],_=>PySem.W.binds_K (fd:=PySem.W.fnOf "fraction" "fraction" (defArgs sFrac) (defBody sFrac) (defScope sFrac) (.ref T4) kV4 dc4 pm4 an4 cd4 ct4) XX rfl lt4 rfl rfl rfl
 have F5:=fund_mk (st:=sMinus) l5 c5 k5
 have m5:=PySem.W.mg_of X G a5
 have b5:=F5.binds (ps:=["one","other"]) fun _ _ _ _ _ _ us hl=>match us,hl with | [_,_],_=>rfl
 have F6:=fund_mk (st:=sPlus) l6 c6 k6
 have m6:=PySem.W.mg_of X G a6
 have b6:=F6.binds (ps:=["one","other"]) fun _ _ _ _ _ _ us hl=>match us,hl with | [_,_],_=>rfl
 have F7:=fund_mk (st:=sOver) l7 c7 k7
 have m7:=PySem.W.mg_of X G a7
 have b7:=F7.binds (ps:=["one","other"]) fun _ _ _ _ _ _ us hl=>match us,hl with | [_,_],_=>rfl
 have F8:=fund_mk (st:=sIsF) l8 c8 k8
 have m8:=PySem.W.mg_of X G a8
 have b8:=F8.binds (ps:=["thing"]) fun _ _ _ _ _ _ us hl=>match us,hl with | [_],_=>rfl
 have F9:=fund_mk (st:=sRInit) l9 c9 k9
 have b9:=F9.binds (ps:=["self","start","goal","size"]) fun _ _ _ _ _ _ us hl=>match us,hl with | [_,_,_,_],_=>rfl
 have F10:=fund_mk (st:=sWord_pc) l10 c10 k10
 have b10:=F10.binds (ps:=["self"]) fun _ _ _ _ _ _ us hl=>match us,hl with | [_],_=>rfl
 have F11:=fund_mk (st:=sWord_pu) l11 c11 k11
 have b11:=F11.binds (ps:=["self"]) fun _ _ _ _ _ _ us hl=>match us,hl with | [_],_=>rfl
 have F12:=fund_mk (st:=sWord_ho) l12 c12 k12
 have b12:=F12.binds (ps:=["self"]) fun _ _ _ _ _ _ us hl=>match us,hl with | [_],_=>rfl
 have F13:=fund_mk (st:=sJoins_pc) l13 c13 k13
 have b13:=F13.binds (ps:=["self"]) fun _ _ _ _ _ _ us hl=>match us,hl with | [_],_=>rfl
 have F14:=fund_mk (st:=sJoins_pu) l14 c14 k14
 have b14:=F14.binds (ps:=["self"]) fun _ _ _ _ _ _ us hl=>match us,hl with | [_],_=>rfl
 have F15:=fund_mk (st:=sJoins_ho) l15 c15 k15
 have b15:=F15.binds (ps:=["self"]) fun _ _ _ _ _ _ us hl=>match us,hl with | [_],_=>rfl
 have F16:=fund_mk (st:=sRTold) l16 c16 k16
 have b16:=F16.binds (ps:=["self"]) fun _ _ _ _ _ _ us hl=>match us,hl with | [_],_=>rfl
 have F17:=fund_mk (st:=sRowOf) l17 c17 k17
 have m17:=PySem.W.mg_of X G a17
 have b17:=F17.binds (ps:=["told"]) fun _ _ _ _ _ _ us hl=>match us,hl with | [_],_=>rfl
 have F18:=fund_mk (st:=sPS) l18 c18 k18
 have m18:=PySem.W.mg_of X G a18
 have b18:=F18.binds (ps:=["thing"]) fun _ _ _ _ _ _ us hl=>match us,hl with | [_],_=>rfl
 have F19:=fund_mk (st:=sNB) l19 c19 k19
 have m19:=PySem.W.mg_of X G a19
 have b19:=F19.binds (ps:=["thing","bound"]) fun _ _ _ _ _ _ us hl=>match us,hl with | [_,_],_=>rfl
 have F20:=fund_mk (st:=sRS) l20 c20 k20
 have m20:=PySem.W.mg_of X G a20
 have b20:=F20.binds (ps:=["word","size"]) fun _ _ _ _ _ _ us hl=>match us,hl with | [_,_],_=>rfl
 have F21:=fund_mk (st:=sRP) l21 c21 k21
 have m21:=PySem.W.mg_of X G a21
 have b21:=F21.binds (ps:=["some","many"]) fun _ _ _ _ _ _ us hl=>match us,hl with | [_,_],_=>rfl
 have F22:=fund_mk (st:=sNInit) l22 c22 k22
 have b22:=F22.binds (ps:=["self","many"]) fun _ _ _ _ _ _ us hl=>match us,hl with | [_,_],_=>rfl
 have F23:=fund_mk (st:=sMany) l23 c23 k23
 have b23:=F23.binds (ps:=["self"]) fun _ _ _ _ _ _ us hl=>match us,hl with | [_],_=>rfl
 have F24:=fund_mk (st:=sCount) l24 c24 k24
 have b24:=F24.binds (ps:=["self"]) fun _ _ _ _ _ _ us hl=>match us,hl with | [_],_=>rfl
 have F25:=fund_mk (st:=sNTold) l25 c25 k25
 have b25:=F25.binds (ps:=["self"]) fun _ _ _ _ _ _ us hl=>match us,hl with | [_],_=>rfl
 have F26:=fund_mk (st:=sAdd) l26 c26 k26
 have b26:=F26.binds (ps:=["self","row"]) fun _ _ _ _ _ _ us hl=>match us,hl with | [_,_],_=>rfl
 have F27:=fund_mk (st:=sRows) l27 c27 k27
 have b27:=F27.binds (ps:=["self"]) fun _ _ _ _ _ _ us hl=>match us,hl with | [_],_=>rfl
 have F28:=fund_mk (st:=sJoined) l28 c28 k28
 have m28:=PySem.W.mg_of X G a28
 have b28:=F28.binds (ps:=["marks","row"]) fun _ _ _ _ _ _ us hl=>match us,hl with | [_,_],_=>rfl
 have F29:=fund_mk (st:=sMarks) l29 c29 k29
 have m29:=PySem.W.mg_of X G a29
 have b29:=F29.binds (ps:=["net"]) fun _ _ _ _ _ _ us hl=>match us,hl with | [_],_=>rfl
 have F30:=fund_mk (st:=sGroups) l30 c30 k30
 have m30:=PySem.W.mg_of X G a30
 have b30:=F30.binds (ps:=["net"]) fun _ _ _ _ _ _ us hl=>match us,hl with | [_],_=>rfl
 have F31:=fund_mk (st:=sRHo) l31 c31 k31
 have m31:=PySem.W.mg_of X G a31
 have b31:=F31.binds (ps:=["net"]) fun _ _ _ _ _ _ us hl=>match us,hl with | [_],_=>rfl
 have F32:=fund_mk (st:=sIW) l32 c32 k32
 have m32:=PySem.W.mg_of X G a32
 have b32:=F32.binds (ps:=["some"]) fun _ _ _ _ _ _ us hl=>match us,hl with | [_],_=>rfl
 have F33:=fund_mk (st:=sOverP) l33 c33 k33
 have m33:=PySem.W.mg_of X G a33
 have b33:=F33.binds (ps:=["tops","pivot"]) fun _ _ _ _ _ _ us hl=>match us,hl with | [_,_],_=>rfl
 have F34:=fund_mk (st:=sPiv) l34 c34 k34
 have m34:=PySem.W.mg_of X G a34
 have b34:=F34.binds (ps:=["rows","rank","column"]) fun _ _ _ _ _ _ us hl=>match us,hl with | [_,_,_],_=>rfl
 have F35:=fund_mk (st:=sClrRows) l35 c35 k35
 have m35:=PySem.W.mg_of X G a35
 have b35:=F35.binds (ps:=["rows","rank","column","divisor"]) fun _ _ _ _ _ _ us hl=>match us,hl with | [_,_,_,_],_=>rfl
 have F36:=fund_mk (st:=sElim) l36 c36 k36
 have m36:=PySem.W.mg_of X G a36
 have b36:=F36.binds (ps:=["rows","width"]) fun _ _ _ _ _ _ us hl=>match us,hl with | [_,_],_=>rfl
 have F37:=fund_mk (st:=sRed) l37 c37 k37
 have m37:=PySem.W.mg_of X G a37
 have b37:=F37.binds (ps:=["matrix","count"]) fun _ _ _ _ _ _ us hl=>match us,hl with | [_,_],_=>rfl
 have F38:=fund_mk (st:=sRaise) l38 c38 k38
 have m38:=PySem.W.mg_of X G a38
 have b38:=F38.binds (ps:=["line","column","amount"]) fun _ _ _ _ _ _ us hl=>match us,hl with | [_,_,_],_=>rfl
 have F39:=fund_mk (st:=sEnter) l39 c39 k39
 have m39:=PySem.W.mg_of X G a39
 have b39:=F39.binds (ps:=["matrix","row","column","amount"]) fun _ _ _ _ _ _ us hl=>match us,hl with | [_,_,_,_],_=>rfl
 have F40:=fund_mk (st:=sEnterP) l40 c40 k40
 have m40:=PySem.W.mg_of X G a40
 have b40:=F40.binds (ps:=["matrix","row"]) fun _ _ _ _ _ _ us hl=>match us,hl with | [_,_],_=>rfl
 have F41:=fund_mk (st:=sEnterU) l41 c41 k41
 have m41:=PySem.W.mg_of X G a41
 have b41:=F41.binds (ps:=["right","row"]) fun _ _ _ _ _ _ us hl=>match us,hl with | [_,_],_=>rfl
 have F42:=fund_mk (st:=sTInit) l42 c42 k42
 have b42:=F42.binds (ps:=["self","ends","matrix","comes"]) fun _ _ _ _ _ _ us hl=>match us,hl with | [_,_,_,_],_=>rfl
 have F43:=fund_mk (st:=sTEnds) l43 c43 k43
 have b43:=F43.binds (ps:=["self"]) fun _ _ _ _ _ _ us hl=>match us,hl with | [_],_=>rfl
 have F44:=fund_mk (st:=sTMat) l44 c44 k44
 have b44:=F44.binds (ps:=["self"]) fun _ _ _ _ _ _ us hl=>match us,hl with | [_],_=>rfl
 have F45:=fund_mk (st:=sTComes) l45 c45 k45
 have b45:=F45.binds (ps:=["self"]) fun _ _ _ _ _ _ us hl=>match us,hl with | [_],_=>rfl
 have F46:=fund_mk (st:=sTNet) l46 c46 k46
 have b46:=F46.binds (ps:=["self"]) fun _ _ _ _ _ _ us hl=>match us,hl with | [_],_=>rfl
 have F47:=fund_mk (st:=sPick) l47 c47 k47
 have m47:=PySem.W.mg_of X G a47
 have b47:=F47.binds (ps:=["matrix","places"]) fun _ _ _ _ _ _ us hl=>match us,hl with | [_,_],_=>rfl
 have F48:=fund_mk (st:=sNar) l48 c48 k48
 have m48:=PySem.W.mg_of X G a48
 have b48:=F48.binds (ps:=["table","ends"]) fun _ _ _ _ _ _ us hl=>match us,hl with | [_,_],_=>rfl
 have F49:=fund_mk (st:=sLoose) l49 c49 k49
 have m49:=PySem.W.mg_of X G a49
 have b49:=F49.binds (ps:=["net","ends"]) fun _ _ _ _ _ _ us hl=>match us,hl with | [_,_],_=>rfl
 have F50:=fund_mk (st:=sREnds) l50 c50 k50
 have m50:=PySem.W.mg_of X G a50
 have b50:=F50.binds (ps:=["net","ends"]) fun _ _ _ _ _ _ us hl=>match us,hl with | [_,_],_=>rfl
 have F51:=fund_mk (st:=sTall) l51 c51 k51
 have m51:=PySem.W.mg_of X G a51
 have b51:=F51.binds (ps:=["net"]) fun _ _ _ _ _ _ us hl=>match us,hl with | [_],_=>rfl
 have F52:=fund_mk (st:=sTof) l52 c52 k52
 have m52:=PySem.W.mg_of X G a52
 have b52:=F52.binds (ps:=["net","ends"]) fun _ _ _ _ _ _ us hl=>match us,hl with | [_,_],_=>rfl
 have F53:=fund_mk (st:=sNth) l53 c53 k53
 have m53:=PySem.W.mg_of X G a53
 have b53:=F53.binds (ps:=["_law_script","_law_k"]) fun _ _ _ _ _ _ us hl=>match us,hl with | [_,_],_=>rfl
 have F54:=fund_mk (st:=sDiv) l54 c54 k54
 have m54:=PySem.W.mg_of X G a54
 have b54:=F54.binds (ps:=["_law_one","_law_other"]) fun _ _ _ _ _ _ us hl=>match us,hl with | [_,_],_=>rfl
 have F55:=fund_mk (st:=sLowest) l55 c55 k55
 have m55:=PySem.W.mg_of X G a55
 have b55:=F55.binds (ps:=["_law_top","_law_bottom"]) fun _ _ _ _ _ _ us hl=>match us,hl with | [_,_],_=>rfl
 have F56:=fund_mk (st:=sIs) l56 c56 k56
 have m56:=PySem.W.mg_of X G a56
 have b56:=F56.binds (ps:=["_law_found"]) fun _ _ _ _ _ _ us hl=>match us,hl with | [_],_=>rfl
 have F57:=fund_mk (st:=sAnInt) l57 c57 k57
 have m57:=PySem.W.mg_of X G a57
 have b57:=F57.binds (ps:=["_law_found"]) fun _ _ _ _ _ _ us hl=>match us,hl with | [_],_=>rfl
 have F58:=fund_mk (st:=sSize) l58 c58 k58
 have m58:=PySem.W.mg_of X G a58
 have b58:=F58.binds (ps:=["_law_cell","_law_far"]) fun _ _ _ _ _ _ us hl=>match us,hl with | [_,_],_=>rfl
 have F59:=fund_mk (st:=sAmount) l59 c59 k59
 have m59:=PySem.W.mg_of X G a59
 have b59:=F59.binds (ps:=["_law_cell","_law_far"]) fun _ _ _ _ _ _ us hl=>match us,hl with | [_,_],_=>rfl
 have F60:=fund_mk (st:=sLPlus) l60 c60 k60
 have m60:=PySem.W.mg_of X G a60
 have b60:=F60.binds (ps:=["_law_one","_law_other"]) fun _ _ _ _ _ _ us hl=>match us,hl with | [_,_],_=>rfl
 have F61:=fund_mk (st:=sEnds) l61 c61 k61
 have m61:=PySem.W.mg_of X G a61
 have b61:=F61.binds (ps:=["_law_script","_law_many"]) fun _ _ _ _ _ _ us hl=>match us,hl with | [_,_],_=>rfl
 have F62:=fund_mk (st:=sPieces) l62 c62 k62
 have m62:=PySem.W.mg_of X G a62
 have b62:=F62.binds (ps:=["_law_script","_law_many","_law_far"]) fun _ _ _ _ _ _ us hl=>match us,hl with | [_,_,_],_=>rfl
 have F63:=fund_mk (st:=sMatrix) l63 c63 k63
 have m63:=PySem.W.mg_of X G a63
 have b63:=F63.binds (ps:=["_law_many","_law_pieces_here"]) fun _ _ _ _ _ _ us hl=>match us,hl with | [_,_],_=>rfl
 have F64:=fund_mk (st:=sLComes) l64 c64 k64
 have m64:=PySem.W.mg_of X G a64
 have b64:=F64.binds (ps:=["_law_script","_law_many","_law_far"]) fun _ _ _ _ _ _ us hl=>match us,hl with | [_,_,_],_=>rfl
 have F65:=fund_mk (st:=sTooM) l65 c65 k65
 have m65:=PySem.W.mg_of X G a65
 have b65:=F65.binds (ps:=["_law_table"]) fun _ _ _ _ _ _ us hl=>match us,hl with | [_],_=>rfl
 have F66:=fund_mk (st:=sLRows) l66 c66 k66
 have m66:=PySem.W.mg_of X G a66
 have b66:=F66.binds (ps:=["_law_net","_law_due"]) fun _ _ _ _ _ _ us hl=>match us,hl with | [_,_],_=>rfl
 have F67:=fund_mk (st:=sLaw) l67 c67 k67
 have m67:=PySem.W.mg_of X G a67
 have b67:=F67.binds (ps:=["_law_script"]) fun _ _ _ _ _ _ us hl=>match us,hl with | [_],_=>rfl
 have mv_ONE:=PySem.W.mg_of X G v_ONE
 have mv_NOUGHT:=PySem.W.mg_of X G v_NOUGHT
 have mv_MOST_POINTS:=PySem.W.mg_of X G v_MOST_POINTS
 have mv_MOST_ROWS:=PySem.W.mg_of X G v_MOST_ROWS
 have n_isinstance:=PySem.W.mg_none_of X G z1
 have n_int:=PySem.W.mg_none_of X G z2
 have n_bool:=PySem.W.mg_none_of X G z3
 have n_abs:=PySem.W.mg_none_of X G z4
 have n_len:=PySem.W.mg_none_of X G z5
 have n_range:=PySem.W.mg_none_of X G z6
 have n_str:=PySem.W.mg_none_of X G z7
 have n_tuple:=PySem.W.mg_none_of X G z8
 have n_list:=PySem.W.mg_none_of X G z9
 have n_all:=PySem.W.mg_none_of X G z10
 have n_any:=PySem.W.mg_none_of X G z11
 have n_sorted:=PySem.W.mg_none_of X G z12
 have n_set:=PySem.W.mg_none_of X G z13
 have n_zip:=PySem.W.mg_none_of X G z14
 have n_enumerate:=PySem.W.mg_none_of X G z15
 refine⟨PySem.W.fnOf "law" "law" (defArgs sLaw) (defBody sLaw) (defScope sLaw) .none kV67 dc67 pm67 an67 cd67 ct67,fun s v=>.of_eq rfl,fun base _ _=>?_⟩
 have bl:Bl mg:=⟨n_isinstance,n_int,n_bool,n_abs⟩
 have T:RT K mg c_Row (kd3 c_Piece c_Push c_Hold):=⟨all3 ⟨pg_Piece,hd_Piece,po_Piece,sa_Piece⟩ ⟨pg_Push,hd_Push,po_Push,sa_Push⟩ ⟨pg_Hold,hd_Hold,po_Hold,sa_Hold⟩,all3 na_Piece_start na_Push_start na_Hold_start,all3 na_Piece_goal na_Push_goal na_Hold_goal,all3 na_Piece_size na_Push_size na_Hold_size,all3 t1_Piece t1_Push t1_Hold,tt2,tt3,all3 t4_Piece t4_Push t4_Hold,all3 isR_Piece isR_Push isR_Hold,all3 (all3 (kit_self _ _) isK_Piece_Push isK_Piece_Hold) (all3 isK_Push_Piece (kit_self _ _) isK_Push_Hold) (all3 isK_Hold_Piece isK_Hold_Push (kit_self _ _)),mc_Row,all3 mc_Piece mc_Push mc_Hold⟩
 have fN:∀H,Fq K H aN (0,1):=Fq.mod lN
 have fO:∀H,Fq K H aO (1,1):=Fq.mod lO
 have NTx:NT K mg c_Net:=⟨⟨pg_Net,hd_Net,po_Net,sa_Net⟩,na_Net_point_count,na_Net_kept,t1_Net,tt2,tt3,t4_Net,mc_Net⟩
 have TBx:TB K mg c_Table:=⟨⟨pg_Table,hd_Table,po_Table,sa_Table⟩,na_Table_places,na_Table_lines,na_Table_arrivals,mc_Table⟩
 have R1:=ok_whole (P:=l.prog) (w:=w) (K:=K) (mg:=mg) (base:=base) (CX:=CX0) F1 bl
 have R2:=ok_gc (P:=l.prog) (w:=w) (K:=K) (mg:=mg) (base:=base) (CX:=CX0) F2 bl
 have R3:=ok_under (P:=l.prog) (w:=w) (K:=K) (mg:=mg) (base:=base) (CX:=CX0) F3
 have R4:=ok_frac (P:=l.prog) (w:=w) (K:=K) (mg:=mg) (base:=base) (CX:=CX0) F4  R1 b1 k1 m1 R2 b2 k2 m2
 have R5:=ok_minus (P:=l.prog) (w:=w) (K:=K) (mg:=mg) (base:=base) (CX:=CX0) F5  R4 b4 k4 m4
 have R6:=ok_plus (P:=l.prog) (w:=w) (K:=K) (mg:=mg) (base:=base) (CX:=CX0) F6  R4 b4 k4 m4
 have R7:=ok_over (P:=l.prog) (w:=w) (K:=K) (mg:=mg) (base:=base) (CX:=CX0) F7  R4 b4 k4 m4
 have R8:=ok_isf (P:=l.prog) (w:=w) (K:=K) (mg:=mg) (base:=base) (CX:=CX0) F8 bl n_len n_tuple R1 b1 k1 m1 R2 b2 k2 m2
 have R9:=ok_rinit (P:=l.prog) (w:=w) (K:=K) (mg:=mg) (base:=base) (CX:=CX0) F9 T
 have R10:=ok_word_pc (P:=l.prog) (w:=w) (K:=K) (mg:=mg) (base:=base) (CX:=CX0) F10
 have R11:=ok_word_pu (P:=l.prog) (w:=w) (K:=K) (mg:=mg) (base:=base) (CX:=CX0) F11
 have R12:=ok_word_ho (P:=l.prog) (w:=w) (K:=K) (mg:=mg) (base:=base) (CX:=CX0) F12
 have GW:∀k,FnOk l.prog w K mg base CX0 1 (kd3 f10 f11 f12 k) (kd3 _ _ _ k) ["self"] (spWord k):=all3 (R10) (R11) (R12)
 have bW:∀k,Binds K (kd3 _ _ _ k) ["self"] []:=all3 (b10) (b11) (b12)
 have mW:∀k,Meth K (kd3 c_Piece c_Push c_Hold k) "word" (kd3 f10 f11 f12 k):=all3 (⟨a10_0,i10,k10⟩) (⟨a11_0,i11,k11⟩) (⟨a12_0,i12,k12⟩)
 have R13:=ok_joins_pc (P:=l.prog) (w:=w) (K:=K) (mg:=mg) (base:=base) (CX:=CX0) F13
 have R14:=ok_joins_pu (P:=l.prog) (w:=w) (K:=K) (mg:=mg) (base:=base) (CX:=CX0) F14
 have R15:=ok_joins_ho (P:=l.prog) (w:=w) (K:=K) (mg:=mg) (base:=base) (CX:=CX0) F15
 have GJ:∀k,FnOk l.prog w K mg base CX0 1 (kd3 f13 f14 f15 k) (kd3 _ _ _ k) ["self"] (spJoins k):=all3 (R13) (R14) (R15)
 have bJ:∀k,Binds K (kd3 _ _ _ k) ["self"] []:=all3 (b13) (b14) (b15)
 have mJ:∀k,Meth K (kd3 c_Piece c_Push c_Hold k) "joins" (kd3 f13 f14 f15 k):=all3 (⟨a13_0,i13,k13⟩) (⟨a14_0,i14,k14⟩) (⟨a15_0,i15,k15⟩)
 have R16:=ok_rtold (P:=l.prog) (w:=w) (K:=K) (mg:=mg) (base:=base) (CX:=CX0) F16 T GW bW mW
 have mT:∀k,Meth K (kd3 c_Piece c_Push c_Hold k) "told" f16:=all3 (⟨a16_0,i16,k16⟩) (⟨a16_1,i16,k16⟩) (⟨a16_2,i16,k16⟩)
 have MK:∀k,Mk K (kd3 c_Piece c_Push c_Hold k) f9:=all3 (⟨mk_Piece,a9_0,i9,kc_Piece⟩) (⟨mk_Push,a9_1,i9,kc_Push⟩) (⟨mk_Hold,a9_2,i9,kc_Hold⟩)
 have R17:=ok_rowof (P:=l.prog) (w:=w) (K:=K) (mg:=mg) (base:=base) (CX:=CX0) F17 T bl n_str R9 b9 MK
 have R18:=ok_ps (P:=l.prog) (w:=w) (K:=K) (mg:=mg) (base:=base) (CX:=CX0) F18 fN mv_NOUGHT (isf_good R8) b8 k8 m8 R3 b3 k3 m3
 have R19:=ok_nb (P:=l.prog) (w:=w) (K:=K) (mg:=mg) (base:=base) (CX:=CX0) F19  R1 b1 k1 m1
 have R20:=ok_rs (P:=l.prog) (w:=w) (K:=K) (mg:=mg) (base:=base) (CX:=CX0) F20 (isf_good R8) b8 k8 m8 R18 b18 k18 m18
 have R21:=ok_rpg (P:=l.prog) (w:=w) (K:=K) (mg:=mg) (base:=base) (CX:=CX0) F21 n_all R19 b19 k19 m19
 have R22:=ok_ninit (P:=l.prog) (w:=w) (K:=K) (mg:=mg) (base:=base) (CX:=CX0) F22 NTx mv_MOST_POINTS R1 b1 k1 m1
 have R23:=ok_many (P:=l.prog) (w:=w) (K:=K) (mg:=mg) (base:=base) (CX:=CX0) F23 NTx
 have R24:=ok_count (P:=l.prog) (w:=w) (K:=K) (mg:=mg) (base:=base) (CX:=CX0) F24 NTx n_len
 have R25:=ok_ntold (P:=l.prog) (w:=w) (K:=K) (mg:=mg) (base:=base) (CX:=CX0) F25 NTx n_list
 have R26:=ok_add (P:=l.prog) (w:=w) (K:=K) (mg:=mg) (base:=base) F26 NTx mv_MOST_ROWS n_len T R16 b16 mT (rp_two R21) b21 k21 m21 R20 b20 k20 m20 mc_TooMany x1_TooMany
 have R27:=ok_rows (P:=l.prog) (w:=w) (K:=K) (mg:=mg) (base:=base) (CX:=CX0) F27 NTx R17 b17 k17 m17
 have MN:Mk K c_Net f22:=⟨mk_Net,a22_0,i22,kc_Net⟩
 have R28:=ok_joined (P:=l.prog) (w:=w) (K:=K) (mg:=mg) (base:=base) (CX:=CX0) F28 T
 have R29:=ok_marks (P:=l.prog) (w:=w) (K:=K) (mg:=mg) (base:=base) (CX:=CX0) F29 n_list n_range NTx T GJ bJ mJ R23 b23 ⟨a23_0,i23,k23⟩ R27 b27 ⟨a27_0,i27,k27⟩ R28 b28 k28 m28
 have R30:=ok_groups (P:=l.prog) (w:=w) (K:=K) (mg:=mg) (base:=base) (CX:=CX0) F30 n_enumerate n_list R29 b29 k29 m29
 have R31:=ok_rho (P:=l.prog) (w:=w) (K:=K) (mg:=mg) (base:=base) (CX:=CX0) F31 NTx n_enumerate T GW bW mW R27 b27 ⟨a27_0,i27,k27⟩
 have R32:=ok_iw (P:=l.prog) (w:=w) (K:=K) (mg:=mg) (base:=base) (CX:=CX0) F32  R2 b2 k2 m2
 have R33:=ok_overp (P:=l.prog) (w:=w) (K:=K) (mg:=mg) (base:=base) (CX:=CX0) F33  R4 b4 k4 m4
 have R34:=ok_piv2 (P:=l.prog) (w:=w) (K:=K) (mg:=mg) (base:=base) (CX:=CX0) F34
 have R35:=ok_clrr2 (P:=l.prog) (w:=w) (K:=K) (mg:=mg) (base:=base) (CX:=CX0) F35
 have R36:=ok_elim (P:=l.prog) (w:=w) (K:=K) (mg:=mg) (base:=base) (CX:=CX0) F36 n_list n_range R34 b34 k34 m34 R35 b35 k35 m35
 have R37:=ok_red (P:=l.prog) (w:=w) (K:=K) (mg:=mg) (base:=base) (CX:=CX0) F37 n_zip R32 b32 k32 m32 R36 b36 k36 m36 R33 b33 k33 m33
 have R38:=ok_raise (P:=l.prog) (w:=w) (K:=K) (mg:=mg) (base:=base) (CX:=CX0) F38  R6 b6 k6 m6
 have R39:=ok_enter (P:=l.prog) (w:=w) (K:=K) (mg:=mg) (base:=base) (CX:=CX0) F39 T fN mv_NOUGHT R38 b38 k38 m38 R5 b5 k5 m5
 have R40:=ok_enterp (P:=l.prog) (w:=w) (K:=K) (mg:=mg) (base:=base) (CX:=CX0) F40 T fN mv_NOUGHT fO mv_ONE R7 b7 k7 m7 R39 b39 k39 m39 R5 b5 k5 m5
 have R41:=ok_enteru (P:=l.prog) (w:=w) (K:=K) (mg:=mg) (base:=base) (CX:=CX0) F41 T fN mv_NOUGHT R38 b38 k38 m38 R5 b5 k5 m5
 have R42:=ok_tinitA (P:=l.prog) (w:=w) (K:=K) (mg:=mg) (base:=base) (CX:=CX0) F42 TBx n_list
 have MT:Mk K c_Table f42:=⟨mk_Table,a42_0,i42,kc_Table⟩
 have R43:=ok_tends (P:=l.prog) (w:=w) (K:=K) (mg:=mg) (base:=base) (CX:=CX0) F43 TBx n_list
 have R44:=ok_tmat (P:=l.prog) (w:=w) (K:=K) (mg:=mg) (base:=base) (CX:=CX0) F44 TBx n_list
 have R45:=ok_tcomes (P:=l.prog) (w:=w) (K:=K) (mg:=mg) (base:=base) (CX:=CX0) F45 TBx n_list
 have R46:=ok_tnet (P:=l.prog) (w:=w) (K:=K) (mg:=mg) (base:=base) F46 TBx NTx T n_len n_range n_enumerate fN mv_NOUGHT fO mv_ONE R22 b22 MN R9 b9 MK R26 b26 ⟨a26_0,i26,k26⟩ R7 b7 k7 m7 R5 b5 k5 m5
 have R47:=ok_pick (P:=l.prog) (w:=w) (K:=K) (mg:=mg) (base:=base) (CX:=CX0) F47
 have R48:=ok_nar (P:=l.prog) (w:=w) (K:=K) (mg:=mg) (base:=base) (CX:=CX0) F48 TBx n_zip n_len (tinit_good R42) b42 MT R47 b47 k47 m47 R37 b37 k37 m37
 have R49:=ok_loose (P:=l.prog) (w:=w) (K:=K) (mg:=mg) (base:=base) (CX:=CX0) F49 n_any n_sorted R30 b30 k30 m30
 have R50:=ok_rends (P:=l.prog) (w:=w) (K:=K) (mg:=mg) (base:=base) (CX:=CX0) F50 NTx bl n_len n_list n_set R23 b23 ⟨a23_0,i23,k23⟩ R21 b21 k21 m21 R31 b31 k31 m31 R49 b49 k49 m49
 have R51:=ok_tall (P:=l.prog) (w:=w) (K:=K) (mg:=mg) (base:=base) (CX:=CX0) F51 TBx NTx T n_len n_range n_list fN mv_NOUGHT GW bW mW (tinit_good R42) b42 MT R27 b27 ⟨a27_0,i27,k27⟩ R23 b23 ⟨a23_0,i23,k23⟩ R40 b40 k40 m40 R41 b41 k41 m41
 have R52:=ok_tof (P:=l.prog) (w:=w) (K:=K) (mg:=mg) (base:=base) (CX:=CX0) F52  R50 b50 k50 m50 R51 b51 k51 m51 R48 b48 k48 m48
 have R53:=ok_nth (P:=l.prog) (w:=w) (K:=K) (mg:=mg) (base:=base) (CX:=CX0) F53
 have R54:=ok_div (P:=l.prog) (w:=w) (K:=K) (mg:=mg) (base:=base) (CX:=CX0) F54 bl
 have R55:=ok_lowest (P:=l.prog) (w:=w) (K:=K) (mg:=mg) (base:=base) (CX:=CX0) F55  R54 b54 k54 m54
 have R56:=ok_is (P:=l.prog) (w:=w) (K:=K) (mg:=mg) (base:=base) (CX:=CX0) F56 bl n_len n_tuple R54 b54 k54 m54
 have R57:=ok_anint (P:=l.prog) (w:=w) (K:=K) (mg:=mg) (base:=base) (CX:=CX0) F57 bl
 have R58:=ok_size (P:=l.prog) (w:=w) (K:=K) (mg:=mg) (base:=base) (CX:=CX0) F58  R55 b55 k55 m55
 have R59:=ok_amount (P:=l.prog) (w:=w) (K:=K) (mg:=mg) (base:=base) (CX:=CX0) F59  R55 b55 k55 m55
 have R60:=ok_lplus (P:=l.prog) (w:=w) (K:=K) (mg:=mg) (base:=base) (CX:=CX0) F60  R55 b55 k55 m55
 have R61:=ok_ends (P:=l.prog) (w:=w) (K:=K) (mg:=mg) (base:=base) (CX:=CX0) F61 n_range R53 b53 k53 m53
 have R62:=ok_pieces (P:=l.prog) (w:=w) (K:=K) (mg:=mg) (base:=base) (CX:=CX0) F62 n_range R53 b53 k53 m53 R58 b58 k58 m58
 have R63:=ok_matrix (P:=l.prog) (w:=w) (K:=K) (mg:=mg) (base:=base) (CX:=CX0) F63 n_range R60 b60 k60 m60
 have R64:=ok_lcomes (P:=l.prog) (w:=w) (K:=K) (mg:=mg) (base:=base) (CX:=CX0) F64 n_range R53 b53 k53 m53 R59 b59 k59 m59 R60 b60 k60 m60
 have R65:=ok_toom (P:=l.prog) (w:=w) (K:=K) (mg:=mg) (base:=base) (CX:=CX0) F65 TBx bl mc_OhmError xm_T ⟨x2_TooMany,x3_TooMany,x4_TooMany,x5_TooMany,x6_TooMany,x7_TooMany,x8_TooMany,x9_TooMany⟩ mc_TooMany (by unfold PySem.W.kitOne;rw[if_pos (beq_self_eq_true _)]) R46 b46 ⟨a46_0,i46,k46⟩
 have R66:=ok_lrows (P:=l.prog) (w:=w) (K:=K) (mg:=mg) (base:=base) (CX:=CX0) F66 NTx bl n_len n_list n_tuple R24 b24 ⟨a24_0,i24,k24⟩ R25 b25 ⟨a25_0,i25,k25⟩ R56 b56 k56 m56 R57 b57 k57 m57
 exact ok_law (P:=l.prog) (w:=w) (K:=K) (mg:=mg) (base:=base) (CX:=CX0) F67 bl n_range n_len n_list TBx NTx R42 b42 MT R43 b43 ⟨a43_0,i43,k43⟩ R44 b44 ⟨a44_0,i44,k44⟩ R45 b45 ⟨a45_0,i45,k45⟩ R46 b46 ⟨a46_0,i46,k46⟩ R23 b23 ⟨a23_0,i23,k23⟩ R26 b26 ⟨a26_0,i26,k26⟩ R53 b53 k53 m53 R61 b61 k61 m61 R62 b62 k62 m62 R63 b63 k63 m63 R64 b64 k64 m64 R65 b65 k65 m65 R66 b66 k66 m66 R52 b52 k52 m52 R17 b17 k17 m17
theorem walk {l:PySem.W.OpenLaw}{q:Program}{loose:List Str}{XP:(Str→Option Value)→Heap→Prop}{YP:World→Heap→Prop}{d:DefRec}{K:Params→PySem.W.Frag}(hn:l.most=some 63)(hdf:d.params.defaults=[])(hY:∀(w:World) (h:Heap),YP w h→(K w.params).In h)(F:∀(w:World) (mg:Str→Option Value) (fa:Addr) (h:Heap),(K w.params).In h→h.Ns mainGlobals mg→mg d.name=some (.ref fa)→
   ∃fd:FuncData,(∀(s:Shared) (u:Value),BindsTo s fd ⟨[u],[]⟩ [("_law_script",u)])∧∀base:Heap,(K w.params).In base→base.Ns mainGlobals mg→FnOk l.prog w (K w.params) mg base CX0 10 fa fd ["_law_script"] (spLaw (K w.params))) :
  PySem.W.WalkO q loose XP YP l.row.toRowW d [] (fun f vs=>PySem.call f vs):=
 L2.walk_of (n:=63) (k:=10) (x:="_law_script") (CX:=fun _=>CX0) (sp:=fun w=>spLaw (K w.params)) hn (by decide) hdf ⟨rfl,by decide,by decide⟩ hY F (fun _ _ a ns hl _ hS=>⟨a,ns,rfl,hS,hl,fun _=>rfl⟩) fun _ _ _ _ _ z=>z
end K56
namespace PySem.W.Fast
def tw13975542261770837074:=0
def tw18324445346497899838:=0
def tw8345717833510006455:=0
def tw14370806904038137910:=0
def tw8044528969149883111:=0
def tw13806035891333348874:=0
def tw5290797793775280230:=0
def tw16089066983717457424:=0
def tw17136688631514676928:=0
def tw12276313601743953594:=0
def tw10747684304532350596:=0
def tw16088013297998159299:=0
def tw16166955456892472579:=0
def tw4177990229250271623:=0
def tw3184816152638978077:=0
def tw11132075111931095096:=0
def tw10306835682013603860:=0
def tw2343915108554715195:=0
def tw12300806603547672725:=0
def tw7184990823379192751:=0
def tw4564195552814534053:=0
def tw12558596419563928662:=0
def tw14436938367959719750:=0
def tw5891202942450075590:=0
def tw5388603588858516878:=0
def tw244165423684796936:=0
def tw16520179836490123403:=0
def tw1733072174406293034:=0
def tw10423870384277102144:=0
def tw6811385549502896258:=0
def tw12108281719683447071:=0
def tw9435002050298419295:=0
def tw6907704549564283756:=0
def tw13679613103425062116:=0
def tw16864258151186534307:=0
def tw10020612007028743795:=0
def tw3162883510522088816:=0
def tw3291452153578443062:=0
def tw1835085239987812917:=0
def tw11673863028696949141:=0
def tw16401960430811167040:=0
def tw5936412371579194160:=0
def tw5297434569546073937:=0
def tw8632365418345231871:=0
def tw3680258296693571212:=0
def tw10574697410016603229:=0
def tw17695527563198073914:=0
def tw8249777880577092522:=0
def tw10714185045938533367:=0
def tw4560591363510972287:=0
def tw11410553335297712384:=0
def tw6656134011173903044:=0
def tw6432850633759677022:=0
def tw4262732933097883261:=0
def tw768273314801349408:=0
def tw4976742647439710127:=0
def tw13737628759445359528:=0
def tw1136497606805330636:=0
def tw13680041534696223916:=0
def tw15363952827876446629:=0
def tw3863609169658407162:=0
def tw14354499049239702303:=0
def tw16397922326120921176:=0
def tw17460973136480685086:=0
def tw525835196615834774:=0
def tw9020019010940460399:=0
def tw11724305791908224254:=0
def tw15544983060756874080:=0
def tw11182106508508701141:=0
def tw13189568288308615631:=0
def tw17335151631578941305:=0
def tw15248891708241610502:=0
def tw17675696879961104204:=0
def tw6836574548160884738:=0
def tw1180751104530338852:=0
def tw16834345863794197852:=0
def tw16583571643810884172:=0
def tw10268988101460823231:=0
def tw7498043107445916648:=0
def tw1321110888725409969:=0
def tw8781597025105817761:=0
def tw12172623666689710658:=0
def tw3745834172825720596:=0
def tw12313717552551297355:=0
def tw3922177822793658776:=0
def tw14037599780183756727:=0
def tw7050255268514112342:=0
def tw4285149487807819979:=0
def tw11085488194002619521:=0
def tw11242314559073346555:=0
def tw14510012934196087427:=0
def tw13557169704643599446:=0
def tw16297964130249637964:=0
def tw13608512030091972645:=0
def tw13885297339887288952:=0
def tw14437480080401737350:=0
def tw14379899056887268821:=0
def tw16189681941880270122:=0
def tw5779723365321046704:=0
def tw5301284070326243752:=0
def tw2452499565559721193:=0
def tw12190739834166628643:=0
def tw1522634278223632532:=0
def tw11070229655011375680:=0
def tw16022048243265933510:=0
def tw872509264557935583:=0
def tw4029632487917962018:=0
def tw988120111677205098:=0
def tw16575882000604908490:=0
def tw3411985374875942519:=0
def tw7040041445684912448:=0
def tw2684333405298311409:=0
def tw12980568194118922652:=0
def tw12837163819694819882:=0
def tw11730417019409090622:=0
def tw14130791013264083430:=0
def tw8633174501080831982:=0
def tw16278966128738877479:=0
def tw7145017570453518885:=0
def tw12720394103777720659:=0
def tw5635927791442521324:=0
def tw5235857177220987568:=0
def tw322662983752959536:=0
def tw241561538555909438:=0
def tw11158406508162995350:=0
def tw16967531092098723870:=0
def tw7287618505166670535:=0
def tw17501652848704070798:=0
def tw7054451740198626035:=0
def tw17917759104369074319:=0
def tw7817672660581199420:=0
def tw16149195059216491612:=0
def tw15237254981537222479:=0
def tw17041304031609369351:=0
def tw14658039208994136751:=0
def tw476577959168491644:=0
def tw10654923757890495000:=0
def tw7293995415504008245:=0
def tw4000345636521434110:=0
def tw665847385111276197:=0
def tw9385805308491499907:=0
def tw15297492195873524345:=0
def tw14996446340187323036:=0
def tw6558720702895330909:=0
def tw3746222095819510644:=0
def tw400932887760618193:=0
def tw11223289012457048712:=0
def tw8981056356907663686:=0
def tw10248571166134514962:=0
def tw3299021493857556937:=0
def tw3408516429130085202:=0
def tw18065265927130471530:=0
def tw539761919541523314:=0
def tw13687355894998080532:=0
def tw15167604100920999352:=0
def tw10592885614533381674:=0
def tw6886542730778514866:=0
def tw12393731034775792362:=0
def tw5015013135677863779:=0
def tw13800472200004936504:=0
def tw16457239810565986738:=0
def tw2986304108920434754:=0
def tw6961243443821618254:=0
def tw15629217616578267945:=0
def tw11704870139604477565:=0
def tw9891262869388788018:=0
def tw14819001611891357519:=0
def tw10862112407625829718:=0
def tw4050963255598591167:=0
def tw3951977963167484330:=0
def tw14110094541716618163:=0
def tw8529367804759955167:=0
def tw8011987898772372236:=0
def tw11259769982518834170:=0
def tw13190895468027161440:=0
def tw6346662240306288275:=0
def tw13803561272583134603:=0
def tw9268357123351700114:=0
def tw1730446258943322103:=0
def tw6701893525395000459:=0
def tw7970803054953262337:=0
def tw11475182797773046110:=0
def tw16946641297192820781:=0
def tw17796286859413091348:=0
def tw11082658538345040976:=0
def tw14032531953571127771:=0
def tw5797167130670576880:=0
def tw3744620484618825250:=0
def tw38413146335277272:=0
def tw2318230722077130208:=0
def tw7348168817717887172:=0
def tw5957163452233005089:=0
def tw17675977763360029659:=0
def tw10338836913858287785:=0
def tw5707008266103222338:=0
def tw5885159624585546485:=0
def tw3459288814435187632:=0
def tw7039647749409001123:=0
def tw4945689069896898639:=0
def tw11529350844655307020:=0
def tw1424379381377922630:=0
def tw15008516834486971402:=0
def tw3295183447102092835:=0
def tw4019964850183552944:=0
def tw4843931085840220495:=0
def tw4321561069915092057:=0
def tw9999625104196131980:=0
def tw9716086232568443444:=0
def tw15048294093504020704:=0
def tw11772622854958268295:=0
def tw15536089282874310888:=0
def tw4530238345163762242:=0
def tw13095980533858274697:=0
def tw7056785370744596673:=0
def tw9960693033242627481:=0
def tw9485637958171685115:=0
def tw4578611433675726019:=0
end PySem.W.Fast
open PySem PySem.W PyProof.Rows
set_option maxRecDepth 100000 in
set_option maxHeartbeats 0 in
theorem PySem.Challenge.cw_ohmyard_k56_tables_as_nets_holds : PySem.Challenge.rw_ohmyard_k56_tables_as_nets.Holds := by
  w_on; o_law; z_head; (case hw => w_witness2)
  k_fill
  refine L2.walkX_of (fun _ => by kernel_rfl) (K56.walk (l := PySem.Challenge.rw_ohmyard_k56_tables_as_nets) rfl rfl (fun w h Y => Y) ?F)
  case F =>
    intro w mg fa h KX G hmg
    refine' K56.all_mk KX G hmg ?y_Row ?y_Piece ?y_Push ?y_Hold ?y_Net ?y_Table ?y_OhmError ?y_TooMany ?a1 ?l1 ?c1 ?k1 ?a2 ?l2 ?c2 ?k2 ?a3 ?l3 ?c3 ?k3 ?a4 ?l4 ?c4 ?k4 ?lt4 ?a5 ?l5 ?c5 ?k5 ?a6 ?l6 ?c6 ?k6 ?a7 ?l7 ?c7 ?k7 ?a8 ?l8 ?c8 ?k8 ?a9_0 ?a9_1 ?a9_2 ?i9 ?l9 ?c9 ?k9 ?a10_0 ?i10 ?l10 ?c10 ?k10 ?a11_0 ?i11 ?l11 ?c11 ?k11 ?a12_0 ?i12 ?l12 ?c12 ?k12 ?a13_0 ?i13 ?l13 ?c13 ?k13 ?a14_0 ?i14 ?l14 ?c14 ?k14 ?a15_0 ?i15 ?l15 ?c15 ?k15 ?a16_0 ?a16_1 ?a16_2 ?i16 ?l16 ?c16 ?k16 ?a17 ?l17 ?c17 ?k17 ?a18 ?l18 ?c18 ?k18 ?a19 ?l19 ?c19 ?k19 ?a20 ?l20 ?c20 ?k20 ?a21 ?l21 ?c21 ?k21 ?a22_0 ?i22 ?l22 ?c22 ?k22 ?a23_0 ?i23 ?l23 ?c23 ?k23 ?a24_0 ?i24 ?l24 ?c24 ?k24 ?a25_0 ?i25 ?l25 ?c25 ?k25 ?a26_0 ?i26 ?l26 ?c26 ?k26 ?a27_0 ?i27 ?l27 ?c27 ?k27 ?a28 ?l28 ?c28 ?k28 ?a29 ?l29 ?c29 ?k29 ?a30 ?l30 ?c30 ?k30 ?a31 ?l31 ?c31 ?k31 ?a32 ?l32 ?c32 ?k32 ?a33 ?l33 ?c33 ?k33 ?a34 ?l34 ?c34 ?k34 ?a35 ?l35 ?c35 ?k35 ?a36 ?l36 ?c36 ?k36 ?a37 ?l37 ?c37 ?k37 ?a38 ?l38 ?c38 ?k38 ?a39 ?l39 ?c39 ?k39 ?a40 ?l40 ?c40 ?k40 ?a41 ?l41 ?c41 ?k41 ?a42_0 ?i42 ?l42 ?c42 ?k42 ?a43_0 ?i43 ?l43 ?c43 ?k43 ?a44_0 ?i44 ?l44 ?c44 ?k44 ?a45_0 ?i45 ?l45 ?c45 ?k45 ?a46_0 ?i46 ?l46 ?c46 ?k46 ?a47 ?l47 ?c47 ?k47 ?a48 ?l48 ?c48 ?k48 ?a49 ?l49 ?c49 ?k49 ?a50 ?l50 ?c50 ?k50 ?a51 ?l51 ?c51 ?k51 ?a52 ?l52 ?c52 ?k52 ?a53 ?l53 ?c53 ?k53 ?a54 ?l54 ?c54 ?k54 ?a55 ?l55 ?c55 ?k55 ?a56 ?l56 ?c56 ?k56 ?a57 ?l57 ?c57 ?k57 ?a58 ?l58 ?c58 ?k58 ?a59 ?l59 ?c59 ?k59 ?a60 ?l60 ?c60 ?k60 ?a61 ?l61 ?c61 ?k61 ?a62 ?l62 ?c62 ?k62 ?a63 ?l63 ?c63 ?k63 ?a64 ?l64 ?c64 ?k64 ?a65 ?l65 ?c65 ?k65 ?a66 ?l66 ?c66 ?k66 ?a67 ?l67 ?c67 ?k67 ?v_ONE ?v_NOUGHT ?v_MOST_POINTS ?v_MOST_ROWS ?lO ?lN ?x1_TooMany ?xm_T ?pg_Piece ?hd_Piece ?po_Piece ?sa_Piece ?mk_Piece ?kc_Piece ?t1_Piece ?t4_Piece ?na_Piece_start ?na_Piece_goal ?na_Piece_size ?pg_Push ?hd_Push ?po_Push ?sa_Push ?mk_Push ?kc_Push ?t1_Push ?t4_Push ?na_Push_start ?na_Push_goal ?na_Push_size ?pg_Hold ?hd_Hold ?po_Hold ?sa_Hold ?mk_Hold ?kc_Hold ?t1_Hold ?t4_Hold ?na_Hold_start ?na_Hold_goal ?na_Hold_size ?tt2 ?tt3 ?isR_Piece ?isR_Push ?isR_Hold ?isK_Piece_Push ?isK_Piece_Hold ?isK_Push_Piece ?isK_Push_Hold ?isK_Hold_Piece ?isK_Hold_Push ?pg_Net ?hd_Net ?po_Net ?sa_Net ?mk_Net ?kc_Net ?t1_Net ?t4_Net ?na_Net_point_count ?na_Net_kept ?x2_TooMany ?x3_TooMany ?x4_TooMany ?x5_TooMany ?x6_TooMany ?x7_TooMany ?x8_TooMany ?x9_TooMany ?pg_Table ?hd_Table ?po_Table ?sa_Table ?mk_Table ?kc_Table ?t1_Table ?t4_Table ?na_Table_places ?na_Table_lines ?na_Table_arrivals ?z1 ?z2 ?z3 ?z4 ?z5 ?z6 ?z7 ?z8 ?z9 ?z10 ?z11 ?z12 ?z13 ?z14 ?z15
    (case y_Row=>k_is)
    (case y_Piece=>k_is)
    (case y_Push=>k_is)
    (case y_Hold=>k_is)
    (case y_Net=>k_is)
    (case y_Table=>k_is)
    (case y_OhmError=>k_is)
    (case y_TooMany=>k_is)
    (case a1=>k_is);(case l1=>k_is);(case c1=>k_is);(case k1=>k_is)
    (case a2=>k_is);(case l2=>k_is);(case c2=>k_is);(case k2=>k_is)
    (case a3=>k_is);(case l3=>k_is);(case c3=>k_is);(case k3=>k_is)
    (case a4=>k_is);(case l4=>k_is);(case c4=>k_is);(case k4=>k_is);(case lt4=>k_is)
    (case a5=>k_is);(case l5=>k_is);(case c5=>k_is);(case k5=>k_is)
    (case a6=>k_is);(case l6=>k_is);(case c6=>k_is);(case k6=>k_is)
    (case a7=>k_is);(case l7=>k_is);(case c7=>k_is);(case k7=>k_is)
    (case a8=>k_is);(case l8=>k_is);(case c8=>k_is);(case k8=>k_is)
    (case a9_0=>k_is);(case a9_1=>k_is);(case a9_2=>k_is);(case i9=>k_is);(case l9=>k_is);(case c9=>k_is);(case k9=>k_is)
    (case a10_0=>k_is);(case i10=>k_is);(case l10=>k_is);(case c10=>k_is);(case k10=>k_is)
    (case a11_0=>k_is);(case i11=>k_is);(case l11=>k_is);(case c11=>k_is);(case k11=>k_is)
    (case a12_0=>k_is);(case i12=>k_is);(case l12=>k_is);(case c12=>k_is);(case k12=>k_is)
    (case a13_0=>k_is);(case i13=>k_is);(case l13=>k_is);(case c13=>k_is);(case k13=>k_is)
    (case a14_0=>k_is);(case i14=>k_is);(case l14=>k_is);(case c14=>k_is);(case k14=>k_is)
    (case a15_0=>k_is);(case i15=>k_is);(case l15=>k_is);(case c15=>k_is);(case k15=>k_is)
    (case a16_0=>k_is);(case a16_1=>k_is);(case a16_2=>k_is);(case i16=>k_is);(case l16=>k_is);(case c16=>k_is);(case k16=>k_is)
    (case a17=>k_is);(case l17=>k_is);(case c17=>k_is);(case k17=>k_is)
    (case a18=>k_is);(case l18=>k_is);(case c18=>k_is);(case k18=>k_is)
    (case a19=>k_is);(case l19=>k_is);(case c19=>k_is);(case k19=>k_is)
    (case a20=>k_is);(case l20=>k_is);(case c20=>k_is);(case k20=>k_is)
    (case a21=>k_is);(case l21=>k_is);(case c21=>k_is);(case k21=>k_is)
    (case a22_0=>k_is);(case i22=>k_is);(case l22=>k_is);(case c22=>k_is);(case k22=>k_is)
    (case a23_0=>k_is);(case i23=>k_is);(case l23=>k_is);(case c23=>k_is);(case k23=>k_is)
    (case a24_0=>k_is);(case i24=>k_is);(case l24=>k_is);(case c24=>k_is);(case k24=>k_is)
    (case a25_0=>k_is);(case i25=>k_is);(case l25=>k_is);(case c25=>k_is);(case k25=>k_is)
    (case a26_0=>k_is);(case i26=>k_is);(case l26=>k_is);(case c26=>k_is);(case k26=>k_is)
    (case a27_0=>k_is);(case i27=>k_is);(case l27=>k_is);(case c27=>k_is);(case k27=>k_is)
    (case a28=>k_is);(case l28=>k_is);(case c28=>k_is);(case k28=>k_is)
    (case a29=>k_is);(case l29=>k_is);(case c29=>k_is);(case k29=>k_is)
    (case a30=>k_is);(case l30=>k_is);(case c30=>k_is);(case k30=>k_is)
    (case a31=>k_is);(case l31=>k_is);(case c31=>k_is);(case k31=>k_is)
    (case a32=>k_is);(case l32=>k_is);(case c32=>k_is);(case k32=>k_is)
    (case a33=>k_is);(case l33=>k_is);(case c33=>k_is);(case k33=>k_is)
    (case a34=>k_is);(case l34=>k_is);(case c34=>k_is);(case k34=>k_is)
    (case a35=>k_is);(case l35=>k_is);(case c35=>k_is);(case k35=>k_is)
    (case a36=>k_is);(case l36=>k_is);(case c36=>k_is);(case k36=>k_is)
    (case a37=>k_is);(case l37=>k_is);(case c37=>k_is);(case k37=>k_is)
    (case a38=>k_is);(case l38=>k_is);(case c38=>k_is);(case k38=>k_is)
    (case a39=>k_is);(case l39=>k_is);(case c39=>k_is);(case k39=>k_is)
    (case a40=>k_is);(case l40=>k_is);(case c40=>k_is);(case k40=>k_is)
    (case a41=>k_is);(case l41=>k_is);(case c41=>k_is);(case k41=>k_is)
    (case a42_0=>k_is);(case i42=>k_is);(case l42=>k_is);(case c42=>k_is);(case k42=>k_is)
    (case a43_0=>k_is);(case i43=>k_is);(case l43=>k_is);(case c43=>k_is);(case k43=>k_is)
    (case a44_0=>k_is);(case i44=>k_is);(case l44=>k_is);(case c44=>k_is);(case k44=>k_is)
    (case a45_0=>k_is);(case i45=>k_is);(case l45=>k_is);(case c45=>k_is);(case k45=>k_is)
    (case a46_0=>k_is);(case i46=>k_is);(case l46=>k_is);(case c46=>k_is);(case k46=>k_is)
    (case a47=>k_is);(case l47=>k_is);(case c47=>k_is);(case k47=>k_is)
    (case a48=>k_is);(case l48=>k_is);(case c48=>k_is);(case k48=>k_is)
    (case a49=>k_is);(case l49=>k_is);(case c49=>k_is);(case k49=>k_is)
    (case a50=>k_is);(case l50=>k_is);(case c50=>k_is);(case k50=>k_is)
    (case a51=>k_is);(case l51=>k_is);(case c51=>k_is);(case k51=>k_is)
    (case a52=>k_is);(case l52=>k_is);(case c52=>k_is);(case k52=>k_is)
    (case a53=>k_is);(case l53=>k_is);(case c53=>k_is);(case k53=>k_is)
    (case a54=>k_is);(case l54=>k_is);(case c54=>k_is);(case k54=>k_is)
    (case a55=>k_is);(case l55=>k_is);(case c55=>k_is);(case k55=>k_is)
    (case a56=>k_is);(case l56=>k_is);(case c56=>k_is);(case k56=>k_is)
    (case a57=>k_is);(case l57=>k_is);(case c57=>k_is);(case k57=>k_is)
    (case a58=>k_is);(case l58=>k_is);(case c58=>k_is);(case k58=>k_is)
    (case a59=>k_is);(case l59=>k_is);(case c59=>k_is);(case k59=>k_is)
    (case a60=>k_is);(case l60=>k_is);(case c60=>k_is);(case k60=>k_is)
    (case a61=>k_is);(case l61=>k_is);(case c61=>k_is);(case k61=>k_is)
    (case a62=>k_is);(case l62=>k_is);(case c62=>k_is);(case k62=>k_is)
    (case a63=>k_is);(case l63=>k_is);(case c63=>k_is);(case k63=>k_is)
    (case a64=>k_is);(case l64=>k_is);(case c64=>k_is);(case k64=>k_is)
    (case a65=>k_is);(case l65=>k_is);(case c65=>k_is);(case k65=>k_is)
    (case a66=>k_is);(case l66=>k_is);(case c66=>k_is);(case k66=>k_is)
    (case a67=>k_is);(case l67=>k_is);(case c67=>k_is);(case k67=>k_is)
    (case v_ONE=>k_is)
    (case v_NOUGHT=>k_is)
    (case v_MOST_POINTS=>k_is)
    (case v_MOST_ROWS=>k_is)
    (case lO=>k_is)
    (case lN=>k_is)
    (case x1_TooMany=>k_exc)
    (case xm_T=>kts_exm)
    (case pg_Piece=>k_is)
    (case hd_Piece=>k_is)
    (case po_Piece=>k_is)
    (case sa_Piece=>k_is)
    (case mk_Piece=>k_is)
    (case kc_Piece=>k_is)
    (case t1_Piece=>k_is)
    (case t4_Piece=>k_is)
    (case na_Piece_start=>k_is)
    (case na_Piece_goal=>k_is)
    (case na_Piece_size=>k_is)
    (case pg_Push=>k_is)
    (case hd_Push=>k_is)
    (case po_Push=>k_is)
    (case sa_Push=>k_is)
    (case mk_Push=>k_is)
    (case kc_Push=>k_is)
    (case t1_Push=>k_is)
    (case t4_Push=>k_is)
    (case na_Push_start=>k_is)
    (case na_Push_goal=>k_is)
    (case na_Push_size=>k_is)
    (case pg_Hold=>k_is)
    (case hd_Hold=>k_is)
    (case po_Hold=>k_is)
    (case sa_Hold=>k_is)
    (case mk_Hold=>k_is)
    (case kc_Hold=>k_is)
    (case t1_Hold=>k_is)
    (case t4_Hold=>k_is)
    (case na_Hold_start=>k_is)
    (case na_Hold_goal=>k_is)
    (case na_Hold_size=>k_is)
    (case tt2=>k_is)
    (case tt3=>k_is)
    (case isR_Piece=>kit_is)
    (case isR_Push=>kit_is)
    (case isR_Hold=>kit_is)
    (case isK_Piece_Push=>kit_is)
    (case isK_Piece_Hold=>kit_is)
    (case isK_Push_Piece=>kit_is)
    (case isK_Push_Hold=>kit_is)
    (case isK_Hold_Piece=>kit_is)
    (case isK_Hold_Push=>kit_is)
    (case pg_Net=>k_is)
    (case hd_Net=>k_is)
    (case po_Net=>k_is)
    (case sa_Net=>k_is)
    (case mk_Net=>k_is)
    (case kc_Net=>k_is)
    (case t1_Net=>k_is)
    (case t4_Net=>k_is)
    (case na_Net_point_count=>k_is)
    (case na_Net_kept=>k_is)
    (case x2_TooMany=>k_is)
    (case x3_TooMany=>k_is)
    (case x4_TooMany=>k_is)
    (case x5_TooMany=>k_is)
    (case x6_TooMany=>k_is)
    (case x7_TooMany=>k_is)
    (case x8_TooMany=>k_is)
    (case x9_TooMany=>first | k_is | rfl | decide)
    (case pg_Table=>k_is)
    (case hd_Table=>k_is)
    (case po_Table=>k_is)
    (case sa_Table=>k_is)
    (case mk_Table=>k_is)
    (case kc_Table=>k_is)
    (case t1_Table=>k_is)
    (case t4_Table=>k_is)
    (case na_Table_places=>k_is)
    (case na_Table_lines=>k_is)
    (case na_Table_arrivals=>k_is)
    (case z1=>k_is)
    (case z2=>k_is)
    (case z3=>k_is)
    (case z4=>k_is)
    (case z5=>k_is)
    (case z6=>k_is)
    (case z7=>k_is)
    (case z8=>k_is)
    (case z9=>k_is)
    (case z10=>k_is)
    (case z11=>k_is)
    (case z12=>k_is)
    (case z13=>k_is)
    (case z14=>k_is)
    (case z15=>k_is)
