import PyProof.Rows.All
import Wide.All
import OpenK.AllK
import Wide.FinOn
import Lean
import PyProof.EqAt
import PyProof.EqKinds
import PyProof.TupleCall
import PyProof.Cells
import PyProof.SumWalkG
import PyProof.EnumStmt
import PyProof.EnumMake
import PyProof.InstStoreFacts
import KE.KDictList
import PySem.Challenge.RW_ohmyard_k64_partings_listed
set_option Elab.async false
set_option linter.all false
set_option maxRecDepth 100000
namespace L2
open PySem PySem.Spec PyProof.Rows

abbrev Key := Sum Int Str
def keyIs : Key → Value → Bool
  | .inl k, v => Value.isInt k v
  | .inr x, v => Value.isStrOf x v
def keyH (w : World) : Key → Int
  | .inl k => hashInt k
  | .inr x => hashStr w x
theorem keyIs_shape : ∀ {k : Key} {v : Value}, keyIs k v = true → (∃ i t, k = Sum.inl i ∧ v = Value.int i t) ∨ (∃ x t, k = Sum.inr x ∧ v = Value.str x t)
  | .inl i, v, h => by
    obtain ⟨t, e⟩ := Value.isInt_shape (k := i) (v := v) h
    exact .inl ⟨i, t, rfl, e⟩
  | .inr x, v, h => by
    obtain ⟨t, e⟩ := Value.isStrOf_shape (x := x) (v := v) h
    exact .inr ⟨x, t, rfl, e⟩
theorem key_ll (a b : Int) : decide ((Sum.inl a : Key) = Sum.inl b) = (a == b) := by
  by_cases e : a = b
  · subst e; simp
  · have h : ¬ (Sum.inl a : Key) = Sum.inl b := fun q => e (Sum.inl.inj q)
    rw [decide_eq_false h]
    exact (beq_eq_false_iff_ne.mpr e).symm
theorem key_rr (a b : Str) : decide ((Sum.inr a : Key) = Sum.inr b) = decide (a = b) := by
  by_cases e : a = b
  · subst e; simp
  · have h : ¬ (Sum.inr a : Key) = Sum.inr b := fun q => e (Sum.inr.inj q)
    rw [decide_eq_false h, decide_eq_false e]
theorem key_lr (a : Int) (b : Str) : decide ((Sum.inl a : Key) = Sum.inr b) = false := decide_eq_false (fun q => nomatch q)
theorem key_rl (a : Str) (b : Int) : decide ((Sum.inr a : Key) = Sum.inl b) = false := decide_eq_false (fun q => nomatch q)

def mixKind (prog : Program) (w : World) : PySem.KeyKind prog w Key where
  is := keyIs
  hash := keyH w
  inj := fun v a b ha hb => by
    rcases keyIs_shape ha with ⟨i, t, rfl, rfl⟩ | ⟨x, t, rfl, rfl⟩
    · rcases keyIs_shape hb with ⟨j, u, rfl, e⟩ | ⟨y, u, rfl, e⟩
      · injection e with e1 _; rw [e1]
      · exact nomatch e
    · rcases keyIs_shape hb with ⟨j, u, rfl, e⟩ | ⟨y, u, rfl, e⟩
      · exact nomatch e
      · injection e with e1 _; rw [e1]
  byValue := fun k v h => by
    rcases keyIs_shape h with ⟨i, t, rfl, rfl⟩ | ⟨x, t, rfl, rfl⟩ <;> rfl
  pyHash := fun hv h => by
    rcases keyIs_shape hv with ⟨i, t, rfl, rfl⟩ | ⟨x, t, rfl, rfl⟩
    · exact wpAny_pyHash_int h
    · exact wpAny_pyHash_str h
  eqBool := fun hu hv h => by
    rcases keyIs_shape hu with ⟨i, t, rfl, rfl⟩ | ⟨x, t, rfl, rfl⟩
    · rcases keyIs_shape hv with ⟨j, u, rfl, rfl⟩ | ⟨y, u, rfl, rfl⟩
      · rw [key_ll] at h; exact wpAny_eqBool_int h
      · rw [key_lr] at h; exact SeqAt.EqAt.int_str i t y u _ _ _ _ h
    · rcases keyIs_shape hv with ⟨j, u, rfl, rfl⟩ | ⟨y, u, rfl, rfl⟩
      · rw [key_rl] at h; exact SeqAt.EqAt.str_int x t j u _ _ _ _ h
      · rw [key_rr] at h; exact wpAny_eqBool_str h
  «strs» := fun k x t v h => by
    rcases keyIs_shape h with ⟨i, u, rfl, e⟩ | ⟨y, u, rfl, e⟩
    · exact nomatch e
    · injection e with e1 _
      subst e1
      cases v <;> rfl

end L2

namespace L2
open PySem PySem.Spec PyProof.Rows

inductive V where
  | non | bl (b : Bool) | int (i : Int) | str (x : Str) | byt (b : Array UInt8) | flt (b : UInt64) | ref (a : Addr) | ty (n : String)
  deriving DecidableEq

def RelV : V → Value → Prop
  | .non, u => u = Value.none
  | .bl b, u => u = Value.bool b
  | .int i, u => ∃ t, u = Value.int i t
  | .str x, u => ∃ t, u = Value.str x t
  | .byt b, u => ∃ t, u = Value.bytes b t
  | .flt b, u => ∃ t, u = Value.float b t
  | .ref a, u => u = Value.ref a
  | .ty n, u => u = Value.type n

abbrev Vals : List V → List Value → Prop := Paired RelV
theorem Vals.length {xs : List V} {us : List Value} (r : Vals xs us) : xs.length = us.length := Paired.length r
theorem Vals.get : ∀ {xs : List V} {us : List Value} {i : Nat} {x : V}, Vals xs us → xs[i]? = some x → ∃ u, us[i]? = some u ∧ RelV x u
  | _, _, _, _, .nil, e => by simp at e
  | _, _, 0, _, .cons r _, e => by simp at e; subst e; exact ⟨_, rfl, r⟩
  | _, _, i + 1, x, .cons _ t, e => by
    obtain ⟨u, h1, h2⟩ := Vals.get (i := i) (x := x) t (by simpa using e)
    exact ⟨u, by simpa using h1, h2⟩
theorem Vals.append : ∀ {xs ys : List V} {us ws : List Value}, Vals xs us → Vals ys ws → Vals (xs ++ ys) (us ++ ws)
  | _, _, _, _, .nil, s => s
  | _, _, _, _, .cons r t, s => .cons r (Vals.append t s)
theorem Vals.take : ∀ {xs : List V} {us : List Value} (n : Nat), Vals xs us → Vals (xs.take n) (us.take n)
  | _, _, 0, _ => .nil
  | _, _, _ + 1, .nil => .nil
  | _, _, n + 1, .cons r t => .cons r (Vals.take n t)
theorem Vals.drop : ∀ {xs : List V} {us : List Value} (n : Nat), Vals xs us → Vals (xs.drop n) (us.drop n)
  | _, _, 0, r => r
  | _, _, _ + 1, .nil => .nil
  | _, _, n + 1, .cons _ t => Vals.drop n t
def RelO : Option V → Option Value → Prop
  | some v, some u => RelV v u
  | none, none => True
  | _, _ => False
def KV {κ : Type} : List (κ × V) → List (κ × Value) → Prop := Paired fun (p : κ × V) (q : κ × Value) => p.1 = q.1 ∧ RelV p.2 q.2

def kV : Key → V
  | .inl i => .int i
  | .inr x => .str x

inductive HO where
  | lst (xs : List V)
  | tup (xs : List V)
  | dK (kvs : List (Key × V)) | dT (kvs : List (List Key × V))
  | set (S : Int → Bool) (n : Nat)
  | ins (C dx : Addr) (fs : List (Str × V))
  | own (x : Addr)
  | xd (fs : List (Str × V))
  | met (f x : Addr)
  | rng (lo hi : Int)
  | frz (o : Obj) (u : HO)
  | tbl (ps : Array Value)
  | ext (φ : Heap → Prop)

abbrev Hp := Addr → Option HO
def upd (H : Hp) (a : Addr) (o : HO) : Hp := fun b => if b = a then some o else H b
theorem upd_same {H : Hp} {a : Addr} {o : HO} : upd H a o a = some o := by unfold upd; rw [if_pos rfl]
theorem upd_ne {H : Hp} {a b : Addr} {o : HO} (h : b ≠ a) : upd H a o b = H b := by unfold upd; rw [if_neg h]
theorem upd_upd {H : Hp} {a : Addr} {o u : HO} : upd (upd H a o) a u = upd H a u := by
  funext b; unfold upd; split <;> rfl
theorem ne_of {H : Hp} {a b : Addr} {o u : HO} (h : H a = some o) (h' : H b = some u) (d : o ≠ u) : a ≠ b := by
  intro e; subst e; rw [h] at h'; exact d (Option.some.inj h')
theorem ne_of_none {H : Hp} {a b : Addr} {o : HO} (h : H a = some o) (h' : H b = none) : a ≠ b := by
  intro e; subst e; rw [h] at h'; cases h'

section
variable (P : Program) (w : World)
def ObjOk (H : Hp) (h : Heap) (a : Addr) : HO → Prop
  | .lst xs => xs.length ≤ sizeLine ∧ ∃ (its : List Value) (n : Nat), Vals xs its ∧ h.get? a = some { cls := .type "list", data := .seq its.toArray n }
  | .tup xs => xs.length ≤ sizeLine ∧ ∃ its : List Value, Vals xs its ∧ IsTup h a its.toArray
  | .dK kvs => kvs.length ≤ sizeLine ∧ (a == sysModules) = false ∧ ∃ vs, KV kvs vs ∧ h.DictOf (mixKind P w) a vs
  | .dT kvs => kvs.length ≤ sizeLine ∧ (a == sysModules) = false ∧ ∃ xs : List (List Key × Addr × Value),
      Paired (fun (p : List Key × V) (q : List Key × Addr × Value) => p.1 = q.1 ∧ H q.2.1 = some (.tup (p.1.map kV)) ∧ RelV p.2 q.2.2) kvs xs ∧
      ∃ o es ep, h.get? a = some o ∧ o.ExactDict ∧ o.data = .dict es ep ∧ es.toList = xs.map (entryOfKey (tupleKind (mixKind P w))) ∧ (xs.map (·.1)).Nodup
  | .set S n => h.SetOf (intKind P w) a S n
  | .ins C dx fs => H dx = some (.own a) ∧ fs.length ≤ 1000 ∧ dx ≠ a ∧ h.get? a = some (PySem.W.instObj C dx) ∧
      ∃ mA, h.Ns1 dx mA ∧ (∀ f, RelO (fs.lookup f) (mA f)) ∧ PySem.Within mA (fs.map (·.1))
  | .own _ => ∃ o, h.get? a = some o
  | .xd fs => ∃ mA, h.Ns1 a mA ∧ ∀ f, RelO (fs.lookup f) (mA f)
  | .rng lo hi => ∃ t u v, h.get? a = some { cls := .type "range", data := .fields #[.int lo t, .int hi u, .int 1 v] }
  | .frz o u => h.get? a = some o ∧ ObjOk H h a u
  | .tbl ps => h.get? a = some { cls := .none, data := .fields ps }
  | .met f x => h.get? a = some (PySem.W.methodObj (.ref f) (.ref x))
  | .ext φ => φ h ∧ (∃ o, h.get? a = some o) ∧ ∀ h1 h2 : Heap, φ h1 → (∀ o, h1.get? a = some o → h2.get? a = some o) → φ h2
def HOk (H : Hp) (h : Heap) : Prop := ∀ a o, H a = some o → ObjOk P w H h a o
end

section
variable {P : Program} {w : World} {H H' : Hp} {h h' : Heap} {a : Addr} {o : HO}
theorem ObjOk.lt (x : ObjOk P w H h a o) : a < h.objs.size := by
  cases o with
  | lst xs => obtain ⟨_, _, _, _, e⟩ := x; exact Heap.lt_size e
  | tup xs => obtain ⟨_, _, _, p⟩ := x; exact p.lt
  | dK kvs => obtain ⟨_, _, _, _, o, _, _, e, _⟩ := x; exact Heap.lt_size e
  | dT kvs => obtain ⟨_, _, _, _, o, _, _, e, _⟩ := x; exact Heap.lt_size e
  | set S n => obtain ⟨o, _, _, _, e, _⟩ := x; exact Heap.lt_size e
  | ins C dx fs => obtain ⟨_, _, _, e, _⟩ := x; exact Heap.lt_size e
  | own y => obtain ⟨_, e⟩ := x; exact Heap.lt_size e
  | xd fs => obtain ⟨_, ⟨_, _, _, e, _⟩, _⟩ := x; exact Heap.lt_size e
  | rng lo hi => obtain ⟨_, _, _, e⟩ := x; exact Heap.lt_size e
  | frz ob u => obtain ⟨e, _⟩ := x; exact Heap.lt_size e
  | tbl ps => exact Heap.lt_size (show h.get? a = some _ from x)
  | met f y => exact Heap.lt_size (show h.get? a = some _ from x)
  | ext φ => obtain ⟨_, ⟨_, e⟩, _⟩ := x; exact Heap.lt_size e
theorem Paired.mapP {α β : Type} {F G : α → β → Prop} : ∀ {l₁ : List α} {l₂ : List β}, Paired F l₁ l₂ → (∀ a b, F a b → G a b) → Paired G l₁ l₂
  | _, _, .nil, _ => .nil
  | _, _, .cons r t, f => .cons (f _ _ r) (Paired.mapP t f)
theorem ObjOk.stay (x : ObjOk P w H h a o) (k : ∀ b u, (b = a ∨ H b = some (.own a)) → h.get? b = some u → h'.get? b = some u)
    (ho : ∀ b, H b = some (.own a) → H' b = some (.own a)) (ht : ∀ b xs, H b = some (.tup xs) → H' b = some (.tup xs)) : ObjOk P w H' h' a o := by
  induction o with
  | lst xs => obtain ⟨z, its, n, r, e⟩ := x; exact ⟨z, its, n, r, k _ _ (.inl rfl) e⟩
  | tup xs => obtain ⟨z, its, r, ob, e, c⟩ := x; exact ⟨z, its, r, ob, k _ _ (.inl rfl) e, c⟩
  | dK kvs => obtain ⟨z, y, vs, r, ob, es, ep, e, c⟩ := x; exact ⟨z, y, vs, r, ob, es, ep, k _ _ (.inl rfl) e, c⟩
  | dT kvs =>
    obtain ⟨z, y, xs, r, ob, es, ep, e, c⟩ := x
    exact ⟨z, y, xs, Paired.mapP r fun p q z => ⟨z.1, ht _ _ z.2.1, z.2.2⟩, ob, es, ep, k _ _ (.inl rfl) e, c⟩
  | set S n => obtain ⟨ob, es, ep, t, e, c⟩ := x; exact ⟨ob, es, ep, t, k _ _ (.inl rfl) e, c⟩
  | ins C dx fs =>
    obtain ⟨d, z, ne, e, mA, ⟨od, es, ep, e2, c⟩, r⟩ := x
    exact ⟨ho _ d, z, ne, k _ _ (.inl rfl) e, mA, ⟨od, es, ep, k _ _ (.inr d) e2, c⟩, r⟩
  | own y => obtain ⟨ob, e⟩ := x; exact ⟨ob, k _ _ (.inl rfl) e⟩
  | xd fs => obtain ⟨mA, ⟨od, es, ep, e, c⟩, r⟩ := x; exact ⟨mA, ⟨od, es, ep, k _ _ (.inl rfl) e, c⟩, r⟩
  | rng lo hi => obtain ⟨t, u, v, e⟩ := x; exact ⟨t, u, v, k _ _ (.inl rfl) e⟩
  | frz ob u ih => obtain ⟨e, q⟩ := x; exact ⟨k _ _ (.inl rfl) e, ih q⟩
  | tbl ps =>
    have e : h.get? a = some { cls := .none, data := .fields ps } := x
    show h'.get? a = some { cls := .none, data := .fields ps }
    exact k a _ (.inl rfl) e
  | met f y =>
    have e : h.get? a = some (PySem.W.methodObj (.ref f) (.ref y)) := x
    show h'.get? a = some (PySem.W.methodObj (.ref f) (.ref y))
    exact k a _ (.inl rfl) e
  | ext φ => obtain ⟨p, ⟨o, e⟩, st⟩ := x; exact ⟨st _ _ p fun o q => k _ _ (.inl rfl) q, ⟨o, k _ _ (.inl rfl) e⟩, st⟩
theorem HOk.lt (x : HOk P w H h) (e : H a = some o) : a < h.objs.size := (x a o e).lt
theorem HOk.fresh (x : HOk P w H h) (e : h.objs.size ≤ a) : H a = none := by
  cases q : H a with
  | none => rfl
  | some u => exact absurd (Nat.lt_of_lt_of_le (x.lt q) e) (Nat.lt_irrefl _)
theorem HOk.kept (x : HOk P w H h) (k : ∀ b u, h.get? b = some u → h'.get? b = some u) : HOk P w H h' := fun a o e =>
  (x a o e).stay (fun b u _ q => k b u q) (fun _ q => q) fun _ _ q => q
theorem HOk.laid (x : HOk P w H h) (k : ∀ b u, h.get? b = some u → h'.get? b = some u) (hp : h.objs.size ≤ a) (new : ObjOk P w (upd H a o) h' a o) : HOk P w (upd H a o) h' := fun b u e => by
  have hn := x.fresh hp
  by_cases hb : b = a
  · subst hb; rw [upd_same] at e; cases e; exact new
  · rw [upd_ne hb] at e
    exact (x b u e).stay (fun c v _ q => k c v q) (fun c q => by rw [upd_ne (ne_of_none q hn)]; exact q) fun c xs q => by rw [upd_ne (ne_of_none q hn)]; exact q
end

def Rd (H : Hp) (a : Addr) (u : HO) : Prop := H a = some u ∨ ∃ o, H a = some (.frz o u)
theorem Rd.ok {P : Program} {w : World} {H : Hp} {h : Heap} {a : Addr} {u : HO} (r : Rd H a u) (x : HOk P w H h) : ObjOk P w H h a u := by
  rcases r with r | ⟨o, r⟩
  · exact x a u r
  · obtain ⟨_, q⟩ := x a _ r
    exact q
def Mut : Option HO → Prop
  | some (.lst _) => True
  | some (.dK _) => True
  | some (.dT _) => True
  | some (.set _ _) => True
  | some (.ins _ _ _) => True
  | some (.ext _) => True
  | _ => False
section
variable {P : Program} {w : World} {H : Hp} {h h' : Heap} {x e : Addr} {o' : HO}
theorem HOk.write (ok : HOk P w H h) (mu : Mut (H x)) (he : e = x ∨ H e = some (.own x)) (k : ∀ b u, b ≠ e → h.get? b = some u → h'.get? b = some u) (heo : ∃ u, h'.get? e = some u)
    (new : ObjOk P w (upd H x o') h' x o') : HOk P w (upd H x o') h' := fun b u q => by
  have nown : ∀ c y, H c = some (.own y) → c ≠ x := fun c y r z => by subst z; rw [r] at mu; exact mu
  have ntup : ∀ c xs, H c = some (.tup xs) → c ≠ x := fun c xs r z => by subst z; rw [r] at mu; exact mu
  by_cases hb : b = x
  · subst hb; rw [upd_same] at q; cases q; exact new
  · rw [upd_ne hb] at q
    by_cases hbe : b = e
    · have q' : H b = some (.own x) := by
        rcases he with z | z
        · exact absurd (hbe.trans z) hb
        · rw [hbe]; exact z
      rw [q] at q'; cases q'
      obtain ⟨v, hv⟩ := heo
      exact ⟨v, by rw [hbe]; exact hv⟩
    · refine (ok b u q).stay (fun c v hc r => k c v ?_ r) (fun c r => by rw [upd_ne (nown c b r)]; exact r) fun c xs r => by rw [upd_ne (ntup c xs r)]; exact r
      rcases hc with rfl | hc
      · exact hbe
      · rintro rfl
        rcases he with z | z
        · exact nown c b hc z
        · rw [hc] at z; cases z; exact hb rfl
end

structure Un (fs ex : List Addr) (H H' : Hp) (h h' : Heap) : Prop where
  keep : ∀ b o, h.get? b = some o → H b = none → b ∉ fs → b ∉ ex → h'.get? b = some o
  slot : ∀ b o, h.get? b = some o → H b = none → b ∈ fs → b ∉ ex → ∃ sl, h'.get? b = some { o with slots := sl }
  free : ∀ b o, h.get? b = some o → H b = none → b ∉ ex → H' b = none
  there : ∀ b o, h.get? b = some o → b ∉ ex → ∃ o', h'.get? b = some o'
  tups : ∀ b xs, H b = some (.tup xs) → H' b = some (.tup xs)
  frzs : ∀ b o u, H b = some (.frz o u) → H' b = some (.frz o u)
  tbls : ∀ b ps, H b = some (.tbl ps) → ∃ more, H' b = some (.tbl (ps ++ more))
section
variable {fs fs' ex ex' : List Addr} {H H1 H2 : Hp} {h h1 h2 h' : Heap} {a x e : Addr} {o : HO}
theorem Un.any (u : Un fs ex H H1 h h1) {b : Addr} {ob : Obj} (q : h.get? b = some ob) (n : H b = none) (hx : b ∉ ex) : ∃ sl, h1.get? b = some { ob with slots := sl } := by
  by_cases hb : b ∈ fs
  · exact u.slot b ob q n hb hx
  · exact ⟨ob.slots, u.keep b ob q n hb hx⟩
theorem Un.kept (k : ∀ b u, h.get? b = some u → h'.get? b = some u) : Un fs ex H H h h' :=
  ⟨fun b ob q _ _ _ => k b ob q, fun b ob q _ _ _ => ⟨ob.slots, k b ob q⟩, fun _ _ _ n _ => n, fun b ob q _ => ⟨ob, k b ob q⟩, fun _ _ q => q, fun _ _ _ q => q, fun _ ps q => ⟨#[], by rw [q]; simp⟩⟩
theorem Un.refl : Un fs ex H H h h := Un.kept fun _ _ q => q
theorem Un.laid (k : ∀ b u, h.get? b = some u → h'.get? b = some u) (hp : h.objs.size ≤ a) (hn : H a = none) : Un fs ex H (upd H a o) h h' where
  keep := fun b u q _ _ _ => k b u q
  slot := fun b u q _ _ _ => ⟨u.slots, k b u q⟩
  free := fun b u q n _ => by rw [upd_ne (Nat.ne_of_lt (Nat.lt_of_lt_of_le (Heap.lt_size q) hp))]; exact n
  there := fun b u q _ => ⟨u, k b u q⟩
  tups := fun b xs q => by rw [upd_ne (ne_of_none q hn)]; exact q
  frzs := fun b u xs q => by rw [upd_ne (ne_of_none q hn)]; exact q
  tbls := fun b ps q => ⟨#[], by rw [upd_ne (ne_of_none q hn), q]; simp⟩
theorem Un.write (mu : Mut (H x)) (he : e = x ∨ H e = some (.own x)) (k : ∀ b u, b ≠ e → h.get? b = some u → h'.get? b = some u) (heo : ∃ u, h'.get? e = some u) : Un fs ex H (upd H x o) h h' := by
  have hx : ∀ b, H b = none → b ≠ x := fun b n z => by subst z; rw [n] at mu; exact mu
  have hb : ∀ b, H b = none → b ≠ e := fun b n z => by
    subst z
    rcases he with r | r
    · exact hx b n r
    · rw [n] at r; cases r
  have hm : ∀ b u, H b = some u → ¬ Mut (some u) → b ≠ x := fun b u q nm z => by subst z; rw [q] at mu; exact nm mu
  refine ⟨fun b u q n _ _ => k b u (hb b n) q, fun b u q n _ _ => ⟨u.slots, k b u (hb b n) q⟩, fun b u q n _ => by rw [upd_ne (hx b n)]; exact n, fun b u q _ => ?_,
    fun b xs q => by rw [upd_ne (hm b _ q fun z => z)]; exact q, fun b u xs q => by rw [upd_ne (hm b _ q fun z => z)]; exact q, fun b ps q => ⟨#[], by rw [upd_ne (hm b _ q fun z => z), q]; simp⟩⟩
  by_cases hbe : b = e
  · subst hbe; exact heo
  · exact ⟨u, k b u hbe q⟩
end

def trk (h : Heap) (H : Hp) : List Addr := (List.range h.objs.size).filter fun a => (H a).isSome
def hidT (h : Heap) (H : Hp) : Heap := PySem.W.hideAll h (trk h H)
theorem hidT_size (h : Heap) (H : Hp) : (hidT h H).objs.size = h.objs.size := PySem.W.hideAll_size _ _
theorem hidT_get {h : Heap} {H : Hp} {b : Addr} {o : Obj} (e : h.get? b = some o) (n : H b = none) : (hidT h H).get? b = some o :=
  PySem.W.hideAll_get _ e fun hm => by
    have q : (H b).isSome = true := (List.mem_filter.mp hm).2
    rw [n] at q; simp at q
theorem of_hidT {h : Heap} {H : Hp} {b : Addr} {o : Obj} (e : (hidT h H).get? b = some o) : h.get? b = some o ∧ H b = none := by
  have e' : h.get? b = some o := PySem.W.of_hideAll (trk h H) e
  refine ⟨e', ?_⟩
  cases q : H b with
  | none => rfl
  | some x =>
    have hm : b ∈ trk h H := List.mem_filter.mpr ⟨List.mem_range.mpr (Heap.lt_size e'), by simp [q]⟩
    have z : (hidT h H).get? b = none := PySem.W.hideAll_none (trk h H) hm
    rw [z] at e; cases e

end L2

namespace L2
open PySem PySem.Spec PyProof.Rows

structure Mod (K : PySem.W.Frag) (mg : Str → Option Value) (base : Heap) : Prop where
  kin : K.In base
  glob : base.Ns mainGlobals mg
  blt : ∃ mb, base.Ns builtinsNs mb ∧ ∀ x : Str, x ≠ "__name__" → mb x = bootBuiltins x
  nolimit : base.NoLimit

structure Cx where
  prog : Program
  w : World
  K : PySem.W.Frag
  mg : Str → Option Value
  base : Heap
  A : Around
  N : List Str
  s₀ : Shared
  H₀ : Hp
  env : Env
  outer : List Env
  stack : List Env
  ex : List Addr
  fn : Str → Bool
  calm : Bool
  pn : List (Addr × Obj)
  xe : Value → Shared → Prop
def frs (l : List Env) : List Addr := l.filterMap (·.frame)
abbrev Cx.fs (X : Cx) : List Addr := frs X.outer

def Vis (sc : Scope) (x : Str) : Prop := sc.names.lookup x = some .local ∨ sc.names.lookup x = some .cell ∨ sc.names.lookup x = some .free
def Loc (sc : Scope) (x : Str) : Prop := sc.names.lookup x = some .local ∨ sc.names.lookup x = some .cell
def Look (env : Env) (h : Heap) (m : Str → Option Value) (x : Str) (u : Value) : Prop :=
  (env.kindOf x = some .local ∧ m x = some u) ∨ ((env.kindOf x = some .cell ∨ env.kindOf x = some .free) ∧ ∃ c, env.cells.lookup x = some c ∧ h.IsCell c (some u))

structure Cx.Ok (X : Cx) : Prop where
  mod : Mod X.K X.mg X.base
  kind : X.env.scope.kind = .function
  glob : X.env.globals = mainGlobals
  blt : X.env.builtins = builtinsNs
  above : X.s₀.heap.objs.size ≤ X.env.locals
  inj : ∀ x y c, X.env.cells.lookup x = some c → X.env.cells.lookup y = some c → x = y
  has : ∀ x, (X.env.kindOf x = some .cell ∨ X.env.kindOf x = some .free) → ∃ c, X.env.cells.lookup x = some c
  cab : ∀ x c, X.fn x = true → X.env.cells.lookup x = some c → X.s₀.heap.objs.size ≤ c
  hd : X.calm = true → X.A.handled = none
  frames : X.A.frames = some X.stack
  stk : X.stack = X.outer ∨ (X.stack = X.env :: X.outer ∧ X.env.frame = some X.env.locals)
  exf : ∀ b ∈ X.ex, b ≠ X.env.locals ∧ ∀ x c, X.env.cells.lookup x = some c → c ≠ b
  bs : ∀ b o, X.base.get? b = some o → X.s₀.heap.get? b = some o ∧ X.H₀ b = none
  bsz : X.base.objs.size ≤ X.s₀.heap.objs.size
  noex : ∀ b o, X.base.get? b = some o → b ∉ X.ex
  exfs : ∀ b ∈ X.ex, b ∉ X.fs
  funs : X.s₀.heap.FunFrames X.base X.outer
  frf : ∀ b ∈ X.fs, X.H₀ b = none

structure Inv (X : Cx) (pins : List (Addr × Obj)) (σ : List (Option V)) (H : Hp) (s : Shared) : Prop where
  ok : X.Ok
  os : s.os = X.s₀.os
  bare : AllBare s.gens
  base : Un X.fs X.ex X.H₀ H X.s₀.heap s.heap
  loc : ∃ m, s.heap.Ns X.env.locals m ∧ ∀ (i : Nat) (x : Str) (v : V), X.N[i]? = some x → σ[i]? = some (some v) → Vis X.env.scope x → ∃ u, RelV v u ∧ Look X.env s.heap m x u
  cell : ∀ x c, X.env.cells.lookup x = some c → ∃ v, s.heap.IsCell c v
  free : H X.env.locals = none
  freeC : ∀ x c, X.env.cells.lookup x = some c → H c = none
  pin : ∀ p ∈ X.pn ++ pins, s.heap.get? p.1 = some p.2 ∧ H p.1 = none ∧ p.1 ≠ X.env.locals ∧ p.1 ∉ X.fs ∧ ∀ v, p.2.data ≠ .cell v
  hok : HOk X.prog X.w H s.heap
  len : σ.length = X.N.length

section
variable {X : Cx} {pins : List (Addr × Obj)} {σ : List (Option V)} {H H' : Hp} {s : Shared} {h' : Heap}

theorem Cx.Ok.nofr (ok : X.Ok) {b : Addr} {o : Obj} (e : X.base.get? b = some o) : b ∉ X.fs := fun hb => by
  have := (ok.funs.mem hb).1
  rw [e] at this; cases this
theorem Inv.bs (I : Inv X pins σ H s) : ∀ b o, X.base.get? b = some o → s.heap.get? b = some o ∧ H b = none := fun b o e =>
  ⟨I.base.keep b o (I.ok.bs b o e).1 (I.ok.bs b o e).2 (I.ok.nofr e) (I.ok.noex b o e), I.base.free b o (I.ok.bs b o e).1 (I.ok.bs b o e).2 (I.ok.noex b o e)⟩
theorem Inv.bk (I : Inv X pins σ H s) : ∀ b o, X.base.get? b = some o → s.heap.get? b = some o := fun b o e => (I.bs b o e).1
theorem Inv.mod (I : Inv X pins σ H s) : Mod X.K X.mg X.base := I.ok.mod
theorem Inv.kIn (I : Inv X pins σ H s) : X.K.In s.heap := I.ok.mod.kin.keeps I.bk
theorem Inv.lt (I : Inv X pins σ H s) : X.env.locals < s.heap.objs.size := let ⟨_, hn, _⟩ := I.loc; hn.lt
theorem Inv.sz (I : Inv X pins σ H s) : X.s₀.heap.objs.size ≤ s.heap.objs.size := Nat.le_trans I.ok.above (Nat.le_of_lt I.lt)
theorem Inv.nofs (I : Inv X pins σ H s) {a : Addr} (h : s.heap.objs.size ≤ a) : a ∉ X.fs := fun hb => by
  obtain ⟨_, o, ho, _⟩ := I.ok.funs.mem hb
  exact absurd (Nat.lt_of_lt_of_le (Heap.lt_size ho) (Nat.le_trans I.sz h)) (Nat.lt_irrefl _)
theorem Inv.cne (I : Inv X pins σ H s) : ∀ x c, X.env.cells.lookup x = some c → c ≠ X.env.locals := fun x c e z => by
  obtain ⟨v, o, ho, hd⟩ := I.cell x c e
  obtain ⟨m, ⟨o', es, ep, ho', hd', _⟩, _⟩ := I.loc
  rw [z, ho'] at ho; cases ho; rw [hd'] at hd; cases hd
theorem Inv.funs (I : Inv X pins σ H s) : s.heap.FunFrames X.base X.outer := by
  have all : ∀ (l : List Env), (∀ b ∈ frs l, b ∈ X.fs) → X.s₀.heap.FunFrames X.base l → s.heap.FunFrames X.base l := by
    intro l
    induction l with
    | nil => intro _ _; trivial
    | cons env r ih =>
      intro hs hl
      obtain ⟨hk, ⟨L, o, hf, hn, ho, hd⟩, hr⟩ := hl
      have hL : L ∈ X.fs := hs L (by unfold frs; rw [List.filterMap_cons, hf]; exact List.mem_cons_self)
      obtain ⟨sl, e⟩ := I.base.slot L o ho (I.ok.frf L hL) hL fun z => I.ok.exfs L z hL
      exact ⟨hk, ⟨L, _, hf, hn, e, hd⟩, ih (fun b hb => hs b (by unfold frs; rw [List.filterMap_cons, hf]; exact List.mem_cons_of_mem _ hb)) hr⟩
  exact all X.outer (fun _ hb => hb) I.ok.funs

theorem Inv.stack (I : Inv X pins σ H s) : s.heap.FunFrames X.base X.stack := by
  rcases I.ok.stk with e | ⟨e, hf⟩
  · rw [e]; exact I.funs
  · rw [e]
    obtain ⟨m, hn, _⟩ := I.loc
    refine .cons (by rw [I.ok.kind]; decide) hf hn ?_ I.funs
    exact Heap.get?_none_of_le (Nat.le_trans I.ok.bsz I.ok.above)
theorem Inv.stkSub (I : Inv X pins σ H s) : ∀ b ∈ frs X.stack, b ∈ X.env.locals :: X.fs := fun b hb => by
  rcases I.ok.stk with e | ⟨e, hf⟩
  · rw [e] at hb; exact List.mem_cons_of_mem _ hb
  · rw [e] at hb
    unfold frs at hb
    rw [List.filterMap_cons, hf] at hb
    exact hb
theorem Inv.stkFree (I : Inv X pins σ H s) : ∀ b ∈ frs X.stack, H b = none := fun b hb => by
  rcases List.mem_cons.mp (I.stkSub b hb) with e | hb
  · rw [e]; exact I.free
  · obtain ⟨_, o, ho, _⟩ := I.ok.funs.mem hb
    exact I.base.free b o ho (I.ok.frf b hb) fun z => I.ok.exfs b z hb

theorem Inv.step {g' : Array GenState} {t' : Nat} {d' : Drawn} {ch : List Addr} (I : Inv X pins σ H s)
    (hch : ∀ b ∈ ch, (b ∈ X.ex ∨ X.s₀.heap.objs.size ≤ b) ∧ b ≠ X.env.locals ∧ (∀ x c, X.env.cells.lookup x = some c → c ≠ b) ∧ ∀ p ∈ X.pn ++ pins, p.1 ≠ b)
    (keep : ∀ b o, b ≠ X.env.locals → b ∉ X.fs → b ∉ ch → s.heap.get? b = some o → H b = none → h'.get? b = some o)
    (slot : ∀ b o, b ≠ X.env.locals → b ∈ X.fs → b ∉ ch → s.heap.get? b = some o → H b = none → ∃ sl, h'.get? b = some { o with slots := sl }) (free : ∀ b o, b ∉ ch → s.heap.get? b = some o → H b = none → H' b = none)
    (there : ∀ b o, b ∉ ch → s.heap.get? b = some o → ∃ o', h'.get? b = some o')
    (tups : ∀ b xs, H b = some (.tup xs) → H' b = some (.tup xs)) (frzs : ∀ b o u, H b = some (.frz o u) → H' b = some (.frz o u)) (tbls : ∀ b ps, H b = some (.tbl ps) → ∃ more, H' b = some (.tbl (ps ++ more)))
    (ns : ∀ m, s.heap.Ns X.env.locals m → h'.Ns X.env.locals m) (hok : HOk X.prog X.w H' h') (hg : AllBare g') :
    Inv X pins σ H' { s with heap := h', gens := g', drawn := d', toks := t' } := by
  have neL : ∀ b o, X.s₀.heap.get? b = some o → b ≠ X.env.locals := fun b o e => Nat.ne_of_lt (Nat.lt_of_lt_of_le (Heap.lt_size e) I.ok.above)
  have neC : ∀ b o, X.s₀.heap.get? b = some o → b ∉ X.ex → b ∉ ch := fun b o e hx hb => by
    rcases (hch b hb).1 with z | z
    · exact hx z
    · exact absurd (Nat.lt_of_lt_of_le (Heap.lt_size e) z) (Nat.lt_irrefl _)
  have cellK : ∀ x c, X.env.cells.lookup x = some c → ∀ v, s.heap.IsCell c v → h'.IsCell c v := fun x c e v ⟨o, ho, hd⟩ => by
    have nch : c ∉ ch := fun z => (hch c z).2.2.1 x c e rfl
    by_cases hc : c ∈ X.fs
    · obtain ⟨sl, q⟩ := slot c o (I.cne x c e) hc nch ho (I.freeC x c e)
      exact ⟨_, q, hd⟩
    · exact ⟨o, keep c o (I.cne x c e) hc nch ho (I.freeC x c e), hd⟩
  refine ⟨I.ok, I.os, hg, ⟨fun b o e n hb hx => ?_, fun b o e n hb hx => ?_, fun b o e n hx => ?_, fun b o e hx => ?_, fun b xs e => tups b xs (I.base.tups b xs e), fun b o xs e => frzs b o xs (I.base.frzs b o xs e), fun b ps e => ?_⟩, ?_, fun x c e => ?_, ?_, fun x c e => ?_, fun p hp => ?_, hok, I.len⟩
  · exact keep b o (neL b o e) hb (neC b o e hx) (I.base.keep b o e n hb hx) (I.base.free b o e n hx)
  · obtain ⟨sl, e1⟩ := I.base.slot b o e n hb hx
    obtain ⟨sl', e2⟩ := slot b _ (neL b o e) hb (neC b o e hx) e1 (I.base.free b o e n hx)
    exact ⟨sl', e2⟩
  · obtain ⟨o', e1⟩ := I.base.there b o e hx
    exact free b o' (neC b o e hx) e1 (I.base.free b o e n hx)
  · obtain ⟨o', e1⟩ := I.base.there b o e hx
    exact there b o' (neC b o e hx) e1
  · obtain ⟨m1, e1⟩ := I.base.tbls b ps e
    obtain ⟨m2, e2⟩ := tbls b _ e1
    exact ⟨m1 ++ m2, by rw [e2, Array.append_assoc]⟩
  · obtain ⟨m, hn, hl⟩ := I.loc
    refine ⟨m, ns m hn, fun i x v e1 e2 e3 => ?_⟩
    obtain ⟨u, r, l⟩ := hl i x v e1 e2 e3
    refine ⟨u, r, ?_⟩
    rcases l with l | ⟨k, c, e, z⟩
    · exact .inl l
    · exact .inr ⟨k, c, e, cellK x c e _ z⟩
  · obtain ⟨v, z⟩ := I.cell x c e
    exact ⟨v, cellK x c e v z⟩
  · obtain ⟨m, ⟨o, _, _, ho, _⟩, _⟩ := I.loc
    exact free _ o (fun z => (hch _ z).2.1 rfl) ho I.free
  · obtain ⟨v, o, ho, hd⟩ := I.cell x c e
    exact free c o (fun z => (hch c z).2.2.1 x c e rfl) ho (I.freeC x c e)
  · obtain ⟨e, n, ne, nf, d⟩ := I.pin p hp
    have nch : p.1 ∉ ch := fun z => (hch p.1 z).2.2.2 p hp rfl
    exact ⟨keep p.1 p.2 ne nf nch e n, free p.1 p.2 nch e n, ne, nf, d⟩
theorem Inv.un {t' : Nat} (I : Inv X pins σ H s) (u : Un X.fs [] H H' s.heap h') (hok : HOk X.prog X.w H' h') : Inv X pins σ H' { s with heap := h', toks := t' } := by
  obtain ⟨m, ⟨o, es, ep, ho, r⟩, _⟩ := id I.loc
  obtain ⟨sl, hL⟩ := u.any ho I.free (by simp)
  exact I.step (g' := s.gens) (d' := s.drawn) (ch := []) (fun _ z => nomatch z) (fun b o _ hb _ e n => u.keep b o e n hb (by simp)) (fun b o _ hb _ e n => u.slot b o e n hb (by simp)) (fun b o _ e n => u.free b o e n (by simp)) (fun b o _ e => u.there b o e (by simp)) u.tups u.frzs u.tbls (fun m' hm => by
    obtain ⟨o', es', ep', ho', r'⟩ := hm
    rw [ho] at ho'; cases ho'
    exact ⟨_, es', ep', hL, r'⟩) hok I.bare
theorem Inv.call {g' : Array GenState} {t' : Nat} {d' : Drawn} {ch : List Addr} (I : Inv X pins σ H s) (u : Un (frs X.stack) ch H H' s.heap h') (hok : HOk X.prog X.w H' h') (hg : AllBare g')
    (hch : ∀ b ∈ ch, (b ∈ X.ex ∨ X.s₀.heap.objs.size ≤ b) ∧ b ≠ X.env.locals ∧ (∀ x c, X.env.cells.lookup x = some c → c ≠ b) ∧ ∀ p ∈ X.pn ++ pins, p.1 ≠ b) :
    Inv X pins σ H' { s with heap := h', gens := g', drawn := d', toks := t' } := by
  obtain ⟨m, ⟨o, es, ep, ho, r⟩, _⟩ := id I.loc
  obtain ⟨sl, hL⟩ := u.any ho I.free fun z => (hch _ z).2.1 rfl
  exact I.step (ch := ch) hch (fun b o hL hb hc e n => u.keep b o e n (fun z => (List.mem_cons.mp (I.stkSub b z)).elim hL hb) hc) (fun b o _ _ hc e n => u.any e n hc) (fun b o hc e n => u.free b o e n hc) (fun b o hc e => u.there b o e hc) u.tups u.frzs u.tbls (fun m' hm => by
    obtain ⟨o', es', ep', ho', r'⟩ := hm
    rw [ho] at ho'; cases ho'
    exact ⟨_, es', ep', hL, r'⟩) hok hg
theorem Inv.turned {t' : Nat} {it : Addr} (I : Inv X pins σ H s) (k : ∀ b o, b ≠ it → s.heap.get? b = some o → h'.get? b = some o) (hn : H it = none) (hL : it ≠ X.env.locals)
    (h1 : it ∈ X.ex ∨ X.s₀.heap.objs.size ≤ it) (h2 : ∀ x c, X.env.cells.lookup x = some c → c ≠ it) (h3 : ∀ p ∈ X.pn ++ pins, p.1 ≠ it) : Inv X pins σ H { s with heap := h', toks := t' } := by
  have nit : ∀ b u, H b = some u → b ≠ it := fun b u e z => by rw [z, hn] at e; cases e
  refine I.step (g' := s.gens) (d' := s.drawn) (ch := [it]) (fun b hb => ?_) (fun b o _ _ hc e _ => k b o (fun z => hc (by simp [z])) e) (fun b o _ _ hc e _ => ⟨o.slots, k b o (fun z => hc (by simp [z])) e⟩) (fun _ _ _ _ n => n)
    (fun b o hc e => ⟨o, k b o (fun z => hc (by simp [z])) e⟩) (fun _ _ e => e) (fun _ _ _ e => e) (fun b ps e => ⟨#[], by rw [e]; simp⟩) (fun m hm => ?_) (fun b u e => ?_) I.bare
  · have e : b = it := by simpa using hb
    subst e
    exact ⟨h1, hL, h2, h3⟩
  · obtain ⟨o, es, ep, ho, r⟩ := hm
    exact ⟨o, es, ep, k _ o (Ne.symm hL) ho, r⟩
  · refine (I.hok b u e).stay (fun c v hc q => k c v ?_ q) (fun _ q => q) fun _ _ q => q
    rcases hc with z | z
    · rw [z]; exact nit b u e
    · exact nit c _ z
theorem Inv.tok (I : Inv X pins σ H s) (t : Nat) : Inv X pins σ H { s with toks := t } := I.un (h' := s.heap) (t' := t) Un.refl I.hok
theorem Inv.kept {t' : Nat} (I : Inv X pins σ H s) (k : ∀ b u, s.heap.get? b = some u → h'.get? b = some u) : Inv X pins σ H { s with heap := h', toks := t' } := I.un (Un.kept k) (I.hok.kept k)
theorem Inv.laid {a : Addr} {o : HO} {t' : Nat} (I : Inv X pins σ H s) (k : ∀ b u, s.heap.get? b = some u → h'.get? b = some u) (hp : s.heap.objs.size ≤ a) (new : ObjOk X.prog X.w (upd H a o) h' a o) :
    Inv X pins σ (upd H a o) { s with heap := h', toks := t' } := I.un (Un.laid k hp (I.hok.fresh hp)) (I.hok.laid k hp new)
theorem Inv.write {x e : Addr} {o : HO} {t' : Nat} (I : Inv X pins σ H s) (mu : Mut (H x)) (he : e = x ∨ H e = some (.own x)) (k : ∀ b u, b ≠ e → s.heap.get? b = some u → h'.get? b = some u) (heo : ∃ u, h'.get? e = some u)
    (new : ObjOk X.prog X.w (upd H x o) h' x o) : Inv X pins σ (upd H x o) { s with heap := h', toks := t' } := I.un (Un.write mu he k heo) (I.hok.write mu he k heo new)
theorem Inv.weak {σ' : List (Option V)} (I : Inv X pins σ H s) (hl : σ'.length = σ.length) (w : ∀ (i : Nat) v, σ'[i]? = some (some v) → σ[i]? = some (some v)) : Inv X pins σ' H s :=
  ⟨I.ok, I.os, I.bare, I.base, let ⟨m, hn, hl'⟩ := I.loc; ⟨m, hn, fun i x v e1 e2 e3 => hl' i x v e1 (w i v e2) e3⟩, I.cell, I.free, I.freeC, I.pin, I.hok, hl.trans I.len⟩
theorem Inv.pins_of {pins' : List (Addr × Obj)} (I : Inv X pins σ H s) (h : ∀ p ∈ pins', s.heap.get? p.1 = some p.2 ∧ H p.1 = none ∧ p.1 ≠ X.env.locals ∧ p.1 ∉ X.fs ∧ ∀ v, p.2.data ≠ .cell v) : Inv X pins' σ H s :=
  ⟨I.ok, I.os, I.bare, I.base, I.loc, I.cell, I.free, I.freeC, fun p hp => (List.mem_append.mp hp).elim (fun z => I.pin p (List.mem_append_left _ z)) (h p), I.hok, I.len⟩

theorem nodup_ix {N : List Str} (hN : N.Nodup) {i j : Nat} {x : Str} (a : N[i]? = some x) (b : N[j]? = some x) : i = j := by
  obtain ⟨h1, e1⟩ := List.getElem?_eq_some_iff.mp a
  obtain ⟨h2, e2⟩ := List.getElem?_eq_some_iff.mp b
  exact (List.getElem_inj hN).mp (e1.trans e2.symm)

theorem store_ok2 {M : Model} {A : Around} {E : Value → Shared → Prop} {i : Nat} {x : Str} {v : V} {u : Value} {Q : Unit → Shared → Prop} (I : Inv X pins σ H s) (hN : X.N.Nodup) (hi : X.N[i]? = some x) (hx : Loc X.env.scope x) (r : RelV v u)
    (h : ∀ s', Inv X pins (σ.set i (some v)) H s' → (∃ a, Heap.SameBut a s.heap s'.heap ∧ (a = X.env.locals ∨ X.env.cells.lookup x = some a)) → Q () s') (hf : X.fn x = true ∨ X.env.scope.names.lookup x = some .local := by first | exact .inl rfl | exact .inr rfl | assumption) : wpAny M A (storeName X.env x u) Q E s := by
  obtain ⟨m, hn, hl⟩ := id I.loc
  have hcls : (X.env.scope.kind == .class || (X.env.scope.kind == .module && X.env.locals != X.env.globals)) = false := by rw [I.ok.kind]; rfl
  have hiσ : i < σ.length := by rw [I.len]; exact (List.getElem?_eq_some_iff.mp hi).1
  have cne := I.cne
  have tracked : ∀ {a : Addr} {h' : Heap}, (∃ o, s.heap.get? a = some o ∧ H a = none) → Heap.SameBut a s.heap h' → HOk X.prog X.w H h' := fun {a h'} ha hs b ob e => by
    obtain ⟨_, _, hfree⟩ := ha
    refine (I.hok b ob e).stay (fun c w' hc q => (hs.2 c ?_).trans q) (fun _ q => q) fun _ _ q => q
    rintro rfl
    rcases hc with rfl | hc
    · rw [hfree] at e; cases e
    · rw [hfree] at hc; cases hc
  rcases hx with hk | hk
  · refine wpAny_storeName_local hk hn (fun h' hn' hs => ?_) hcls
    obtain ⟨oL, _, _, hoL, _⟩ := id hn
    refine h _ ⟨I.ok, I.os, I.bare, ⟨fun b o e n hb hx => ?_, fun b o e n hb hx => ?_, I.base.free, fun b o e hx => ?_, I.base.tups, I.base.frzs, I.base.tbls⟩, ⟨_, hn', fun j y v' e1 e2 e3 => ?_⟩, fun y c e => ?_, I.free, I.freeC, fun p hp => ?_, tracked ⟨oL, hoL, I.free⟩ hs, by simpa using I.len⟩ ⟨_, hs, .inl rfl⟩
    · exact (hs.2 b (Nat.ne_of_lt (Nat.lt_of_lt_of_le (Heap.lt_size e) I.ok.above))).trans (I.base.keep b o e n hb hx)
    · obtain ⟨sl, e1⟩ := I.base.slot b o e n hb hx
      exact ⟨sl, (hs.2 b (Nat.ne_of_lt (Nat.lt_of_lt_of_le (Heap.lt_size e) I.ok.above))).trans e1⟩
    · obtain ⟨o', e1⟩ := I.base.there b o e hx
      exact ⟨o', (hs.2 b (Nat.ne_of_lt (Nat.lt_of_lt_of_le (Heap.lt_size e) I.ok.above))).trans e1⟩
    · by_cases hj : j = i
      · subst hj
        rw [hi] at e1; cases e1
        rw [List.getElem?_set_self hiσ] at e2
        cases e2
        exact ⟨u, r, .inl ⟨hk, by simp⟩⟩
      · rw [List.getElem?_set_ne (Ne.symm hj)] at e2
        obtain ⟨u', r', q⟩ := hl j y v' e1 e2 e3
        refine ⟨u', r', ?_⟩
        rcases q with ⟨k, e⟩ | ⟨k, c, e, z⟩
        · refine .inl ⟨k, ?_⟩
          have : y ≠ x := fun e => hj (nodup_ix hN e1 (e ▸ hi))
          simp [this, e]
        · exact .inr ⟨k, c, e, z.sameBut hs (cne y c e)⟩
    · obtain ⟨w', z⟩ := I.cell y c e
      exact ⟨w', z.sameBut hs (cne y c e)⟩
    · obtain ⟨e, n, ne, nf, d⟩ := I.pin p hp
      exact ⟨(hs.2 p.1 ne).trans e, n, ne, nf, d⟩
  · have hfn : X.fn x = true := by
      rcases hf with z | z
      · exact z
      · rw [z] at hk; cases hk
    obtain ⟨c, hc⟩ := I.ok.has x (.inl hk)
    obtain ⟨w', z⟩ := I.cell x c hc
    refine wpAny_storeName_cell I.ok.kind hk hc z (fun h' hc' hs => ?_)
    obtain ⟨oc, hoc, hocd⟩ := id z
    refine h { s with heap := h' } ⟨I.ok, I.os, I.bare, ⟨fun b o e n hb hx => ?_, fun b o e n hb hx => ?_, I.base.free, fun b o e hx => ?_, I.base.tups, I.base.frzs, I.base.tbls⟩, ⟨m, hn.sameBut hs (Ne.symm (cne x c hc)), fun j y v' e1 e2 e3 => ?_⟩, fun y c' e => ?_, I.free, I.freeC, fun p hp => ?_, tracked ⟨oc, hoc, I.freeC x c hc⟩ hs, by simpa using I.len⟩ ⟨c, hs, .inr hc⟩
    · exact (hs.2 b (Nat.ne_of_lt (Nat.lt_of_lt_of_le (Heap.lt_size e) (I.ok.cab x c hfn hc)))).trans (I.base.keep b o e n hb hx)
    · obtain ⟨sl, e1⟩ := I.base.slot b o e n hb hx
      exact ⟨sl, (hs.2 b (Nat.ne_of_lt (Nat.lt_of_lt_of_le (Heap.lt_size e) (I.ok.cab x c hfn hc)))).trans e1⟩
    · obtain ⟨o', e1⟩ := I.base.there b o e hx
      exact ⟨o', (hs.2 b (Nat.ne_of_lt (Nat.lt_of_lt_of_le (Heap.lt_size e) (I.ok.cab x c hfn hc)))).trans e1⟩
    · by_cases hj : j = i
      · subst hj
        rw [hi] at e1; cases e1
        rw [List.getElem?_set_self hiσ] at e2
        cases e2
        exact ⟨u, r, .inr ⟨.inl hk, c, hc, hc'⟩⟩
      · rw [List.getElem?_set_ne (Ne.symm hj)] at e2
        obtain ⟨u', r', q⟩ := hl j y v' e1 e2 e3
        refine ⟨u', r', ?_⟩
        rcases q with q | ⟨k, c', e, z'⟩
        · exact .inl q
        · refine .inr ⟨k, c', e, z'.sameBut hs ?_⟩
          rintro rfl
          exact hj (nodup_ix hN e1 (I.ok.inj _ _ _ e hc ▸ hi))
    · by_cases hcc : c' = c
      · subst hcc; exact ⟨_, hc'⟩
      · obtain ⟨w2, z2⟩ := I.cell y c' e
        exact ⟨w2, z2.sameBut hs hcc⟩
    · obtain ⟨e, n, ne, nf, d⟩ := I.pin p hp
      refine ⟨(hs.2 p.1 ?_).trans e, n, ne, nf, d⟩
      intro q
      rw [q, hoc] at e
      have q' : oc = p.2 := Option.some.inj e
      exact d w' (by rw [← q']; exact hocd)
theorem store_ok {M : Model} {A : Around} {E : Value → Shared → Prop} {i : Nat} {x : Str} {v : V} {u : Value} {Q : Unit → Shared → Prop} (I : Inv X pins σ H s) (hN : X.N.Nodup) (hi : X.N[i]? = some x) (hx : Loc X.env.scope x) (r : RelV v u)
    (h : ∀ s', Inv X pins (σ.set i (some v)) H s' → Q () s') (hf : X.fn x = true ∨ X.env.scope.names.lookup x = some .local := by first | exact .inl rfl | exact .inr rfl | assumption) : wpAny M A (storeName X.env x u) Q E s :=
  store_ok2 I hN hi hx r (fun s' I' _ => h s' I') hf
theorem Inv.call' {s' : Shared} {ch : List Addr} (I : Inv X pins σ H s) (ho : s'.os = s.os) (u : Un (frs X.stack) ch H H' s.heap s'.heap) (hok : HOk X.prog X.w H' s'.heap) (hg : AllBare s'.gens)
    (hch : ∀ b ∈ ch, (b ∈ X.ex ∨ X.s₀.heap.objs.size ≤ b) ∧ b ≠ X.env.locals ∧ (∀ x c, X.env.cells.lookup x = some c → c ≠ b) ∧ ∀ p ∈ X.pn ++ pins, p.1 ≠ b) : Inv X pins σ H' s' := by
  obtain ⟨h', g', d', t', o'⟩ := s'
  have e : o' = s.os := ho
  subst e
  exact I.call (g' := g') (t' := t') (d' := d') u hok hg hch
end

abbrev XK := Value → Option Addr → Hp → Prop
abbrev St := List (Option V)
abbrev VK := V → Hp → Prop
abbrev TE := St → Hp → VK → Prop
abbrev TT := St → Hp → (Bool → Hp → Prop) → Prop
abbrev TA := St → Hp → (List V → Hp → Prop) → Prop
structure Ends where
  nx : St → Hp → Prop
  rt : VK
  bk : St → Hp → Prop := fun _ _ => False
  ct : St → Hp → Prop := fun _ _ => False
abbrev TS := Ends → St → Hp → Prop

def EP (X : Cx) (pins : List (Addr × Obj)) (σ : St) (Q : VK) (u : Value) (s' : Shared) : Prop := ∃ v H', Inv X pins σ H' s' ∧ RelV v u ∧ Q v H'
def TP (X : Cx) (pins : List (Addr × Obj)) (σ : St) (Q : Bool → Hp → Prop) (b : Bool) (s' : Shared) : Prop := ∃ H', Inv X pins σ H' s' ∧ Q b H'
def AP (X : Cx) (pins : List (Addr × Obj)) (σ : St) (Q : List V → Hp → Prop) (us : List Value) (s' : Shared) : Prop := ∃ vs H', Inv X pins σ H' s' ∧ Vals vs us ∧ Q vs H'
def SP (X : Cx) (pins : List (Addr × Obj)) (D : Ends) (f : Flow) (s' : Shared) : Prop :=
  match f with
  | .next => ∃ σ' H', Inv X pins σ' H' s' ∧ D.nx σ' H'
  | .brk => ∃ σ' H', Inv X pins σ' H' s' ∧ D.bk σ' H'
  | .cont => ∃ σ' H', Inv X pins σ' H' s' ∧ D.ct σ' H'
  | .ret u => ∃ v σ' H', Inv X pins σ' H' s' ∧ RelV v u ∧ D.rt v H'

def PE (X : Cx) (e : Expr) (t : TE) : Prop :=
  ∀ (pins : List (Addr × Obj)) (s : Shared) (σ : St) (H : Hp) (Q : VK), Inv X pins σ H s → t σ H Q → wpAny (model X.prog X.w) X.A (eval e X.env) (EP X pins σ Q) X.xe s
def PT (X : Cx) (e : Expr) (t : TT) : Prop :=
  ∀ (pins : List (Addr × Obj)) (s : Shared) (σ : St) (H : Hp) (Q : Bool → Hp → Prop), Inv X pins σ H s → t σ H Q → wpAny (model X.prog X.w) X.A (isTrue e X.env (eval e X.env)) (TP X pins σ Q) X.xe s
def PW (X : Cx) (e : Expr) (t : TT) : Prop :=
  ∀ (whole : Sem Value) (pins : List (Addr × Obj)) (s : Shared) (σ : St) (H : Hp) (Q : Bool → Hp → Prop), Inv X pins σ H s → t σ H Q → wpAny (model X.prog X.w) X.A (isTrue e X.env whole) (TP X pins σ Q) X.xe s
theorem PW.pt {X : Cx} {e : Expr} {t : TT} (h : PW X e t) : PT X e t := h _
def PA (X : Cx) (es : List Expr) (t : TA) : Prop :=
  ∀ (pos : Pos) (pins : List (Addr × Obj)) (s : Shared) (σ : St) (H : Hp) (Q : List V → Hp → Prop), Inv X pins σ H s → t σ H Q → wpAny (model X.prog X.w) X.A (spliced (backTo pos (starEach es X.env))) (AP X pins σ Q) X.xe s
def PS (X : Cx) (st : Stmt) (t : TS) : Prop :=
  ∀ (pins : List (Addr × Obj)) (s : Shared) (σ : St) (H : Hp) (D : Ends), Inv X pins σ H s → t D σ H → wpAny (model X.prog X.w) X.A (exec st X.env) (SP X pins D) X.xe s
def PSs (X : Cx) (st : List Stmt) (t : TS) : Prop :=
  ∀ (pins : List (Addr × Obj)) (s : Shared) (σ : St) (H : Hp) (D : Ends), Inv X pins σ H s → t D σ H → wpAny (model X.prog X.w) X.A (execs st X.env) (SP X pins D) X.xe s
theorem thn {α : Type} {t : Sem α} {Q Q' : α → Shared → Prop} {M : Model} {A : Around} {E : Value → Shared → Prop} {s : Shared} (h : wpAny M A t Q E s) (hQ : ∀ a s, Q a s → Q' a s) : wpAny M A t Q' E s := wpAny_mono h hQ fun _ _ x => x
end L2

namespace L2
open PySem PySem.Spec PyProof.Rows
section
variable {X : Cx}

def tVar (i : Nat) : TE := fun σ H Q => ∃ v, σ[i]? = some (some v) ∧ Q v H
def tC (v : V) : TE := fun _ H Q => Q v H
theorem pe_var {i : Nat} {x : Str} {pos : Pos} (hN : X.N[i]? = some x) (hv : Vis X.env.scope x) (hd : (x == ("__debug__" : Str)) = false := by decide) (hcd : (x == ("__classdict__" : Str)) = false := by decide) : PE X (.Name x pos) (tVar i) := by
  intro pins s σ H Q I h
  obtain ⟨v, e, h⟩ := h
  obtain ⟨m, hn, hl⟩ := I.loc
  obtain ⟨u, r, l⟩ := hl i x v hN e hv
  have fin : EP X pins σ Q u s := ⟨v, H, I, r, h⟩
  rcases l with ⟨hk, hm⟩ | ⟨hk, c, hc, hcell⟩
  · exact wpAny_Name (wpAny_loadName_local I.ok.kind hk hn hm fin) hd
  · rcases hk with hk | hk
    · exact wpAny_Name (wpAny_loadName_cell I.ok.kind hk hc hcell fin) hd
    · exact wpAny_Name (wpAny_loadName_free I.ok.kind hk hc hcell fin hcd) hd
theorem pe_int {i j pos} : PE X (.Constant (.int i) j pos) (tC (.int i)) := fun _ _ _ H _ I h => wpAny_Constant_int ⟨.int i, H, I.tok _, ⟨_, rfl⟩, h⟩
theorem pe_bl {b j pos} : PE X (.Constant (.bool b) j pos) (tC (.bl b)) := fun _ _ _ H _ I h => Constant_bool ⟨.bl b, H, I, rfl, h⟩
theorem pe_non {j pos} : PE X (.Constant .none j pos) (tC .non) := fun _ _ _ H _ I h => Constant_none ⟨.non, H, I, rfl, h⟩
theorem pe_str {x j pos} : PE X (.Constant (.str x) j pos) (tC (.str x)) := fun _ _ _ H _ I h => Calls.Constant_str ⟨.str x, H, I.tok _, ⟨_, rfl⟩, h⟩

def Gl (X : Cx) (x : Str) : Prop := X.env.kindOf x = some .globalImplicit
theorem ld_glob {E : Value → Shared → Prop} {pins : List (Addr × Obj)} {s : Shared} {σ : St} {H : Hp} {x : Str} {u : Value} {pos : Pos} {Q : Value → Shared → Prop} (I : Inv X pins σ H s) (hg : Gl X x) (hm : X.mg x = some u) (h : Q u s)
    (hd : (x == ("__debug__" : Str)) = false := by decide) : wpAny (model X.prog X.w) X.A (eval (.Name x pos) X.env) Q E s :=
  Calls.Name_function_global I.ok.kind hg (Calls.loadGlobal_global (by rw [I.ok.glob]; exact I.mod.glob.keeps I.bk) hm h) hd
theorem ld_blt {E : Value → Shared → Prop} {pins : List (Addr × Obj)} {s : Shared} {σ : St} {H : Hp} {x : Str} {u : Value} {pos : Pos} {Q : Value → Shared → Prop} (I : Inv X pins σ H s) (hg : Gl X x) (hm : X.mg x = none) (hv : bootBuiltins x = some u) (h : Q u s)
    (hn : x ≠ "__name__" := by decide) (hd : (x == ("__debug__" : Str)) = false := by decide) : wpAny (model X.prog X.w) X.A (eval (.Name x pos) X.env) Q E s := by
  obtain ⟨mb, h1, h2⟩ := I.mod.blt
  exact Calls.Name_function_global I.ok.kind hg (Calls.loadGlobal_builtin (by rw [I.ok.glob]; exact I.mod.glob.keeps I.bk) hm (by rw [I.ok.blt]; exact h1.keeps I.bk) ((h2 x hn).trans hv) h) hd
theorem pe_glob {x : Str} {v : V} {u : Value} {pos : Pos} (hg : Gl X x) (hm : X.mg x = some u) (r : RelV v u) (hd : (x == ("__debug__" : Str)) = false := by decide) : PE X (.Name x pos) (tC v) :=
  fun _ _ _ H _ I h => ld_glob I hg hm ⟨v, H, I, r, h⟩ hd
theorem pe_bltn {x : Str} {v : V} {u : Value} {pos : Pos} (hg : Gl X x) (hm : X.mg x = none) (hv : bootBuiltins x = some u) (r : RelV v u) (hn : x ≠ "__name__" := by decide) (hd : (x == ("__debug__" : Str)) = false := by decide) : PE X (.Name x pos) (tC v) :=
  fun _ _ _ H _ I h => ld_blt I hg hm hv ⟨v, H, I, r, h⟩ hn hd

variable {a b : Expr} {ta tb : TE} {pos : Pos}
def PC (X : Cx) (op : CmpOp) (a b : Expr) (t : TE) : Prop :=
  ∀ (pins : List (Addr × Obj)) (s : Shared) (σ : St) (H : Hp) (Q : VK), Inv X pins σ H s → t σ H Q →
    wpAny (model X.prog X.w) X.A (eval a X.env) (fun v s₁ => wpAny (model X.prog X.w) X.A (eval b X.env) (fun u s₂ => wpAny (model X.prog X.w) X.A (compareOp op v u) (EP X pins σ Q) X.xe s₂) X.xe s₁) X.xe s
theorem nobehind (b : Expr) {op : CmpOp} (h : op ≠ .In) (h2 : op ≠ .NotIn) : behindInMarks op b = false := by
  have e1 : (op == CmpOp.In) = false := by cases op <;> first | rfl | exact absurd rfl h
  have e2 : (op == CmpOp.NotIn) = false := by cases op <;> first | rfl | exact absurd rfl h2
  cases b <;> simp [behindInMarks, e1, e2]
def tIsN (ta : TE) : TE := fun σ H Q => ta σ H fun x H1 => Q (.bl (decide (x = .non))) H1
theorem RelV.none_iff {x : V} {v : Value} (r : RelV x v) : (v == Value.none) = decide (x = .non) := by
  cases x with
  | non => cases r; rfl
  | bl _ => cases r; rfl
  | int _ => obtain ⟨t, rfl⟩ := r; rfl
  | str _ => obtain ⟨t, rfl⟩ := r; rfl
  | byt _ => obtain ⟨t, rfl⟩ := r; rfl
  | flt _ => obtain ⟨t, rfl⟩ := r; rfl
  | ref _ => cases r; rfl
  | ty _ => cases r; rfl
theorem pc_isN {j pos'} (ha : PE X a ta) : PC X .Is a (.Constant .none j pos') (tIsN ta) := by
  intro pins s σ H Q I h
  refine thn (ha pins s σ H _ I h) fun v s1 ⟨x, H1, I1, r1, q1⟩ => ?_
  exact Constant_none (is_none_gen ⟨.bl _, H1, I1, by rw [r1.none_iff]; rfl, q1⟩)
def tB (t : TE) : TT := fun σ H Q => t σ H fun x H1 => ∃ c, x = .bl c ∧ Q c H1
theorem pt_cmp {op : CmpOp} {t : TE} (h : PC X op a b t) (h1 : behindInMarks op b = false := by first | exact nobehind _ (by decide) (by decide) | rfl) : PT X (.Compare a [op] [b] pos) (tB t) := by
  intro pins s σ H Q I hw
  refine wpAny_isTrue_Compare1 (thn (h pins s σ H _ I hw) fun v s1 h1 => thn h1 fun u s2 h2 => thn h2 fun c s3 ⟨x, H1, I1, r1, q1⟩ => ?_) h1
  obtain ⟨d, rfl, q⟩ := q1
  cases r1
  exact wpAny_truthy_bool ⟨H1, I1, q⟩
theorem pt_val {e : Expr} {t : TE} (h : PE X e t) (he : ∀ whole, isTrue e X.env whole = (do let v ← whole; standAt e.pos; holding [v] (truthy v)) := by intro _; rfl) : PT X e (tB t) := by
  intro pins s σ H Q I hw
  refine isTrue_plain (thn (h pins s σ H _ I hw) fun v s1 ⟨x, H1, I1, r1, q1⟩ => ?_) (he _)
  obtain ⟨d, rfl, q⟩ := q1
  cases r1
  exact wpAny_truthy_bool ⟨H1, I1, q⟩

variable {tA tB' : TT} {rest : List Expr}
def tAnd (t u : TT) : TT := fun σ H Q => t σ H fun c H1 => if c = true then u σ H1 Q else Q false H1
def tOr (t u : TT) : TT := fun σ H Q => t σ H fun c H1 => if c = true then Q true H1 else u σ H1 Q
def tNot (t : TT) : TT := fun σ H Q => t σ H fun c H1 => Q (!c) H1
theorem pw_and1 (ha : PT X a tA) : PW X (.BoolOp .And [a] pos) tA := by
  intro wh pins s σ H Q I h
  refine isTrue_and (thn (ha pins s σ H Q I h) fun c s1 e => ?_)
  cases c with
  | true => exact isTrue_and_nil e
  | false => exact e
theorem pw_or1 (ha : PT X a tA) : PW X (.BoolOp .Or [a] pos) tA := by
  intro wh pins s σ H Q I h
  refine isTrue_or (thn (ha pins s σ H Q I h) fun c s1 e => ?_)
  cases c with
  | false => exact isTrue_or_nil e
  | true => exact e
theorem pw_and (ha : PT X a tA) (hb : PW X (.BoolOp .And (b :: rest) pos) tB') : PW X (.BoolOp .And (a :: b :: rest) pos) (tAnd tA tB') := by
  intro wh pins s σ H Q I h
  refine isTrue_and (thn (ha pins s σ H _ I h) fun c s1 ⟨H1, I1, q1⟩ => ?_)
  cases c with
  | true => exact hb wh pins s1 σ H1 Q I1 q1
  | false => exact ⟨H1, I1, q1⟩
theorem pw_or (ha : PT X a tA) (hb : PW X (.BoolOp .Or (b :: rest) pos) tB') : PW X (.BoolOp .Or (a :: b :: rest) pos) (tOr tA tB') := by
  intro wh pins s σ H Q I h
  refine isTrue_or (thn (ha pins s σ H _ I h) fun c s1 ⟨H1, I1, q1⟩ => ?_)
  cases c with
  | true => exact ⟨H1, I1, q1⟩
  | false => exact hb wh pins s1 σ H1 Q I1 q1
theorem pt_not (ha : PT X a tA) : PT X (.UnaryOp .Not a pos) (tNot tA) := by
  intro pins s σ H Q I h
  exact isTrue_not (ha pins s σ H (fun c H1 => Q (!c) H1) I h)
def tAndV (ta tb : TE) : TE := fun σ H Q => ta σ H fun x H1 => ∃ c, x = .bl c ∧ if c = true then tb σ H1 Q else Q (.bl false) H1
def tOrV (ta tb : TE) : TE := fun σ H Q => ta σ H fun x H1 => ∃ c, x = .bl c ∧ if c = true then Q (.bl true) H1 else tb σ H1 Q
def tNotV (ta : TE) : TE := fun σ H Q => ta σ H fun x H1 => ∃ c, x = .bl c ∧ Q (.bl (!c)) H1
theorem pe_one {op} {t : TE} (h : PE X a t) : PE X (.BoolOp op [a] pos) t := fun pins s σ H Q I hw => BoolOp_one (h pins s σ H Q I hw)
theorem pe_and (ha : PE X a ta) (hb : PE X (.BoolOp .And (b :: rest) pos) tb) : PE X (.BoolOp .And (a :: b :: rest) pos) (tAndV ta tb) := by
  intro pins s σ H Q I h
  refine BoolOp_and (thn (ha pins s σ H _ I h) fun v s1 ⟨x, H1, I1, r1, q1⟩ => ?_)
  obtain ⟨c, rfl, q1⟩ := q1
  cases r1
  refine wpAny_truthy_bool ?_
  cases c with
  | true => exact hb pins s1 σ H1 Q I1 q1
  | false => exact ⟨.bl false, H1, I1, rfl, q1⟩
theorem pe_or (ha : PE X a ta) (hb : PE X (.BoolOp .Or (b :: rest) pos) tb) : PE X (.BoolOp .Or (a :: b :: rest) pos) (tOrV ta tb) := by
  intro pins s σ H Q I h
  refine BoolOp_or (thn (ha pins s σ H _ I h) fun v s1 ⟨x, H1, I1, r1, q1⟩ => ?_)
  obtain ⟨c, rfl, q1⟩ := q1
  cases r1
  refine wpAny_truthy_bool ?_
  cases c with
  | false => exact hb pins s1 σ H1 Q I1 q1
  | true => exact ⟨.bl true, H1, I1, rfl, q1⟩
theorem pe_not (ha : PE X a ta) : PE X (.UnaryOp .Not a pos) (tNotV ta) := by
  intro pins s σ H Q I h
  refine UnaryOp_ (thn (ha pins s σ H _ I h) fun v s1 ⟨x, H1, I1, r1, q1⟩ => ?_)
  obtain ⟨c, rfl, q1⟩ := q1
  cases r1
  exact not_of (wpAny_truthy_bool ⟨.bl (!c), H1, I1, rfl, q1⟩)
def tIf (t : TT) (ta tb : TE) : TE := fun σ H Q => t σ H fun c H1 => if c = true then ta σ H1 Q else tb σ H1 Q
theorem pe_ifExp {c : Expr} (hc : PT X c tA) (ha : PE X a ta) (hb : PE X b tb) : PE X (.IfExp c a b pos) (tIf tA ta tb) := by
  intro pins s σ H Q I h
  refine wpAny_IfExp (thn (hc pins s σ H _ I h) fun d s1 ⟨H1, I1, q1⟩ => ?_)
  cases d with
  | true => exact ha pins s1 σ H1 Q I1 q1
  | false => exact hb pins s1 σ H1 Q I1 q1
end
end L2

namespace L2
open PySem PySem.Spec PyProof.Rows

def SqL (K : PySem.W.Frag) (H : Hp) (a : Addr) (xs : List V) : Prop :=
  Rd H a (.lst xs) ∨
    ∃ (o : Obj) (its : Array Value) (n : Nat), K.lookup a = some o ∧ o.cls = .type "list" ∧ o.dict = none ∧ o.data = .seq its n ∧ its.size ≤ sizeLine ∧ Vals xs its.toList
def SqT (K : PySem.W.Frag) (H : Hp) (a : Addr) (xs : List V) : Prop :=
  Rd H a (.tup xs) ∨
    ∃ (o : Obj) (its : Array Value) (n : Nat), K.lookup a = some o ∧ o.cls = .type "tuple" ∧ o.data = .seq its n ∧ its.size ≤ sizeLine ∧ Vals xs its.toList
def absV : Value → Option V
  | .none => some .non
  | .bool b => some (.bl b)
  | .int i _ => some (.int i)
  | .str x _ => some (.str x)
  | .bytes b _ => some (.byt b)
  | .float b _ => some (.flt b)
  | .ref a => some (.ref a)
  | .type n => some (.ty n)
  | _ => none
theorem RelV.abs {x : V} {u : Value} (r : RelV x u) : absV u = some x := by
  cases x with
  | non => cases r; rfl
  | bl _ => cases r; rfl
  | int _ => obtain ⟨t, rfl⟩ := r; rfl
  | str _ => obtain ⟨t, rfl⟩ := r; rfl
  | byt _ => obtain ⟨t, rfl⟩ := r; rfl
  | flt _ => obtain ⟨t, rfl⟩ := r; rfl
  | ref _ => cases r; rfl
  | ty _ => cases r; rfl
theorem RelV.inj {x y : V} {u : Value} (r : RelV x u) (q : RelV y u) : x = y := Option.some.inj (r.abs.symm.trans q.abs)
theorem Vals.inj : ∀ {xs ys : List V} {us : List Value}, Vals xs us → Vals ys us → xs = ys
  | _, _, _, .nil, .nil => rfl
  | _, _, _, .cons r t, .cons r' t' => by rw [r.inj r', Vals.inj t t']
section
variable {X : Cx} {pins : List (Addr × Obj)} {σ : St} {H : Hp} {s : Shared} {a : Addr} {xs ys : List V}
theorem SqL.of {K : PySem.W.Frag} (h : H a = some (.lst xs)) : SqL K H a xs := .inl (.inl h)
theorem SqT.of {K : PySem.W.Frag} (h : H a = some (.tup xs)) : SqT K H a xs := .inl (.inl h)
theorem Inv.list (I : Inv X pins σ H s) (h : SqL X.K H a xs) : ∃ its : List Value, Vals xs its ∧ PlainL s.heap a its.toArray ∧ xs.length ≤ sizeLine := by
  rcases h with h | ⟨o, its, n, hk, hc, hd, hs, hz, r⟩
  · obtain ⟨z, its, n, r, e⟩ := h.ok I.hok
    exact ⟨its, r, ⟨_, n, e, rfl, rfl, rfl⟩, z⟩
  · refine ⟨its.toList, r, ⟨o, n, I.kIn a o hk, hc, hd, by simpa using hs⟩, ?_⟩
    have e := r.length
    simp only [Array.length_toList] at e
    omega
theorem Inv.tuple (I : Inv X pins σ H s) (h : SqT X.K H a xs) : ∃ its : List Value, Vals xs its ∧ IsTup s.heap a its.toArray ∧ xs.length ≤ sizeLine := by
  rcases h with h | ⟨o, its, n, hk, hc, hs, hz, r⟩
  · obtain ⟨z, its, r, p⟩ := h.ok I.hok
    exact ⟨its, r, p, z⟩
  · refine ⟨its.toList, r, ⟨o, I.kIn a o hk, hc, n, by simpa using hs⟩, ?_⟩
    have e := r.length
    simp only [Array.length_toList] at e
    omega
theorem Inv.list_inj (I : Inv X pins σ H s) (h : SqL X.K H a xs) (h' : SqL X.K H a ys) : xs = ys := by
  obtain ⟨its, r, ⟨o, n, e, _, _, d⟩, _⟩ := I.list h
  obtain ⟨its', r', ⟨o', n', e', _, _, d'⟩, _⟩ := I.list h'
  rw [e] at e'; cases e'
  rw [d] at d'
  injection d' with d1 _
  have : its = its' := by simpa using congrArg Array.toList d1
  subst this
  exact r.inj r'
end

abbrev Cx.wish (X : Cx) (E : Value → Shared → Prop) : Cx := { X with xe := E }
abbrev Cx.nox (X : Cx) : Cx := X.wish fun _ _ => False
theorem Cx.Ok.wish {X : Cx} (ok : X.Ok) (E : Value → Shared → Prop) : (X.wish E).Ok :=
  ⟨ok.mod, ok.kind, ok.glob, ok.blt, ok.above, ok.inj, ok.has, ok.cab, ok.hd, ok.frames, ok.stk, ok.exf, ok.bs, ok.bsz, ok.noex, ok.exfs, ok.funs, ok.frf⟩
theorem Cx.Ok.unwish {X : Cx} {E : Value → Shared → Prop} (ok : (X.wish E).Ok) : X.Ok :=
  ⟨ok.mod, ok.kind, ok.glob, ok.blt, ok.above, ok.inj, ok.has, ok.cab, ok.hd, ok.frames, ok.stk, ok.exf, ok.bs, ok.bsz, ok.noex, ok.exfs, ok.funs, ok.frf⟩
section
variable {X : Cx} {pins : List (Addr × Obj)} {σ : St} {H : Hp} {s : Shared} {E : Value → Shared → Prop}
theorem Inv.wish (I : Inv X pins σ H s) (E : Value → Shared → Prop) : Inv (X.wish E) pins σ H s := ⟨I.ok.wish E, I.os, I.bare, I.base, I.loc, I.cell, I.free, I.freeC, I.pin, I.hok, I.len⟩
theorem Inv.unwish (I : Inv (X.wish E) pins σ H s) : Inv X pins σ H s := ⟨I.ok.unwish, I.os, I.bare, I.base, I.loc, I.cell, I.free, I.freeC, I.pin, I.hok, I.len⟩
theorem SP.unwish {D : Ends} {f : Flow} {s' : Shared} (h : SP (X.wish E) pins D f s') : SP X pins D f s' := by
  cases f with
  | next => obtain ⟨σ', H', I, q⟩ := h; exact ⟨σ', H', I.unwish, q⟩
  | brk => obtain ⟨σ', H', I, q⟩ := h; exact ⟨σ', H', I.unwish, q⟩
  | cont => obtain ⟨σ', H', I, q⟩ := h; exact ⟨σ', H', I.unwish, q⟩
  | ret u => obtain ⟨v, σ', H', I, r, q⟩ := h; exact ⟨v, σ', H', I.unwish, r, q⟩
theorem PSs.nox {st : List Stmt} {t : TS} (h : PSs X.nox st t) : PSs X st t := fun pins s σ H D I hw =>
  wpAny_mono (h pins s σ H D (I.wish _) hw) (fun _ _ q => q.unwish) fun _ _ z => False.elim z
end

section
variable {X : Cx} {st : Stmt} {rest : List Stmt} {t u : TS} {e : Expr} {te : TE} {pos : Pos}
def tNext : TS := fun D σ H => D.nx σ H
def tSeq (t u : TS) : TS := fun D σ H => t { D with nx := u D } σ H
theorem pss_nil : PSs X [] tNext := fun _ _ σ H _ I h => wpAny_execs_nil ⟨σ, H, I, h⟩
theorem pss_cons (h1 : PS X st t) (h2 : PSs X rest u) : PSs X (st :: rest) (tSeq t u) := by
  intro pins s σ H D I h
  refine wpAny_execs_cons (thn (h1 pins s σ H { D with nx := u D } I h) fun f s1 q => ?_)
  cases f with
  | next =>
    obtain ⟨σ', H', I', q⟩ := q
    exact h2 pins s1 σ' H' D I' q
  | ret v => exact q
  | brk => exact q
  | cont => exact q
theorem pss_one (h1 : PS X st t) : PSs X [st] t := by
  intro pins s σ H D I h
  refine wpAny_execs_cons (thn (h1 pins s σ H D I h) fun f s1 q => ?_)
  cases f with
  | next => exact wpAny_execs_nil q
  | ret v => exact q
  | brk => exact q
  | cont => exact q
theorem Inv.quiet {pins : List (Addr × Obj)} {σ : St} {H : Hp} {s : Shared} (I : Inv X pins σ H s) : interactive X.env = false := by simp [interactive, I.ok.kind]
def tDrop (te : TE) : TS := fun D σ H => te σ H fun _ H1 => D.nx σ H1
theorem ps_expr (he : PE X e te) (hs : swapsWith e none pos.line X.env = pure false := by rfl) : PS X (.Expr e pos) (tDrop te) := by
  intro pins s σ H D I h
  exact wpAny_Expr_any (thn (he pins s σ H _ I h) fun v s1 ⟨x, H1, I1, r1, q1⟩ => ⟨σ, H1, I1, q1⟩) I.quiet hs
def tRet (te : TE) : TS := fun D σ H => te σ H D.rt
theorem ps_ret (he : PE X e te) : PS X (.Return (some e) pos) (tRet te) := by
  intro pins s σ H D I h
  exact wpAny_Return_some (thn (he pins s σ H _ I h) fun v s1 ⟨x, H1, I1, r1, q1⟩ => ⟨x, σ, H1, I1, r1, q1⟩)
def tIfS (c : TT) (t u : TS) : TS := fun D σ H => c σ H fun b H1 => if b = true then t D σ H1 else u D σ H1
theorem ps_if {c : Expr} {a b : List Stmt} {tc : TT} (hc : PT X c tc) (ha : PSs X a t) (hb : PSs X b u) : PS X (.If c a b pos) (tIfS tc t u) := by
  intro pins s σ H D I h
  refine wpAny_If (thn (hc pins s σ H _ I h) fun d s1 ⟨H1, I1, q1⟩ => ?_)
  cases d with
  | true => exact ha pins s1 σ H1 D I1 q1
  | false => exact hb pins s1 σ H1 D I1 q1
def tNever : TS := fun _ _ _ => False
theorem ps_never : PS X st tNever := fun _ _ _ _ _ _ h => h.elim
end

abbrev TG := V → St → Hp → (St → Hp → Prop) → Prop
abbrev TGs := List V → St → Hp → (St → Hp → Prop) → Prop
def PG (X : Cx) (target : Expr) (t : TG) : Prop :=
  ∀ (pins : List (Addr × Obj)) (s : Shared) (σ : St) (H : Hp) (v : V) (u : Value) (Q : St → Hp → Prop), Inv X pins σ H s → RelV v u → t v σ H Q →
    wpAny (model X.prog X.w) X.A (assign target X.env u) (fun _ s' => ∃ σ' H', Inv X pins σ' H' s' ∧ Q σ' H') X.xe s
def PGs (X : Cx) (ts : List Expr) (t : TGs) : Prop :=
  ∀ (pins : List (Addr × Obj)) (s : Shared) (σ : St) (H : Hp) (vs : List V) (us : List Value) (Q : St → Hp → Prop), Inv X pins σ H s → Vals vs us → t vs σ H Q →
    wpAny (model X.prog X.w) X.A (assignInOrder ((assignEach ts X.env).map (·.2)) us) (fun _ s' => ∃ σ' H', Inv X pins σ' H' s' ∧ Q σ' H') X.xe s
abbrev TSet := V → V → V → Hp → (Hp → Prop) → Prop
abbrev TIp := V → V → Hp → VK → Prop
section
variable {X : Cx} {pos : Pos}
def gName (i : Nat) : TG := fun v σ H Q => Q (σ.set i (some v)) H
theorem pg_name {i : Nat} {x : Str} (hN : X.N.Nodup) (hi : X.N[i]? = some x) (hx : Loc X.env.scope x) (hf : X.fn x = true ∨ X.env.scope.names.lookup x = some .local := by first | exact .inl rfl | exact .inr rfl | assumption) : PG X (.Name x pos) (gName i) := by
  intro pins s σ H v u Q I r h
  exact wpAny_assign_Name (store_ok I hN hi hx r (fun s' I' => ⟨_, H, I', h⟩) hf)
def gNil : TGs := fun vs σ H Q => vs = [] ∧ Q σ H
def gCons (t : TG) (u : TGs) : TGs := fun vs σ H Q => ∃ v r, vs = v :: r ∧ t v σ H fun σ' H' => u r σ' H' Q
theorem pgs_nil : PGs X [] gNil := by
  intro pins s σ H vs us Q I r h
  obtain ⟨e, h⟩ := h
  subst e
  cases r
  exact assignInOrder_nil ⟨σ, H, I, h⟩
theorem pgs_cons {e : Expr} {es : List Expr} {t : TG} {u : TGs} (h1 : PG X e t) (h2 : PGs X es u)
    (hs : (assignEach (e :: es) X.env).map (·.2) = assign e X.env :: (assignEach es X.env).map (·.2) := by rfl) : PGs X (e :: es) (gCons t u) := by
  intro pins s σ H vs us Q I r h
  obtain ⟨v, vr, e1, h⟩ := h
  subst e1
  cases r with
  | cons r rr =>
    rw [hs]
    refine assignInOrder_cons (thn (h1 pins s σ H _ _ _ I r h) fun _ s1 ⟨σ1, H1, I1, q1⟩ => ?_)
    exact h2 pins s1 σ1 H1 _ _ Q I1 rr q1
def gTup (K : PySem.W.Frag) (n : Nat) (t : TGs) : TG := fun v σ H Q => ∃ a xs, v = .ref a ∧ SqT K H a xs ∧ xs.length = n ∧ t xs σ H Q
theorem pg_tup {es : List Expr} {k : Nat} {t : TGs} {n : Nat} (hc : X.calm = true) (h : PGs X es t)
    (hn : (assignEach es X.env).length = n := by rfl) (hst : (assignEach es X.env).findIdx? (·.1) = none := by rfl) : PG X (.Tuple es k pos) (gTup X.K n t) := by
  intro pins s σ H v u Q I r hw
  obtain ⟨a, xs, e1, hq, hl, hw⟩ := hw
  subst e1
  cases r
  obtain ⟨its, rv, ht, hz⟩ := I.tuple hq
  refine assign_Tuple_tuple (I.ok.hd hc) ht (by simp [hn, ← hl, rv.length]) hst fun h' hx => ?_
  have I1 : Inv X pins σ H { s with heap := h' } := I.kept (t' := s.toks) fun b o e => hx b o (Nat.ne_of_lt (Heap.lt_size e)) e
  exact h pins _ σ H xs _ Q I1 (by simpa using rv) hw
def tAsg (te : TE) (g : TG) : TS := fun D σ H => te σ H fun x H1 => g x σ H1 D.nx
theorem ps_asg {tg e : Expr} {te : TE} {g : TG} (he : PE X e te) (hg : PG X tg g) (hs : swapsWithSole [tg] e pos.line X.env = pure false := by rfl) (hw : swappedStores [tg] e X.env = pure none := by rfl)
    (h1 : (assignEach [tg] X.env).map (·.2) = [assign tg X.env] := by rfl) : PS X (.Assign [tg] e pos) (tAsg te g) := by
  intro pins s σ H D I h
  refine wpAny_Assign_stores (thn (he pins s σ H _ I h) fun v s1 ⟨x, H1, I1, r1, q1⟩ => ?_) hs hw
  rw [h1]
  exact thn (hg pins s1 σ H1 x v _ I1 r1 q1) fun _ s2 q => q
theorem ps_set {i : Nat} {x : Str} {e : Expr} {te : TE} {pos' : Pos} (hN : X.N.Nodup) (hi : X.N[i]? = some x) (hx : Loc X.env.scope x) (he : PE X e te) (hs : swapsWith e (some (.Name x pos')) pos.line X.env = pure false := by rfl) (hf : X.fn x = true ∨ X.env.scope.names.lookup x = some .local := by first | exact .inl rfl | exact .inr rfl | assumption) :
    PS X (.Assign [.Name x pos'] e pos) (tAsg te (gName i)) := by
  intro pins s σ H D I h
  refine wpAny_Assign_Name (thn (he pins s σ H _ I h) fun v s1 ⟨y, H1, I1, r1, q1⟩ => ?_) hs
  exact store_ok I1 hN hi hx r1 (fun s2 I2 => ⟨_, H1, I2, q1⟩) hf
def tPar (i j : Nat) (ta : TA) : TS := fun D σ H => ta σ H fun vs H1 => ∃ v w, vs = [v, w] ∧ D.nx ((σ.set i (some v)).set j (some w)) H1
theorem ps_par {i j : Nat} {x y : Str} {a b : Expr} {ta : TA} {px py pt : Pos} {kt k2 pt2} (hc : X.calm = true) (hN : X.N.Nodup) (hi : X.N[i]? = some x) (hj : X.N[j]? = some y) (hij : i ≠ j)
    (hx : X.env.scope.names.lookup x = some .local) (hy : X.env.scope.names.lookup y = some .local) (ha : PA X [a, b] ta)
    (hw : swappedStores [.Tuple [.Name x px, .Name y py] kt pt] (.Tuple [a, b] k2 pt2) X.env = pure (some [x, y]))
    (hs : swapsWithSole [.Tuple [.Name x px, .Name y py] kt pt] (.Tuple [a, b] k2 pt2) pos.line X.env = pure false := by rfl) :
    PS X (.Assign [.Tuple [.Name x px, .Name y py] kt pt] (.Tuple [a, b] k2 pt2) pos) (tPar i j ta) := by
  intro pins s σ H D I h
  rw [exec_Assign_arm]
  refine wpAny_bind (wpAny_standAt ?_)
  rw [hs]
  refine wpAny_bind (wpAny_pure ?_)
  rw [if_neg (by decide)]
  refine wpAny_bind (Tuple_ (thn (ha _ pins s σ H _ I h) fun us s1 ⟨vs, H1, I1, r1, q1⟩ => ?_))
  obtain ⟨v, w, e1, q1⟩ := q1
  subst e1
  obtain ⟨u1, u2, rfl, rv, rw'⟩ : ∃ u1 u2, us = [u1, u2] ∧ RelV v u1 ∧ RelV w u2 := by
    cases r1 with
    | cons p q =>
      cases q with
      | cons p' q' =>
        cases q'
        exact ⟨_, _, rfl, p, p'⟩
  refine wpAny_newObj_type ?_ (by show 2 ≤ sizeLine; decide)
  have I2 : Inv X pins σ H1 { s1 with heap := s1.heap.push { cls := .type "tuple", data := .seq [u1, u2].toArray } } := I1.kept (t' := s1.toks) fun b o e => Heap.get?_push_of_some _ e
  rw [hw]
  refine wpAny_bind (wpAny_pure ?_)
  show wpAny (model X.prog X.w) X.A (do rule "assign.swapped-stores"; let items ← unpackItems (.ref s1.heap.objs.size) 2 none; assignInOrder [fun v => bindName X.env y v, fun v => bindName X.env x v] items.reverse; pure Flow.next) _ _ _
  refine wpAny_bind (wpAny_rule (wpAny_bind (unpackItems_tuple (items := #[u1, u2]) (I.ok.hd hc) (IsTup.new s1.heap _) fun h' hx' => ?_)))
  have I3 := I2.kept (h' := h') (t' := s1.toks) fun b o e => hx' b o (Nat.ne_of_lt (Heap.lt_size e)) e
  show wpAny _ _ (assignInOrder [fun v => bindName X.env y v, fun v => bindName X.env x v] [u2, u1] >>= fun _ => pure Flow.next) _ _ _
  refine wpAny_bind (assignInOrder_cons (wpAny_bindName (store_ok I3 hN hj (.inl hy) rw' (fun s2 I4 => ?_) (.inr hy))))
  refine assignInOrder_cons (wpAny_bindName (store_ok I4 hN hi (.inl hx) rv (fun s3 I5 => assignInOrder_nil (wpAny_pure ?_)) (.inr hx)))
  rw [List.set_comm _ _ (Ne.symm hij)] at I5
  exact ⟨_, H1, I5, q1⟩
end

section
variable {X : Cx} {pos : Pos}
def tWhile (c : TT) (tb : TS) : TS := fun D σ H => ∃ W : Nat → St → Hp → Prop, (∃ m, W m σ H) ∧ ∀ m σ H, W m σ H →
  c σ H fun b H1 => if b = true then ∃ N : St → Hp → Prop, (∀ σ' H', N σ' H' → ∃ m', m' < m ∧ W m' σ' H') ∧ tb { D with nx := N, ct := N, bk := D.nx } σ H1 else D.nx σ H1
theorem ps_while {c : Expr} {body : List Stmt} {tc : TT} {tb : TS} (hp : PassesOwn (model X.prog X.w) X.A X.env X.xe) (hc : PT X c tc) (hb : PSs X body tb) : PS X (.While c body [] pos) (tWhile tc tb) := by
  intro pins s σ H D I h
  obtain ⟨W, ⟨m0, w0⟩, turn⟩ := h
  refine wpAny_While (codeAny_whileLoop (fun n s' => ∃ σ' H', Inv X pins σ' H' s' ∧ W n σ' H') ?_ m0 ⟨σ, H, I, w0⟩)
  rintro n s1 ⟨σ1, H1, I1, w1⟩
  refine wpAny_passesOwn hp (thn (hc pins s1 σ1 H1 _ I1 (turn n σ1 H1 w1)) fun b s2 ⟨H2, I2, q2⟩ => ?_)
  cases b with
  | true =>
    obtain ⟨N, hN, q2⟩ := q2
    rw [if_pos rfl]
    refine wpAny_passesOwn hp (thn (hb pins s2 σ1 H2 _ I2 q2) fun f s3 q3 => ?_)
    cases f with
    | next =>
      obtain ⟨σ3, H3, I3, n3⟩ := q3
      obtain ⟨m', hm, w3⟩ := hN σ3 H3 n3
      exact ⟨m', hm, σ3, H3, I3, w3⟩
    | cont =>
      obtain ⟨σ3, H3, I3, n3⟩ := q3
      obtain ⟨m', hm, w3⟩ := hN σ3 H3 n3
      exact ⟨m', hm, σ3, H3, I3, w3⟩
    | brk => exact q3
    | ret v => exact q3
  | false =>
    rw [if_neg Bool.false_ne_true]
    exact wpAny_execs_nil ⟨σ1, H2, I2, q2⟩
end

structure It where
  go : Nat → Hp → Prop
  yld : Nat → Hp → V → Hp → Prop
  stop : Nat → Hp → Prop
def FpOk (X : Cx) (pins : List (Addr × Obj)) (H : Hp) (b : Addr) : Prop :=
  H b = none ∧ b ≠ X.env.locals ∧ b ∉ X.fs ∧ (b ∈ X.ex ∨ X.s₀.heap.objs.size ≤ b) ∧ (∀ x c, X.env.cells.lookup x = some c → c ≠ b) ∧ ∀ p ∈ X.pn ++ pins, p.1 ≠ b
theorem Inv.fpOk {X : Cx} {pins : List (Addr × Obj)} {σ : St} {H H' : Hp} {s : Shared} {b : Addr} (I : Inv X pins σ H s) (hb : s.heap.objs.size ≤ b) (hn : H' b = none) : FpOk X pins H' b := by
  refine ⟨hn, Nat.ne_of_gt (Nat.lt_of_lt_of_le I.lt hb), I.nofs hb, .inr (Nat.le_trans I.sz hb), fun x c e z => ?_, fun p hp z => ?_⟩
  · obtain ⟨v, q⟩ := I.cell x c e
    exact absurd (Nat.lt_of_lt_of_le q.lt (by rw [z]; exact hb)) (Nat.lt_irrefl _)
  · exact absurd (Nat.lt_of_lt_of_le (Heap.lt_size (I.pin p hp).1) (by rw [z]; exact hb)) (Nat.lt_irrefl _)
structure Turn (P : Program) (w : World) (K : PySem.W.Frag) (tg : Expr) (J : It) (fp : List Addr) (it : Addr) (tn : Nat → Heap → Prop) : Prop where
  mem : it ∈ fp
  obj : ∀ i h, tn i h → ∀ b ∈ fp, ∃ o, h.get? b = some o ∧ ∀ v, o.data ≠ .cell v
  keep : ∀ i h h', tn i h → (∀ b ∈ fp, ∀ o, h.get? b = some o → h'.get? b = some o) → tn i h'
  item : ∀ (X : Cx), X.prog = P → X.w = w → X.K = K → X.calm = true → ∀ (i : Nat) (pins : List (Addr × Obj)) (s : Shared) (σ : St) (H : Hp) (E : Value → Shared → Prop), Inv X pins σ H s → (∀ b ∈ fp, FpOk X pins H b) → tn i s.heap → J.go i H →
    wpAny (model P w) X.A (pyNext (.ref it)) (fun r s1 => ∃ u, r = some u ∧
      wpAny (model P w) X.A (letOwnedTupleGo tg (.ref it) u) (fun _ s2 => ∃ x H', Inv X pins σ H' s2 ∧ RelV x u ∧ J.yld i H x H' ∧ tn (i + 1) s2.heap ∧ ∀ b ∈ fp, H' b = none) E s1) E s
  done : ∀ (X : Cx), X.prog = P → X.w = w → X.K = K → X.calm = true → ∀ (i : Nat) (pins : List (Addr × Obj)) (s : Shared) (σ : St) (H : Hp) (E : Value → Shared → Prop), Inv X pins σ H s → (∀ b ∈ fp, FpOk X pins H b) → tn i s.heap → J.stop i H →
    wpAny (model P w) X.A (pyNext (.ref it)) (fun r s1 => r = none ∧ Inv X pins σ H s1) E s
  self : ∀ (A : Around) (i : Nat) (s : Shared) (Q : Value → Shared → Prop) (E : Value → Shared → Prop), tn i s.heap → Q (.ref it) s → wpAny (model P w) A (pyIter (.ref it)) Q E s
abbrev TI := St → Hp → (It → Hp → Prop) → Prop
def PIE (X : Cx) (pins : List (Addr × Obj)) (σ : St) (tg : Expr) (R : It → Hp → Prop) (itv : Value) (s2 : Shared) : Prop :=
  ∃ (it : Addr) (fp : List Addr) (tn : Nat → Heap → Prop) (J : It) (H' : Hp), itv = .ref it ∧ Inv X pins σ H' s2 ∧ Turn X.prog X.w X.K tg J fp it tn ∧ tn 0 s2.heap ∧ (∀ b ∈ fp, FpOk X pins H' b) ∧ R J H'
def PI (X : Cx) (tg iter : Expr) (wi : TI) : Prop :=
  ∀ (pins : List (Addr × Obj)) (s : Shared) (σ : St) (H : Hp) (R : It → Hp → Prop), Inv X pins σ H s → wi σ H R →
    wpAny (model X.prog X.w) X.A (eval iter X.env) (fun v s1 => wpAny (model X.prog X.w) X.A (pyIter v) (PIE X pins σ tg R) X.xe s1) X.xe s

theorem go_of {M : Model} {A : Around} {E : Value → Shared → Prop} {s : Shared} {tg : Expr} {it : Addr} {u : Value} {o : Obj} {n : String} {vs : Array Value} {Q : Unit → Shared → Prop} (ho : s.heap.get? it = some o) (hc : o.cls = .type n) (hd : o.data = .fields vs)
    (hn : ["enumerate", "zip", "dict_itemiterator", "dict_reverseitemiterator", "odict_iterator", "itertools.zip_longest", "itertools.pairwise"].contains n = false) (hQ : Q () s) : wpAny M A (letOwnedTupleGo tg (.ref it) u) Q E s := by
  unfold letOwnedTupleGo
  cases tg <;> first
    | exact wpAny_pure hQ
    | (cases u <;> first
        | exact wpAny_pure hQ
        | (refine wpAny_bind (wpAny_load ho ?_)
           rw [hc, hd]
           show wpAny M A (if (["enumerate", "zip", "dict_itemiterator", "dict_reverseitemiterator", "odict_iterator", "itertools.zip_longest", "itertools.pairwise"].contains n && vs[0]? == some (rawInt _)) = true then _ else _) Q E s
           rw [if_neg (by intro h; rw [hn, Bool.false_and] at h; cases h)]
           exact wpAny_pure hQ))

def Itl (K : PySem.W.Frag) (a : Addr) : It :=
  ⟨fun i H => ∃ xs x, SqL K H a xs ∧ xs[i]? = some x, fun i H x H' => H' = H ∧ ∀ xs, SqL K H a xs → xs[i]? = some x, fun i H => ∃ xs, SqL K H a xs ∧ xs.length ≤ i⟩
def Itr (lo : Int) (n : Nat) : It := ⟨fun i _ => i < n, fun i H x H' => H' = H ∧ x = .int (lo + i), fun i _ => n ≤ i⟩
theorem turn_list {P : Program} {w : World} {K : PySem.W.Frag} {tg : Expr} (a it : Addr) : Turn P w K tg (Itl K a) [it] it (fun i h => h.IsListIter it a i) where
  mem := by simp
  obj := fun i h st b hb => by
    have e : b = it := by simpa using hb
    subst e
    obtain ⟨o, e, c, d⟩ := st
    exact ⟨o, e, fun v z => by rw [d] at z; cases z⟩
  keep := fun i h h' st k => st.at fun o e => k it (by simp) o e
  item := by
    intro X hP hw hK hc i pins s σ H E I hf st hg
    subst hP hw hK
    obtain ⟨xs, x, hq, hx⟩ := hg
    obtain ⟨its, rv, p, hz⟩ := I.list hq
    obtain ⟨u, hu, ru⟩ := rv.get hx
    obtain ⟨f0, f1, f2, f3, f4, f5⟩ := hf it (by simp)
    refine wpAny_pyNext_list_item st p.isList (x := u) (by simpa using hu) fun h' st' sb => ?_
    have I1 : Inv X pins σ H { s with heap := h' } := I.turned (t' := s.toks) (fun b o hb e => (sb.2 b hb).trans e) f0 f1 f3 f4 f5
    obtain ⟨o, e, c, d⟩ := id st'
    exact ⟨u, rfl, go_of (s := { s with heap := h' }) e c d (by decide) ⟨x, H, I1, ru, ⟨rfl, fun ys hy => by rw [I.list_inj hy hq]; exact hx⟩, st', fun b hb => (hf b hb).1⟩⟩
  done := by
    intro X hP hw hK hc i pins s σ H E I hf st hg
    subst hP hw hK
    obtain ⟨xs, hq, hx⟩ := hg
    obtain ⟨its, rv, p, hz⟩ := I.list hq
    obtain ⟨f0, f1, f2, f3, f4, f5⟩ := hf it (by simp)
    have hl := rv.length
    exact wpAny_pyNext_list_end (I.ok.hd hc) st p.isList (by simp; omega) fun h' eb => ⟨rfl, I.turned (t' := s.toks) (fun b o hb e => eb b o hb e) f0 f1 f3 f4 f5⟩
  self := fun _ _ _ _ _ st h => wpAny_pyIter_listiter st h
theorem turn_range {P : Program} {w : World} {K : PySem.W.Frag} {tg : Expr} (it : Addr) (lo : Int) (n : Nat) : Turn P w K tg (Itr lo n) [it] it (fun i h => IsRangeIter h it (lo + (i : Nat) * 1) ((n : Int) - (i : Nat)) 1) where
  mem := by simp
  obj := fun i h st b hb => by
    have e : b = it := by simpa using hb
    subst e
    exact ⟨_, st, fun v z => by
      have z' : Data.fields _ = Data.cell v := z
      cases z'⟩
  keep := fun i h h' st k => k it (by simp) _ st
  item := by
    intro X hP hw hK hc i pins s σ H E I hf st hg
    subst hP hw hK
    obtain ⟨f0, f1, f2, f3, f4, f5⟩ := hf it (by simp)
    have W := Walks.range (prog := X.prog) (w := X.w) (I.ok.hd hc) it lo 1 n
    refine W.item i s _ _ hg st fun v h' tk hv st' kk => ?_
    obtain ⟨t, rfl⟩ := hv
    have I1 : Inv X pins σ H { s with heap := h', toks := tk } := I.turned (fun b o hb e => kk b o (by simpa using hb) e) f0 f1 f3 f4 f5
    refine ⟨_, rfl, go_of (s := { s with heap := h', toks := tk }) (n := "range_iterator") st' rfl rfl (by decide) ⟨.int (lo + i), H, I1, ⟨t, ?_⟩, ⟨rfl, rfl⟩, st', fun b hb => (hf b hb).1⟩⟩
    rw [Int.mul_one]
  done := by
    intro X hP hw hK hc i pins s σ H E I hf st hg
    subst hP hw hK
    obtain ⟨f0, f1, f2, f3, f4, f5⟩ := hf it (by simp)
    exact wpAny_pyNext_range_end (I.ok.hd hc) st (by have : n ≤ i := hg; omega) fun h' eb => ⟨rfl, I.turned (t' := s.toks) (fun b o hb e => eb b o hb e) f0 f1 f3 f4 f5⟩
  self := fun _ _ _ _ _ st h => wpAny_pyIter_rangeiter st h
end L2

namespace L2
open PySem PySem.Spec PyProof.Rows
section
variable {X : Cx} {tg : Expr}
def iList (K : PySem.W.Frag) (tl : TE) : TI := fun σ H R => tl σ H fun x H1 => ∃ a, x = .ref a ∧ (∃ xs, SqL K H1 a xs) ∧ R (Itl K a) H1
theorem pi_list {l : Expr} {tl : TE} (hl : PE X l tl) : PI X tg l (iList X.K tl) := by
  intro pins s σ H R I h
  refine thn (hl pins s σ H _ I h) fun v s1 ⟨x, H1, I1, r1, q1⟩ => ?_
  obtain ⟨a, e, ⟨xs, hq⟩, q⟩ := q1
  subst e
  cases r1
  obtain ⟨its, rv, p, hz⟩ := I1.list hq
  refine wpAny_pyIter_list p.isList ?_
  refine ⟨s1.heap.objs.size, [s1.heap.objs.size], _, _, H1, rfl, I1.kept (t' := s1.toks) fun b o e => Heap.get?_push_of_some _ e, turn_list a _, ⟨_, Heap.get?_push_size _ rfl, rfl, rfl⟩, fun b hb => ?_, q⟩
  have e : b = s1.heap.objs.size := by simpa using hb
  subst e
  exact I1.fpOk (Nat.le_refl _) (I1.hok.fresh (Nat.le_refl _))
theorem range_it {pins : List (Addr × Obj)} {σ : St} {H : Hp} {s : Shared} {R : It → Hp → Prop} {E : Value → Shared → Prop} {lo hi : Int} {t u v : Tok} {tk : Nat} (I : Inv X pins σ H s) (h1 : -(2 ^ 62) ≤ lo) (h2 : lo < 2 ^ 62) (h3 : -(2 ^ 62) ≤ hi) (h4 : hi < 2 ^ 62)
    (q : R (Itr lo (hi - lo).toNat) H) : wpAny (model X.prog X.w) X.A (pyIter (.ref s.heap.objs.size)) (PIE X pins σ tg R) E { s with heap := s.heap.push { cls := .type "range", data := .fields #[.int lo t, .int hi u, .int 1 v] }, toks := tk } := by
  refine wpAny_pyIter_range (IsRange.new ..) (small_one h1 h2 h3 h4) ?_
  have I1 : Inv X pins σ H { s with heap := s.heap.push { cls := .type "range", data := .fields #[.int lo t, .int hi u, .int 1 v] }, toks := tk } := I.kept fun b o e => Heap.get?_push_of_some _ e
  refine ⟨(s.heap.push { cls := .type "range", data := .fields #[.int lo t, .int hi u, .int 1 v] }).objs.size, [(s.heap.push { cls := .type "range", data := .fields #[.int lo t, .int hi u, .int 1 v] }).objs.size], _, _, H, rfl,
    I1.kept (t' := tk) fun b o e => Heap.get?_push_of_some _ e, turn_range _ lo (hi - lo).toNat, ?_, fun b hb => ?_, q⟩
  · have e1 : lo + ((0 : Nat) : Int) * 1 = lo := by simp
    have e2 : (((hi - lo).toNat : Nat) : Int) - ((0 : Nat) : Int) = Builtin.Range.rangeSize lo hi 1 := by rw [rangeSize_one]; split <;> omega
    show IsRangeIter _ _ (lo + ((0 : Nat) : Int) * 1) ((((hi - lo).toNat : Nat) : Int) - ((0 : Nat) : Int)) 1
    rw [e1, e2]
    exact Heap.get?_push_size _ rfl
  · have e : b = (s.heap.push { cls := .type "range", data := .fields #[.int lo t, .int hi u, .int 1 v] }).objs.size := by simpa using hb
    subst e
    exact I1.fpOk (Nat.le_refl _) (I1.hok.fresh (Nat.le_refl _))
def iRng1 (ta : TA) : TI := fun σ H R => ta σ H fun vs H1 => ∃ j : Int, vs = [.int j] ∧ -(2 ^ 62) ≤ j ∧ j < 2 ^ 62 ∧ R (Itr 0 j.toNat) H1
def iRng2 (ta : TA) : TI := fun σ H R => ta σ H fun vs H1 => ∃ i j : Int, vs = [.int i, .int j] ∧ (-(2 ^ 62) ≤ i ∧ i < 2 ^ 62 ∧ -(2 ^ 62) ≤ j ∧ j < 2 ^ 62) ∧ R (Itr i (j - i).toNat) H1
theorem pi_range1 {a : Expr} {ta : TA} {p pos : Pos} (hg : Gl X "range") (hm : X.mg "range" = none) (ha : PA X [a] ta) (hs : starEach [a] X.env = [(false, eval a X.env)] := by rfl) : PI X tg (.Call (.Name "range" p) [a] [] pos) (iRng1 ta) := by
  intro pins s σ H R I h
  refine Call_ (ld_blt I hg hm boot_range (PyProof.Rows.callWith_type1 (thn (ha pos pins s σ H _ I h) fun us s1 ⟨vs, H1, I1, r1, q1⟩ => ?_) hs rfl))
  obtain ⟨j, e, q1, q2, q⟩ := q1
  subst e
  cases r1 with
  | cons r rr =>
    cases rr
    obtain ⟨t, rfl⟩ := r
    exact call_range_1 (range_it I1 (by omega) (by omega) q1 q2 (by simpa using q))
theorem pi_range2 {a b : Expr} {ta : TA} {p pos : Pos} (hg : Gl X "range") (hm : X.mg "range" = none) (ha : PA X [a, b] ta) (hs : starEach [a, b] X.env = [(false, eval a X.env), (false, eval b X.env)] := by rfl) (hs2 : starEach [b] X.env = [(false, eval b X.env)] := by rfl) :
    PI X tg (.Call (.Name "range" p) [a, b] [] pos) (iRng2 ta) := by
  intro pins s σ H R I h
  refine Call_ (ld_blt I hg hm boot_range (PyProof.Rows.callWith_type1 (thn (ha pos pins s σ H _ I h) fun us s1 ⟨vs, H1, I1, r1, q1⟩ => ?_) (by rw [hs, hs2]) (by rw [hs2]; rfl)))
  obtain ⟨i, j, e, ⟨q1, q2, q3, q4⟩, q⟩ := q1
  subst e
  cases r1 with
  | cons r rr =>
    cases rr with
    | cons r' rr =>
      cases rr
      obtain ⟨t, rfl⟩ := r
      obtain ⟨t', rfl⟩ := r'
      exact call_range_2 (range_it I1 q1 q2 q3 q4 q)

def tFor (wi : TI) (g : TG) (tb : TS) : TS := fun D σ H => wi σ H fun J H1 => ∃ W : Nat → Nat → St → Hp → Prop, (∃ m, W 0 m σ H1) ∧ ∀ i m σ H, W i m σ H →
  (J.stop i H ∧ D.nx σ H) ∨ (J.go i H ∧ ∃ N : St → Hp → Prop, (∀ σ' H', N σ' H' → ∃ m', m' < m ∧ W (i + 1) m' σ' H') ∧ ∀ x H', J.yld i H x H' → g x σ H' fun σ2 H2 => tb { D with nx := N, ct := N, bk := D.nx } σ2 H2)
def pinsAt (fp : List Addr) (h : Heap) : List (Addr × Obj) := fp.filterMap fun b => (h.get? b).map fun o => (b, o)
theorem mem_pinsAt {fp : List Addr} {h : Heap} {b : Addr} {o : Obj} (hb : b ∈ fp) (e : h.get? b = some o) : (b, o) ∈ pinsAt fp h := List.mem_filterMap.mpr ⟨b, hb, by rw [e]; rfl⟩
theorem of_pinsAt {fp : List Addr} {h : Heap} {p : Addr × Obj} (hp : p ∈ pinsAt fp h) : p.1 ∈ fp ∧ h.get? p.1 = some p.2 := by
  obtain ⟨b, hb, e⟩ := List.mem_filterMap.mp hp
  cases q : h.get? b with
  | none => rw [q] at e; cases e
  | some o =>
    rw [q] at e
    have e' : (b, o) = p := Option.some.inj e
    subst e'
    exact ⟨hb, q⟩
theorem Inv.pinned {pins : List (Addr × Obj)} {σ : St} {H : Hp} {s : Shared} {fp : List Addr} (I : Inv X pins σ H s) (hf : ∀ b ∈ fp, FpOk X pins H b) (ho : ∀ b ∈ fp, ∃ o, s.heap.get? b = some o ∧ ∀ v, o.data ≠ .cell v) : Inv X (pins ++ pinsAt fp s.heap) σ H s :=
  I.pins_of fun p hp => (List.mem_append.mp hp).elim (fun z => I.pin p (List.mem_append_right _ z)) fun z => by
    obtain ⟨hb, e⟩ := of_pinsAt z
    obtain ⟨f0, f1, f2, _⟩ := hf p.1 hb
    obtain ⟨o, e', d⟩ := ho p.1 hb
    rw [e] at e'; cases e'
    exact ⟨e, f0, f1, f2, d⟩
theorem Inv.unpinned {pins pl : List (Addr × Obj)} {σ : St} {H : Hp} {s : Shared} (I : Inv X (pins ++ pl) σ H s) : Inv X pins σ H s := I.pins_of fun p hp => I.pin p (List.mem_append_right _ (List.mem_append_left _ hp))
theorem ps_for {iter : Expr} {body : List Stmt} {wi : TI} {g : TG} {tb : TS} {pos : Pos} (hp : PassesOwn (model X.prog X.w) X.A X.env X.xe) (hc : X.calm = true) (hi : PI X tg iter wi) (hg : PG X tg g) (hb : PSs X body tb)
    (hs : ∀ x, foldedSetIterable iter X.env x = pure x := by intro _; rfl) : PS X (.For tg iter body [] pos) (tFor wi g tb) := by
  intro pins s σ H D I h
  refine wpAny_For (thn (hi pins s σ H _ I h) fun v s1 h1 => thn h1 fun itv s2 h2 => ?_) hs
  obtain ⟨it, fp, tn, J, H2, e, I2, T, st2, f2, W, ⟨m0, w0⟩, turn⟩ := h2
  subst e
  -- what stays true of the iterator's objects through the loop
  have stat : ∀ {H' : Hp}, (∀ b ∈ fp, H' b = none) → ∀ b ∈ fp, FpOk X pins H' b := fun hn b hb => ⟨hn b hb, (f2 b hb).2⟩
  refine codeAny_forLoop_any (fun n s' => ∃ i σ' H', Inv X pins σ' H' s' ∧ tn i s'.heap ∧ (∀ b ∈ fp, H' b = none) ∧ W i n σ' H') ?_ m0 ⟨0, σ, H2, I2, st2, fun b hb => (f2 b hb).1, w0⟩
  rintro n s3 ⟨i, σ3, H3, I3, st3, fr3, w3⟩
  rcases turn i n σ3 H3 w3 with ⟨stop, qn⟩ | ⟨go, N, hN, step⟩
  · refine wpAny_passesOwn hp (thn (T.done X rfl rfl rfl hc i pins s3 σ3 H3 X.xe I3 (stat fr3) st3 stop) fun r s4 ⟨hr, I4⟩ => ?_)
    subst hr
    exact wpAny_execs_nil ⟨σ3, H3, I4, qn⟩
  · refine wpAny_passesOwn hp (thn (T.item X rfl rfl rfl hc i pins s3 σ3 H3 X.xe I3 (stat fr3) st3 go) fun r s4 ⟨u, hr, h4⟩ => ?_)
    subst hr
    refine wpAny_passesOwn hp (thn h4 fun _ s5 ⟨x, H5, I5, r5, y5, st5, fr5⟩ => ?_)
    have I5' := I5.pinned (stat fr5) (T.obj _ _ st5)
    refine wpAny_passesOwn hp (thn (hg _ s5 σ3 H5 x u _ I5' r5 (step x H5 y5)) fun _ s6 ⟨σ6, H6, I6, q6⟩ => ?_)
    refine wpAny_passesOwn hp (thn (hb _ s6 σ6 H6 _ I6 q6) fun f s7 q7 => ?_)
    have again : ∀ {σ7 : St} {H7 : Hp}, Inv X (pins ++ pinsAt fp s5.heap) σ7 H7 s7 → N σ7 H7 → ∃ m, m < n ∧ ∃ i σ' H', Inv X pins σ' H' s7 ∧ tn i s7.heap ∧ (∀ b ∈ fp, H' b = none) ∧ W i m σ' H' := fun {σ7 H7} I7 n7 => by
      obtain ⟨m', hm, w7⟩ := hN σ7 H7 n7
      refine ⟨m', hm, i + 1, σ7, H7, I7.unpinned, T.keep _ _ _ st5 fun b hb o e => (I7.pin (b, o) (List.mem_append_right _ (List.mem_append_right _ (mem_pinsAt hb e)))).1, fun b hb => ?_, w7⟩
      obtain ⟨o, e, d⟩ := T.obj _ _ st5 b hb
      exact (I7.pin (b, o) (List.mem_append_right _ (List.mem_append_right _ (mem_pinsAt hb e)))).2.1
    cases f with
    | next => obtain ⟨σ7, H7, I7, n7⟩ := q7; exact again I7 n7
    | cont => obtain ⟨σ7, H7, I7, n7⟩ := q7; exact again I7 n7
    | brk => obtain ⟨σ7, H7, I7, q7⟩ := q7; exact ⟨σ7, H7, I7.unpinned, q7⟩
    | ret v => obtain ⟨x7, σ7, H7, I7, r7, q7⟩ := q7; exact ⟨x7, σ7, H7, I7.unpinned, r7, q7⟩
end

theorem for_list {K : PySem.W.Frag} {a : Addr} {xs : List V} {g : TG} {tb : TS} {D : Ends} {σ : St} {H : Hp} (Pv : Nat → St → Hp → Prop) (h0 : Pv 0 σ H) (hl : ∀ i σ H, i ≤ xs.length → Pv i σ H → SqL K H a xs)
    (hs : ∀ i x σ H, xs[i]? = some x → Pv i σ H → g x σ H fun σ2 H2 => tb { D with nx := Pv (i + 1), ct := Pv (i + 1), bk := D.nx } σ2 H2) (hd : ∀ σ H, Pv xs.length σ H → D.nx σ H) :
    ∃ W : Nat → Nat → St → Hp → Prop, (∃ m, W 0 m σ H) ∧ ∀ i m σ H, W i m σ H →
      ((Itl K a).stop i H ∧ D.nx σ H) ∨ ((Itl K a).go i H ∧ ∃ N : St → Hp → Prop, (∀ σ' H', N σ' H' → ∃ m', m' < m ∧ W (i + 1) m' σ' H') ∧ ∀ x H', (Itl K a).yld i H x H' → g x σ H' fun σ2 H2 => tb { D with nx := N, ct := N, bk := D.nx } σ2 H2) := by
  refine ⟨fun i m σ H => m = xs.length - i ∧ i ≤ xs.length ∧ Pv i σ H, ⟨xs.length, by simp, Nat.zero_le _, h0⟩, ?_⟩
  rintro i m σ H ⟨rfl, hi, p⟩
  have q := hl i σ H hi p
  by_cases hlt : i < xs.length
  · refine .inr ⟨⟨xs, xs[i], q, by simp [hlt]⟩, Pv (i + 1), fun σ' H' p' => ⟨xs.length - (i + 1), by omega, rfl, hlt, p'⟩, fun x H' y => ?_⟩
    obtain ⟨e, y⟩ := y
    subst e
    exact hs i x σ _ (y xs q) p
  · have e : i = xs.length := by omega
    subst e
    exact .inl ⟨⟨xs, q, Nat.le_refl _⟩, hd σ H p⟩
theorem for_range {lo : Int} {n : Nat} {g : TG} {tb : TS} {D : Ends} {σ : St} {H : Hp} (Pv : Nat → St → Hp → Prop) (h0 : Pv 0 σ H)
    (hs : ∀ i σ H, i < n → Pv i σ H → g (.int (lo + i)) σ H fun σ2 H2 => tb { D with nx := Pv (i + 1), ct := Pv (i + 1), bk := D.nx } σ2 H2) (hd : ∀ σ H, Pv n σ H → D.nx σ H) :
    ∃ W : Nat → Nat → St → Hp → Prop, (∃ m, W 0 m σ H) ∧ ∀ i m σ H, W i m σ H →
      ((Itr lo n).stop i H ∧ D.nx σ H) ∨ ((Itr lo n).go i H ∧ ∃ N : St → Hp → Prop, (∀ σ' H', N σ' H' → ∃ m', m' < m ∧ W (i + 1) m' σ' H') ∧ ∀ x H', (Itr lo n).yld i H x H' → g x σ H' fun σ2 H2 => tb { D with nx := N, ct := N, bk := D.nx } σ2 H2) := by
  refine ⟨fun i m σ H => m = n - i ∧ i ≤ n ∧ Pv i σ H, ⟨n, by simp, Nat.zero_le _, h0⟩, ?_⟩
  rintro i m σ H ⟨rfl, hi, p⟩
  by_cases hlt : i < n
  · refine .inr ⟨hlt, Pv (i + 1), fun σ' H' p' => ⟨n - (i + 1), by omega, rfl, hlt, p'⟩, fun x H' y => ?_⟩
    obtain ⟨e, y⟩ := y
    subst e y
    exact hs i σ _ hlt p
  · have e : i = n := by omega
    subst e
    exact .inl ⟨Nat.le_refl _, hd σ H p⟩
theorem while_by {c : TT} {tb : TS} {D : Ends} {σ : St} {H : Hp} (Pv : St → Hp → Prop) (μ : St → Hp → Nat) (h0 : Pv σ H)
    (hs : ∀ σ H, Pv σ H → c σ H fun b H1 => if b = true then tb { D with nx := fun σ' H' => Pv σ' H' ∧ μ σ' H' < μ σ H, ct := fun σ' H' => Pv σ' H' ∧ μ σ' H' < μ σ H, bk := D.nx } σ H1 else D.nx σ H1)
    (mono : ∀ σ H Q Q', (∀ b H1, Q b H1 → Q' b H1) → c σ H Q → c σ H Q') : tWhile c tb D σ H := by
  refine ⟨fun m σ H => m = μ σ H ∧ Pv σ H, ⟨_, rfl, h0⟩, ?_⟩
  rintro m σ H ⟨rfl, p⟩
  refine mono σ H _ _ (fun b H1 q => ?_) (hs σ H p)
  cases b with
  | true => exact ⟨_, fun σ' H' ⟨p', l⟩ => ⟨_, l, rfl, p'⟩, q⟩
  | false => exact q
end L2

namespace L2
open PySem PySem.Spec PyProof.Rows

abbrev R2 := V → V → Hp → VK → Prop
def OpR (X : Cx) (f : Value → Value → Sem Value) (r : R2) : Prop :=
  ∀ (pins : List (Addr × Obj)) (s : Shared) (σ : St) (H : Hp) (x y : V) (v u : Value) (Q : VK), Inv X pins σ H s → RelV x v → RelV y u → r x y H Q →
    wpAny (model X.prog X.w) X.A (f v u) (EP X pins σ Q) X.xe s
def UnR (X : Cx) (f : Value → Sem Value) (r : V → Hp → VK → Prop) : Prop :=
  ∀ (pins : List (Addr × Obj)) (s : Shared) (σ : St) (H : Hp) (x : V) (v : Value) (Q : VK), Inv X pins σ H s → RelV x v → r x H Q →
    wpAny (model X.prog X.w) X.A (f v) (EP X pins σ Q) X.xe s
def CallR (X : Cx) (f : Value) (r : List V → Hp → VK → Prop) : Prop :=
  ∀ (pins : List (Addr × Obj)) (s : Shared) (σ : St) (H : Hp) (xs : List V) (us : List Value) (Q : VK), Inv X pins σ H s → Vals xs us → r xs H Q →
    wpAny (model X.prog X.w) X.A (call f us) (EP X pins σ Q) X.xe s
def tOp (r : R2) (ta tb : TE) : TE := fun σ H Q => ta σ H fun x H1 => tb σ H1 fun y H2 => r x y H2 Q
def tUn (r : V → Hp → VK → Prop) (ta : TE) : TE := fun σ H Q => ta σ H fun x H1 => r x H1 Q
def rI (C : Int → Int → Prop) (g : Int → Int → V) : R2 := fun x y H Q => ∃ i j, x = .int i ∧ y = .int j ∧ C i j ∧ Q (g i j) H
def rI0 (g : Int → Int → V) : R2 := fun x y H Q => ∃ i j, x = .int i ∧ y = .int j ∧ Q (g i j) H
def rU (g : Int → V) : V → Hp → VK → Prop := fun x H Q => ∃ i, x = .int i ∧ Q (g i) H

section
variable {X : Cx} {a b c : Expr} {ta tb tc : TE} {pos : Pos}

theorem binT (ha : PE X a ta) (hb : PE X b tb) {pins : List (Addr × Obj)} {s : Shared} {σ : St} {H : Hp} {R : V → V → Hp → Prop} (I : Inv X pins σ H s)
    (h : ta σ H fun x H1 => tb σ H1 fun y H2 => R x y H2) {Q : Value → Shared → Prop} {f : Value → Value → Sem Value}
    (hf : ∀ v u s2 x y H2, Inv X pins σ H2 s2 → RelV x v → RelV y u → R x y H2 → wpAny (model X.prog X.w) X.A (f v u) Q X.xe s2) :
    wpAny (model X.prog X.w) X.A (eval a X.env) (fun v s₁ => wpAny (model X.prog X.w) X.A (eval b X.env) (fun u s₂ => wpAny (model X.prog X.w) X.A (f v u) Q X.xe s₂) X.xe s₁) X.xe s := by
  refine thn (ha pins s σ H _ I h) fun v s1 ⟨x, H1, I1, r1, q1⟩ => ?_
  refine thn (hb pins s1 σ H1 _ I1 q1) fun u s2 ⟨y, H2, I2, r2, q2⟩ => ?_
  exact hf v u s2 x y H2 I2 r1 r2 q2

theorem pe_op {op : Operator} {r : R2} (ho : OpR X (binaryOp op) r) (ha : PE X a ta) (hb : PE X b tb) : PE X (.BinOp a op b pos) (tOp r ta tb) := by
  intro pins s σ H Q I h
  exact wpAny_BinOp (binT ha hb I h fun v u s2 x y H2 I2 rx ry q => ho pins s2 σ H2 x y v u Q I2 rx ry q)
theorem pe_un {op : UnaryOp} {r : V → Hp → VK → Prop} (ho : UnR X (unaryOp op) r) (ha : PE X a ta) : PE X (.UnaryOp op a pos) (tUn r ta) := by
  intro pins s σ H Q I h
  exact UnaryOp_ (thn (ha pins s σ H _ I h) fun v s1 ⟨x, H1, I1, r1, q1⟩ => ho pins s1 σ H1 x v Q I1 r1 q1)
theorem opI {f : Value → Value → Sem Value} {C : Int → Int → Prop} {g : Int → Int → Int}
    (rule : ∀ (i j : Int) (t u : Tok) (s : Shared) (Q : Value → Shared → Prop) (E : Value → Shared → Prop), C i j → Q (.int (g i j) s.toks) { s with toks := s.toks + 1 } → wpAny (model X.prog X.w) X.A (f (.int i t) (.int j u)) Q E s) :
    OpR X f (rI C fun i j => .int (g i j)) := by
  intro pins s σ H x y v u Q I rx ry h
  obtain ⟨i, j, rfl, rfl, hc, q⟩ := h
  obtain ⟨t, rfl⟩ := rx
  obtain ⟨t', rfl⟩ := ry
  exact rule i j t t' s _ _ hc ⟨.int (g i j), H, I.tok _, ⟨_, rfl⟩, q⟩
theorem opI0 {f : Value → Value → Sem Value} {g : Int → Int → Int}
    (rule : ∀ (i j : Int) (t u : Tok) (s : Shared) (Q : Value → Shared → Prop) (E : Value → Shared → Prop), Q (.int (g i j) s.toks) { s with toks := s.toks + 1 } → wpAny (model X.prog X.w) X.A (f (.int i t) (.int j u)) Q E s) :
    OpR X f (rI0 fun i j => .int (g i j)) := by
  intro pins s σ H x y v u Q I rx ry h
  obtain ⟨i, j, rfl, rfl, q⟩ := h
  obtain ⟨t, rfl⟩ := rx
  obtain ⟨t', rfl⟩ := ry
  exact rule i j t t' s _ _ ⟨.int (g i j), H, I.tok _, ⟨_, rfl⟩, q⟩
theorem opB0 {f : Value → Value → Sem Value} {g : Int → Int → Bool}
    (rule : ∀ (i j : Int) (t u : Tok) (s : Shared) (Q : Value → Shared → Prop) (E : Value → Shared → Prop), Q (.bool (g i j)) s → wpAny (model X.prog X.w) X.A (f (.int i t) (.int j u)) Q E s) :
    OpR X f (rI0 fun i j => .bl (g i j)) := by
  intro pins s σ H x y v u Q I rx ry h
  obtain ⟨i, j, rfl, rfl, q⟩ := h
  obtain ⟨t, rfl⟩ := rx
  obtain ⟨t', rfl⟩ := ry
  exact rule i j t t' s _ _ ⟨.bl (g i j), H, I, rfl, q⟩

def CDiv (i j : Int) : Prop := 0 < j ∧ j < 1073741824
def CPow (i j : Int) : Prop := 0 ≤ j ∧ j ≤ 1000000 ∧ i.natAbs < 2 ^ 64
def CMul (i j : Int) : Prop := (-(2 ^ 64) < i ∧ i < 2 ^ 64) ∨ (-(2 ^ 64) < j ∧ j < 2 ^ 64)
theorem CMul.ok {i j : Int} (h : CMul i j) : IntMulOk i j := by
  rcases h with ⟨h1, h2⟩ | ⟨h1, h2⟩
  · exact .of_left (intBits_le_64 h1 h2)
  · exact .of_right (intBits_le_64 h1 h2)
theorem op_add : OpR X (binaryOp .Add) (rI0 fun i j => .int (i + j)) := opI0 fun _ _ _ _ _ _ _ q => add_int q
theorem op_sub : OpR X (binaryOp .Sub) (rI0 fun i j => .int (i - j)) := opI0 fun _ _ _ _ _ _ _ q => sub_int q
theorem op_mul : OpR X (binaryOp .Mult) (rI CMul fun i j => .int (i * j)) := opI fun _ _ _ _ _ _ _ hc q => mul_int q hc.ok
theorem op_fdiv : OpR X (binaryOp .FloorDiv) (rI CDiv fun i j => .int (i / j)) := opI fun i j _ _ _ _ _ hc q => by
  have h1 : (0 : Int) < j := hc.1
  have h2 : j < 1073741824 := hc.2
  exact floordiv_int (by omega) (by rw [Int.fdiv_eq_ediv_of_nonneg i (by omega)]; exact q) (.inl (PyProof.noPylong_small (by omega)))
theorem op_mod : OpR X (binaryOp .Mod) (rI (fun _ j => 0 < j) fun i j => .int (i % j)) := opI fun i j _ _ _ _ _ hc q => by
  have h1 : (0 : Int) < j := hc
  exact mod_int' (by omega) (by rw [Int.fmod_eq_emod_of_nonneg i (by omega)]; exact q)
theorem op_modN : OpR X (binaryOp .Mod) (rI (fun _ j => j ≠ 0) fun i j => .int (i.fmod j)) := opI fun _ _ _ _ _ _ _ hc q => mod_int' hc q
theorem op_pow : OpR X (binaryOp .Pow) (rI CPow fun i j => .int (i ^ j.toNat)) := opI fun _ _ _ _ _ _ _ hc q => pow_int_small hc.1 hc.2.1 hc.2.2 q
theorem unI {f : Value → Sem Value} {g : Int → Int}
    (rule : ∀ (i : Int) (t : Tok) (s : Shared) (Q : Value → Shared → Prop) (E : Value → Shared → Prop), Q (.int (g i) s.toks) { s with toks := s.toks + 1 } → wpAny (model X.prog X.w) X.A (f (.int i t)) Q E s) :
    UnR X f (rU fun i => .int (g i)) := by
  intro pins s σ H x v Q I rx h
  obtain ⟨i, rfl, q⟩ := h
  obtain ⟨t, rfl⟩ := rx
  exact rule i t s _ _ ⟨.int (g i), H, I.tok _, ⟨_, rfl⟩, q⟩
theorem un_neg : UnR X (unaryOp .USub) (rU fun i => .int (-i)) := unI fun _ _ _ _ _ q => neg_int q
end

def scal : V → V → Bool
  | .non, .non => true | .non, .int _ => true | .int _, .non => true | .non, .bl _ => true | .bl _, .non => true | .non, .str _ => true | .str _, .non => true
  | .int _, .int _ => true | .bl _, .bl _ => true | .str _, .str _ => true | .byt _, .byt _ => true
  | .int _, .str _ => true | .str _, .int _ => true | .bl _, .str _ => true | .str _, .bl _ => true
  | _, _ => false
def rEq : R2 := fun x y H Q => scal x y = true ∧ Q (.bl (decide (x = y))) H
def rNe : R2 := fun x y H Q => scal x y = true ∧ Q (.bl (!decide (x = y))) H

theorem dec_int {i j : Int} : decide (V.int i = V.int j) = (i == j) := by
  rw [Bool.eq_iff_iff]
  simp
theorem dec_bl {i j : Bool} : decide (V.bl i = V.bl j) = (i == j) := by
  rw [Bool.eq_iff_iff]
  simp
theorem dec_str {i j : Str} : decide (V.str i = V.str j) = (i == j) := by
  rw [Bool.eq_iff_iff]
  simp
theorem dec_byt {i j : Array UInt8} : decide (V.byt i = V.byt j) = (i.toList == j.toList) := by
  rw [Bool.eq_iff_iff]
  cases i
  cases j
  simp

section
variable {X : Cx} {a b c : Expr} {ta tb tc : TE} {pos : Pos}
theorem fin_bl {pins : List (Addr × Obj)} {σ : St} {H : Hp} {s : Shared} {Q : VK} {k k' : Bool} (I : Inv X pins σ H s) (q : Q (.bl k) H) (e : k = k') : EP X pins σ Q (.bool k') s := by
  subst e
  exact ⟨.bl k, H, I, rfl, q⟩
theorem op_eq : OpR X (compareOp .Eq) rEq := by
  intro pins s σ H x y v u Q I rx ry h
  obtain ⟨hs, q⟩ := h
  cases x with
  | non =>
    cases rx
    cases y with
    | non => cases ry; exact PySem.EqNone.eq_none_none (fin_bl I q (by simp))
    | bl j => cases ry; exact PySem.EqNone.eq_none_bool (fin_bl I q (by simp))
    | int j => obtain ⟨t', rfl⟩ := ry; exact PySem.EqNone.eq_none_int (fin_bl I q (by simp))
    | str j => obtain ⟨t', rfl⟩ := ry; exact PySem.EqNone.eq_none_str (fin_bl I q (by simp))
    | _ => exact absurd (show false = true from hs) Bool.false_ne_true
  | bl i =>
    cases rx
    cases y with
    | non => cases ry; exact PySem.EqNone.eq_bool_none (fin_bl I q (by simp))
    | bl j => cases ry; exact eq_bool (fin_bl I q dec_bl)
    | str j => obtain ⟨t', rfl⟩ := ry; exact PySem.EqMixed.eq_bool_str (fin_bl I q (by simp))
    | _ => exact absurd (show false = true from hs) Bool.false_ne_true
  | int i =>
    obtain ⟨t, rfl⟩ := rx
    cases y with
    | non => cases ry; exact PySem.EqNone.eq_int_none (fin_bl I q (by simp))
    | int j => obtain ⟨t', rfl⟩ := ry; exact eq_int (fin_bl I q dec_int)
    | str j => obtain ⟨t', rfl⟩ := ry; exact PySem.EqMixed.eq_int_str (fin_bl I q (by simp))
    | _ => exact absurd (show false = true from hs) Bool.false_ne_true
  | str i =>
    obtain ⟨t, rfl⟩ := rx
    cases y with
    | non => cases ry; exact PySem.EqNone.eq_str_none (fin_bl I q (by simp))
    | bl j => cases ry; exact PySem.EqMixed.eq_str_bool (fin_bl I q (by simp))
    | int j => obtain ⟨t', rfl⟩ := ry; exact PySem.EqMixed.eq_str_int (fin_bl I q (by simp))
    | str j => obtain ⟨t', rfl⟩ := ry; exact eq_str (fin_bl I q dec_str)
    | _ => exact absurd (show false = true from hs) Bool.false_ne_true
  | byt i =>
    obtain ⟨t, rfl⟩ := rx
    cases y with
    | byt j => obtain ⟨t', rfl⟩ := ry; exact PySem.W.eq_bytes (fin_bl I q dec_byt)
    | _ => exact absurd (show false = true from hs) Bool.false_ne_true
  | _ => cases y <;> exact absurd (show false = true from hs) Bool.false_ne_true
theorem op_ne : OpR X (compareOp .NotEq) rNe := by
  intro pins s σ H x y v u Q I rx ry h
  obtain ⟨hs, q⟩ := h
  cases x with
  | non =>
    cases rx
    cases y with
    | non => cases ry; exact PySem.EqNone.ne_none_none (fin_bl I q (by simp))
    | bl j => cases ry; exact PySem.EqNone.ne_none_bool (fin_bl I q (by simp))
    | int j => obtain ⟨t', rfl⟩ := ry; exact PySem.EqNone.ne_none_int (fin_bl I q (by simp))
    | str j => obtain ⟨t', rfl⟩ := ry; exact PySem.EqNone.ne_none_str (fin_bl I q (by simp))
    | _ => exact absurd (show false = true from hs) Bool.false_ne_true
  | bl i =>
    cases rx
    cases y with
    | non => cases ry; exact PySem.EqNone.ne_bool_none (fin_bl I q (by simp))
    | bl j => cases ry; exact ne_bool (fin_bl I q (congrArg not dec_bl))
    | str j => obtain ⟨t', rfl⟩ := ry; exact PySem.EqMixed.ne_bool_str (fin_bl I q (by simp))
    | _ => exact absurd (show false = true from hs) Bool.false_ne_true
  | int i =>
    obtain ⟨t, rfl⟩ := rx
    cases y with
    | non => cases ry; exact PySem.EqNone.ne_int_none (fin_bl I q (by simp))
    | int j => obtain ⟨t', rfl⟩ := ry; exact ne_int (fin_bl I q (congrArg not dec_int))
    | str j => obtain ⟨t', rfl⟩ := ry; exact PySem.EqMixed.ne_int_str (fin_bl I q (by simp))
    | _ => exact absurd (show false = true from hs) Bool.false_ne_true
  | str i =>
    obtain ⟨t, rfl⟩ := rx
    cases y with
    | non => cases ry; exact PySem.EqNone.ne_str_none (fin_bl I q (by simp))
    | bl j => cases ry; exact PySem.EqMixed.ne_str_bool (fin_bl I q (by simp))
    | int j => obtain ⟨t', rfl⟩ := ry; exact PySem.EqMixed.ne_str_int (fin_bl I q (by simp))
    | str j => obtain ⟨t', rfl⟩ := ry; exact ne_str (fin_bl I q (congrArg not dec_str))
    | _ => exact absurd (show false = true from hs) Bool.false_ne_true
  | byt i =>
    obtain ⟨t, rfl⟩ := rx
    cases y with
    | byt j => obtain ⟨t', rfl⟩ := ry; exact PySem.W.ne_bytes (fin_bl I q (congrArg not dec_byt))
    | _ => exact absurd (show false = true from hs) Bool.false_ne_true
  | _ => cases y <;> exact absurd (show false = true from hs) Bool.false_ne_true

theorem op_lt : OpR X (compareOp .Lt) (rI0 fun i j => .bl (decide (i < j))) := opB0 fun _ _ _ _ _ _ _ q => lt_int q
theorem op_gt : OpR X (compareOp .Gt) (rI0 fun i j => .bl (decide (j < i))) := opB0 fun _ _ _ _ _ _ _ q => gt_int q
theorem op_ge : OpR X (compareOp .GtE) (rI0 fun i j => .bl (decide (j ≤ i))) := opB0 fun _ _ _ _ _ _ _ q => ge_int q
theorem nomark (b : Expr) {op : CmpOp} (h : op ≠ .In := by decide) (h2 : op ≠ .NotIn := by decide) : behindInMarks op b = false := by
  have e1 : (op == CmpOp.In) = false := by cases op <;> first | rfl | exact absurd rfl h
  have e2 : (op == CmpOp.NotIn) = false := by cases op <;> first | rfl | exact absurd rfl h2
  cases b <;> simp [behindInMarks, e1, e2]
theorem pe_cmpR {op : CmpOp} {r : R2} (ho : OpR X (compareOp op) r) (ha : PE X a ta) (hb : PE X b tb) (hm : behindInMarks op b = false) : PE X (.Compare a [op] [b] pos) (tOp r ta tb) := by
  intro pins s σ H Q I h
  exact wpAny_Compare1 (binT ha hb I h fun v u s2 x y H2 I2 rx ry q => ho pins s2 σ H2 x y v u Q I2 rx ry q) hm
def tTest (t : TE) : TT := fun σ H Q => t σ H fun x H' => ∃ k, x = .bl k ∧ Q k H'
theorem pt_cmpR {op : CmpOp} {r : R2} (ho : OpR X (compareOp op) r) (ha : PE X a ta) (hb : PE X b tb) (hm : behindInMarks op b = false) : PT X (.Compare a [op] [b] pos) (tTest (tOp r ta tb)) := by
  intro pins s σ H Q I h
  refine wpAny_isTrue_Compare1 (thn (ha pins s σ H _ I h) fun v s1 ⟨x, H1, I1, r1, q1⟩ => thn (hb pins s1 σ H1 _ I1 q1) fun u s2 ⟨y, H2, I2, r2, q2⟩ =>
    thn (ho pins s2 σ H2 x y v u _ I2 r1 r2 q2) fun c s3 ⟨z, H3, I3, r3, k, e, q3⟩ => ?_) hm
  subst e
  cases r3
  exact wpAny_truthy_bool ⟨H3, I3, q3⟩
theorem line63 : (sizeLine : Nat) < 2 ^ 63 := by rw [sizeLine_eq]; decide
theorem vals1 {x : V} {us : List Value} (r : Vals [x] us) : ∃ u, us = [u] ∧ RelV x u := by
  cases r with
  | cons r1 r2 => cases r2; exact ⟨_, rfl, r1⟩
theorem vals2 {x y : V} {us : List Value} (r : Vals [x, y] us) : ∃ u w', us = [u, w'] ∧ RelV x u ∧ RelV y w' := by
  cases r with
  | cons r1 r2 =>
    cases r2 with
    | cons r3 r4 => cases r4; exact ⟨_, _, rfl, r1, r3⟩
theorem call_abs : CallR X (.builtin "abs") (fun xs H Q => ∃ i, xs = [.int i] ∧ Q (.int (if i < 0 then -i else i)) H) := by
  intro pins s σ H xs us Q I r h
  obtain ⟨i, rfl, q⟩ := h
  obtain ⟨u, rfl, t, rfl⟩ := vals1 r
  exact call_abs_int fun u tk => ⟨.int (if i < 0 then -i else i), H, I.tok _, ⟨_, rfl⟩, q⟩
theorem call_max2 (hc : X.calm = true) : CallR X (.builtin "max") (fun xs H Q => ∃ i j, xs = [.int i, .int j] ∧ Q (.int (if j > i then j else i)) H) := by
  intro pins s σ H xs us Q I r h
  obtain ⟨i, j, rfl, q⟩ := h
  obtain ⟨u, w', rfl, ⟨t, rfl⟩, ⟨t', rfl⟩⟩ := vals2 r
  refine max_two_ints (I.ok.hd hc) fun h' tk k => ⟨_, H, I.kept k, ?_, q⟩
  by_cases hj : j > i
  · rw [if_pos hj, if_pos hj]; exact ⟨_, rfl⟩
  · rw [if_neg hj, if_neg hj]; exact ⟨_, rfl⟩
theorem call_min2 (hc : X.calm = true) : CallR X (.builtin "min") (fun xs H Q => ∃ i j, xs = [.int i, .int j] ∧ Q (.int (if j < i then j else i)) H) := by
  intro pins s σ H xs us Q I r h
  obtain ⟨i, j, rfl, q⟩ := h
  obtain ⟨u, w', rfl, ⟨t, rfl⟩, ⟨t', rfl⟩⟩ := vals2 r
  refine min_two_ints (I.ok.hd hc) fun h' tk k => ⟨_, H, I.kept k, ?_, q⟩
  by_cases hj : j < i
  · rw [if_pos hj, if_pos hj]; exact ⟨_, rfl⟩
  · rw [if_neg hj, if_neg hj]; exact ⟨_, rfl⟩
end
end L2

namespace L2
open PySem PySem.Spec PyProof.Rows

structure ObjM (h : Heap) (x dx C : Addr) (mA : Str → Option Value) : Prop where
  obj : h.get? x = some (PySem.W.instObj C dx)
  ns : h.Ns1 dx mA
  ne : dx ≠ x

theorem lookIn_ns {h : Heap} {dx : Addr} {mA : Str → Option Value} (n : h.Ns1 dx mA) : ∃ od, h.get? dx = some od ∧ ∀ name, PySem.W.lookIn name od = some (mA name) := by
  obtain ⟨o, es, ep, ho, hd, hk, _, hm⟩ := n
  refine ⟨o, ho, fun name => ?_⟩
  have e := hm name
  unfold nsFind findBy at e
  rw [← Array.find?_toList] at e
  unfold PySem.W.lookIn
  rw [hd]
  dsimp only
  split
  · rename_i y q
    rw [q] at e
    exact congrArg some e
  · rename_i q
    rw [q] at e
    have a : es.toList.any (·.refKey) = false := by
      rw [List.any_eq_false]
      intro y hy
      obtain ⟨z, t, hkey⟩ := hk y (Array.mem_toList_iff.mp hy)
      simp [DictEntry.refKey, hkey]
    have a' : ¬ es.toList.any (·.refKey) = true := by rw [a]; exact Bool.false_ne_true
    rw [if_neg a']
    exact congrArg some e

theorem ObjM.look {h : Heap} {x dx C : Addr} {mA : Str → Option Value} (I : ObjM h x dx C mA) : ∃ od, PySem.W.InstAt h x (PySem.W.instObj C dx) C (some od) ∧ ∀ name, PySem.W.lookIn name od = some (mA name) :=
  let ⟨od, ho, hl⟩ := lookIn_ns I.ns
  ⟨od, ⟨I.obj, rfl, rfl, ho⟩, hl⟩

section
variable {prog : Program} {w : World} {A : Around} {E : Value → Shared → Prop} {s : Shared} {K : PySem.W.Frag} {x dx C f : Addr} {mA : Str → Option Value} {name : Str} {v : Value}

theorem get_map {expr : Bool} {Q : Value → Shared → Prop} (X : K.In s.heap) (I : ObjM s.heap x dx C mA) (hg : PySem.W.plainGet K C name = true) (hh : PySem.W.hasDictIn K C = true)
    (ha : PySem.W.findIn K (.ref C) name = some none) (hv : mA name = some v) (hv' : PySem.W.handedIn v = true) (h : Q v { s with toks := s.toks + 1 }) :
    wpAny (model prog w) A (getAttr (.ref x) name expr) Q E s := by
  obtain ⟨od, J, hl⟩ := I.look
  exact PySem.W.get_value X J (PySem.W.plainGet_of hg).1 (PySem.W.findObj_own hh ha rfl (by rw [hl, hv])) hv' h

theorem get_meth {pl : Sem Bool} {Q : Value × List Value → Shared → Prop} (X : K.In s.heap) (I : ObjM s.heap x dx C mA) (hg : PySem.W.plainGet K C name = true)
    (hf : PySem.W.findIn K (.ref C) name = some (some (.ref f))) (ht : PySem.W.isFn K (.ref f) = true) (hv : mA name = none) (h : Q (.ref f, [.ref x]) s) :
    wpAny (model prog w) A (getMethod (.ref x) name pl) Q E s := by
  obtain ⟨od, J, hl⟩ := I.look
  exact PySem.W.method_fn X J (PySem.W.plainGet_of hg).1 (PySem.W.plainGet_of hg).2 hf (beq_iff_eq.mp ht) (by show (PySem.W.lookIn name od).map (·.isSome) = some false; rw [hl, hv]; rfl) h

theorem set_map {ns : List Str} {Q : Unit → Shared → Prop} (X : K.In s.heap) (I : ObjM s.heap x dx C mA)
    (hs : PySem.W.findIn K (.ref C) "__setattr__" = some (some (.builtin "object.__setattr__"))) (hp : PySem.W.plainOver K C = true) (ht : PySem.W.takerIn K C name = some none) (hh : PySem.W.hasDictIn K C = true)
    (hw : PySem.Within mA ns) (hsz : ns.length ≤ sizeLine)
    (h : ∀ h', ObjM h' x dx C (fun y => if y = name then some v else mA y) → Heap.SameBut dx s.heap h' → Q () { s with heap := h', toks := s.toks + 2 }) :
    wpAny (model prog w) A (setAttr (.ref x) name v) Q E s := by
  obtain ⟨od, J, hl⟩ := I.look
  refine PySem.W.set_plain X J hs (PySem.W.osa_open (s := { s with toks := s.toks + 1 }) (r := none) X J hp ht fun b => ?_)
  obtain ⟨cd, hc, hd'⟩ := PySem.W.any_some hh
  have hx : s.heap.get? x = some ⟨.ref C, some dx, .plain, #[]⟩ := I.obj
  refine wpAny_bind (wpAny_pure (wpAny_bind (wpAny_bind (wpAny_loadPart hx (wpAny_bind (PySem.W.Looks.here (s := { s with toks := s.toks + 1 }) (PySem.W.looks_clsIn X hc) ?_))))))
  rw [hd']
  refine wpAny_pure (a := some dx) (wpAny_bind (wpAny_pure (wpAny_bind ?_)))
  refine wpAny_nsSet1 (s := { s with toks := s.toks + 1 }) I.ns fun h' hn2 hs2 => ?_
  obtain ⟨oD, esD, epD, hoD, hdD, hcD⟩ := hn2.count (PySem.Within.cons name v hw)
  refine wpAny_bind (wpAny_lookBehind hoD (by rw [hdD]; exact pastItsLine_dict (Nat.le_trans hcD (by rw [List.length_cons]; omega))) ?_)
  exact wpAny_pure (h _ ⟨(hs2.2 _ (Ne.symm I.ne)).trans I.obj, hn2, I.ne⟩ hs2)

theorem make_map {R : Result → Shared → Prop} {vs : List Value} {kw : List (Str × Value)} (X : K.In s.heap) (hm : PySem.W.makesIn K C = true)
    (hi : PySem.W.findIn K (.ref C) "__init__" = some (some (.ref f))) (hf : PySem.W.typeIn K (.ref f) = some (.type "function"))
    (h : codeAny (model prog w) (A.under (.builtin "type.__call__" ⟨.ref C :: vs, kw⟩)) (.call (.ref f) ⟨.ref (s.heap.objs.size + 1) :: vs, kw⟩) (PySem.W.InitBack (s.heap.objs.size + 1) R)
      { s with heap := (s.heap.push PySem.W.emptyDict).push (PySem.W.instObj C s.heap.objs.size) }) :
    codeAny (model prog w) A (.call (.ref C) ⟨vs, kw⟩) R s := by
  obtain ⟨hh, g, d, t, os⟩ := s
  exact PySem.W.make_core (PySem.W.makes_of X hm) (PySem.W.looks_findIn X hi) (fun self => PySem.W.bind_fn X self hf) (.inl rfl) h
end

def putF (f : Str) (v : V) : List (Str × V) → List (Str × V)
  | [] => [(f, v)]
  | (g, x) :: r => if g = f then (g, v) :: r else (g, x) :: putF f v r
theorem lookup_putF (f g : Str) (v : V) : ∀ fs : List (Str × V), (putF f v fs).lookup g = if g = f then some v else fs.lookup g
  | [] => by
    show List.lookup g [(f, v)] = _
    by_cases h : g = f
    · have hb : (g == f) = true := beq_iff_eq.mpr h
      simp only [List.lookup, hb, if_pos h]
    · have hb : (g == f) = false := beq_eq_false_iff_ne.mpr h
      simp only [List.lookup, hb, if_neg h]
  | (k, x) :: r => by
    have ih := lookup_putF f g v r
    rw [show putF f v ((k, x) :: r) = (if k = f then (k, v) :: r else (k, x) :: putF f v r) from rfl]
    by_cases hk : k = f
    · rw [if_pos hk]
      by_cases h : g = k
      · have hb : (g == k) = true := beq_iff_eq.mpr h
        simp only [List.lookup, hb, if_pos (h.trans hk)]
      · have hb : (g == k) = false := beq_eq_false_iff_ne.mpr h
        simp only [List.lookup, hb, if_neg (fun e : g = f => h (e.trans hk.symm))]
    · rw [if_neg hk]
      by_cases h : g = k
      · have hb : (g == k) = true := beq_iff_eq.mpr h
        simp only [List.lookup, hb, if_neg (fun e : g = f => hk (h.symm.trans e))]
      · have hb : (g == k) = false := beq_eq_false_iff_ne.mpr h
        simp only [List.lookup, hb]
        exact ih
theorem keys_putF (f : Str) (v : V) : ∀ fs : List (Str × V), f ∈ (putF f v fs).map (·.1) ∧ ∀ g, g ∈ fs.map (·.1) → g ∈ (putF f v fs).map (·.1)
  | [] => ⟨by simp [putF], fun g h => by simp at h⟩
  | (k, x) :: r => by
    obtain ⟨i1, i2⟩ := keys_putF f v r
    rw [show putF f v ((k, x) :: r) = (if k = f then (k, v) :: r else (k, x) :: putF f v r) from rfl]
    by_cases hk : k = f
    · rw [if_pos hk]
      subst hk
      exact ⟨by simp, fun g h => by simpa using h⟩
    · rw [if_neg hk]
      refine ⟨?_, fun g h => ?_⟩
      · rw [List.map_cons]
        exact List.mem_cons_of_mem _ i1
      · rw [List.map_cons] at h ⊢
        rcases List.mem_cons.mp h with e | e
        · exact List.mem_cons.mpr (.inl e)
        · exact List.mem_cons_of_mem _ (i2 g e)
theorem length_putF (f : Str) (v : V) : ∀ fs : List (Str × V), (putF f v fs).length ≤ fs.length + 1
  | [] => by simp [putF]
  | (k, x) :: r => by
    have ih := length_putF f v r
    rw [show putF f v ((k, x) :: r) = (if k = f then (k, v) :: r else (k, x) :: putF f v r) from rfl]
    by_cases hk : k = f
    · rw [if_pos hk, List.length_cons, List.length_cons]; omega
    · rw [if_neg hk, List.length_cons, List.length_cons]; omega

theorem RelO.some_of {v : V} {o : Option Value} (r : RelO (some v) o) : ∃ u, o = some u ∧ RelV v u := by
  cases o with
  | none => exact (show False from r).elim
  | some u => exact ⟨u, rfl, r⟩
theorem RelO.none_of {o : Option Value} (r : RelO none o) : o = none := by
  cases o with
  | none => rfl
  | some u => exact (show False from r).elim
theorem handed_of {v : V} {u : Value} (r : RelV v u) : PySem.W.handedIn u = true := by
  cases v with
  | non => cases (show u = Value.none from r); rfl
  | bl b => cases (show u = Value.bool b from r); rfl
  | int i => obtain ⟨t, e⟩ := (show ∃ t, u = Value.int i t from r); cases e; rfl
  | str x => obtain ⟨t, e⟩ := (show ∃ t, u = Value.str x t from r); cases e; rfl
  | byt b => obtain ⟨t, e⟩ := (show ∃ t, u = Value.bytes b t from r); cases e; rfl
  | flt b => obtain ⟨t, e⟩ := (show ∃ t, u = Value.float b t from r); cases e; rfl
  | ref a => cases (show u = Value.ref a from r); rfl
  | ty n => cases (show u = Value.type n from r); rfl

section
variable {P : Program} {w : World} {H H' : Hp} {h h' : Heap} {a C dx : Addr} {fs fs' : List (Str × V)}
theorem ins_get (hok : HOk P w H h) (e : H a = some (.ins C dx fs)) : ∃ mA, ObjM h a dx C mA ∧ (∀ f, RelO (fs.lookup f) (mA f)) ∧ PySem.Within mA (fs.map (·.1)) ∧ fs.length ≤ 1000 ∧ H dx = some (.own a) := by
  obtain ⟨d, z, ne, ob, mA, n, r, q⟩ := (show ObjOk P w H h a (.ins C dx fs) from hok a _ e)
  exact ⟨mA, ⟨ob, n, ne⟩, r, q, z, d⟩
end

structure Cls (K : PySem.W.Frag) (C : Addr) : Prop where
  pg : PySem.W.plainGet K C Str.empty = true
  hd : PySem.W.hasDictIn K C = true
  po : PySem.W.plainOver K C = true
  sa : PySem.W.findIn K (.ref C) "__setattr__" = some (some (.builtin "object.__setattr__"))
theorem Cls.get {K : PySem.W.Frag} {C : Addr} (c : Cls K C) (f : Str) : PySem.W.plainGet K C f = true := c.pg
def NoAttr (K : PySem.W.Frag) (C : Addr) (f : Str) : Prop := PySem.W.findIn K (.ref C) f = some none
theorem NoAttr.taker {K : PySem.W.Frag} {C : Addr} {f : Str} (n : NoAttr K C f) : PySem.W.takerIn K C f = some none := by
  unfold PySem.W.takerIn
  rw [show PySem.W.findIn K (.ref C) f = some none from n]
  rfl
structure Meth (K : PySem.W.Frag) (C : Addr) (m : Str) (f : Addr) : Prop where
  at_ : PySem.W.findIn K (.ref C) m = some (some (.ref f))
  fn : PySem.W.isFn K (.ref f) = true
  kp : PySem.W.keepIn K (.ref f) = true

section
variable {X : Cx} {pins : List (Addr × Obj)} {σ : St} {H : Hp} {s : Shared} {a C dx : Addr} {fs : List (Str × V)} {f : Str} {v : V} {A : Around} {E : Value → Shared → Prop}

theorem getattr_ok {b : Bool} {Q : Value → Shared → Prop} (I : Inv X pins σ H s) (e : H a = some (.ins C dx fs)) (c : Cls X.K C) (n : NoAttr X.K C f) (l : fs.lookup f = some v)
    (h : ∀ u s', Inv X pins σ H s' → RelV v u → Q u s') : wpAny (model X.prog X.w) A (getAttr (.ref a) f b) Q E s := by
  obtain ⟨mA, O, r, _, _, _⟩ := ins_get I.hok e
  obtain ⟨u, hu, ru⟩ := RelO.some_of (v := v) (o := mA f) (by rw [← l]; exact r f)
  exact get_map I.kIn O (c.get f) c.hd n hu (handed_of ru) (h u _ (I.tok _) ru)

theorem getmeth_ok {m : Str} {g : Addr} {pl : Sem Bool} {Q : Value × List Value → Shared → Prop} (I : Inv X pins σ H s) (e : H a = some (.ins C dx fs)) (c : Cls X.K C) (k : Meth X.K C m g) (l : fs.lookup m = none)
    (h : Q (.ref g, [.ref a]) s) : wpAny (model X.prog X.w) A (getMethod (.ref a) m pl) Q E s := by
  obtain ⟨mA, O, r, _, _, _⟩ := ins_get I.hok e
  have hn : mA m = none := RelO.none_of (by rw [← l]; exact r m)
  exact get_meth I.kIn O (c.get m) k.at_ k.fn hn h

theorem setattr_ok {y : V} {u : Value} {Q : Unit → Shared → Prop} (I : Inv X pins σ H s) (e : H a = some (.ins C dx fs)) (c : Cls X.K C) (n : NoAttr X.K C f) (hl : fs.length < 1000) (ry : RelV y u)
    (h : ∀ s', Inv X pins σ (upd H a (.ins C dx (putF f y fs))) s' → Q () s') : wpAny (model X.prog X.w) A (setAttr (.ref a) f u) Q E s := by
  obtain ⟨mA, O, r, wi, _, ho⟩ := ins_get I.hok e
  have hz : (fs.map (·.1)).length ≤ sizeLine := by rw [List.length_map, sizeLine_eq]; omega
  refine set_map I.kIn O c.sa c.po n.taker c.hd wi hz fun h' O' sb => h _ ?_
  have hd : ∃ o, h'.get? dx = some o := let ⟨o, _, _, e', _⟩ := O'.ns; ⟨o, e'⟩
  refine I.write (x := a) (e := dx) (by rw [e]; exact True.intro) (.inr ho) (fun b q hb z => (sb.2 b hb).trans z) hd ?_
  refine ⟨by rw [upd_ne O.ne]; exact ho, ?_, O.ne, O'.obj, _, O'.ns, fun g => ?_, fun g hg => ?_⟩
  · have := length_putF f y fs; omega
  · show RelO ((putF f y fs).lookup g) (if g = f then some u else mA g)
    rw [lookup_putF]
    by_cases q : g = f
    · rw [if_pos q, if_pos q]; exact ry
    · rw [if_neg q, if_neg q]; exact r g
  · by_cases q : g = f
    · rw [q]; exact (keys_putF f y fs).1
    · refine (keys_putF f y fs).2 g (wi g fun z => hg ?_)
      show (if g = f then some u else mA g) = none
      rw [if_neg q]; exact z

theorem Inv.made (I : Inv X pins σ H s) : Inv X pins σ (upd (upd H s.heap.objs.size (.own (s.heap.objs.size + 1))) (s.heap.objs.size + 1) (.ins C s.heap.objs.size []))
    { s with heap := (s.heap.push PySem.W.emptyDict).push (PySem.W.instObj C s.heap.objs.size) } := by
  have e1 : (s.heap.push PySem.W.emptyDict).get? s.heap.objs.size = some PySem.W.emptyDict := Heap.get?_push_size s.heap rfl
  have e2 : ((s.heap.push PySem.W.emptyDict).push (PySem.W.instObj C s.heap.objs.size)).get? (s.heap.objs.size + 1) = some (PySem.W.instObj C s.heap.objs.size) := by
    have := Heap.get?_push_size (s.heap.push PySem.W.emptyDict) (o := PySem.W.instObj C s.heap.objs.size) rfl
    rwa [Heap.size_push] at this
  have e3 : (s.heap.push PySem.W.emptyDict).Ns s.heap.objs.size (fun _ => none) := ⟨PySem.W.emptyDict, #[], _, e1, rfl, (fun e he => absurd he (by simp)), fun _ => rfl⟩
  have I1 := I.laid (a := s.heap.objs.size) (o := .own (s.heap.objs.size + 1)) (h' := s.heap.push PySem.W.emptyDict) (t' := s.toks) (fun b u q => Heap.get?_push_of_some _ q) (Nat.le_refl _) ⟨_, e1⟩
  refine I1.laid (a := s.heap.objs.size + 1) (o := .ins C s.heap.objs.size []) (t' := s.toks) (fun b u q => Heap.get?_push_of_some _ q) (Nat.le_of_eq (Heap.size_push _ _)) ?_
  have ne : s.heap.objs.size ≠ s.heap.objs.size + 1 := Nat.ne_of_lt (Nat.lt_succ_self _)
  refine ⟨by rw [upd_ne ne, upd_same], Nat.zero_le _, ne, e2, fun _ => none, (Heap.Ns1.of_empty e3).at fun o q => Heap.get?_push_of_some _ q, fun _ => True.intro, fun y hy => absurd rfl hy⟩

theorem attr_of {prog : Program} {w : World} {env : Env} {e : Expr} {f : Str} {pos : Pos} {s : Shared} {Q : Value → Shared → Prop} (hb : attributeBase e f env (eval e env) = eval e env)
    (h : wpAny (model prog w) A (eval e env) (fun o s₁ => wpAny (model prog w) A (getAttr o f true) Q E s₁) E s) : wpAny (model prog w) A (eval (.Attribute e f pos) env) Q E s :=
  Attribute_any_ h (by rw [arm_eval_Attribute, hb])
end

def tFld (K : PySem.W.Frag) (ta : TE) (f : Str) : TE := fun σ H Q => ta σ H fun x H1 => ∃ a C dx fs v, x = .ref a ∧ H1 a = some (.ins C dx fs) ∧ Cls K C ∧ NoAttr K C f ∧ fs.lookup f = some v ∧ Q v H1
def sFld (K : PySem.W.Frag) (ta tv : TE) (f : Str) : TS := fun D σ H => tv σ H fun y H1 => ta σ H1 fun x H2 => ∃ a C dx fs, x = .ref a ∧ H2 a = some (.ins C dx fs) ∧ Cls K C ∧ NoAttr K C f ∧ fs.length < 1000 ∧
  D.nx σ (upd H2 a (.ins C dx (putF f y fs)))
section
variable {X : Cx} {o e value : Expr} {f : Str} {pos pos' tpos : Pos} {ta tv : TE}
theorem pe_fld (he : PE X e ta) (hb : attributeBase e f X.env (eval e X.env) = eval e X.env) : PE X (.Attribute e f pos) (tFld X.K ta f) := by
  intro pins s σ H Q I h
  refine attr_of hb (thn (he pins s σ H _ I h) fun u s1 ⟨x, H1, I1, rx, a, C, dx, fs, v, ex, ea, c, n, l, q⟩ => ?_)
  subst ex
  obtain rfl : u = Value.ref a := rx
  exact getattr_ok I1 ea c n l fun u' s2 I2 ru => ⟨v, H1, I2, ru, q⟩
theorem ps_fld (ha : PE X o ta) (hv : PE X value tv) (hs : swapsWith value (some (.Attribute o f pos')) pos.line X.env = pure false) : PS X (.Assign [.Attribute o f pos'] value pos) (sFld X.K ta tv f) := by
  intro pins s σ H D I h
  refine plainObj_wpAny_Assign_Attribute (thn (hv pins s σ H _ I h) fun u s1 ⟨y, H1, I1, ry, q⟩ => thn (ha pins s1 σ H1 _ I1 q) fun ov s2 ⟨x, H2, I2, rx, a, C, dx, fs, ex, ea, c, n, l, q2⟩ => ?_) hs
  subst ex
  obtain rfl : ov = Value.ref a := rx
  exact setattr_ok I2 ea c n l ry fun s3 I3 => ⟨σ, _, I3, q2⟩
end

section
variable {X : Cx} {pins : List (Addr × Obj)} {σ : St} {H : Hp} {s : Shared} {A : Around} {E : Value → Shared → Prop} {Q : Value → Shared → Prop} {c : Value} {b : Bool}
inductive TyOf (K : PySem.W.Frag) (H : Hp) : V → Value → Prop where
  | non : TyOf K H .non (.type "NoneType")
  | bl (x : Bool) : TyOf K H (.bl x) (.type "bool")
  | int (i : Int) : TyOf K H (.int i) (.type "int")
  | str (x : Str) : TyOf K H (.str x) (.type "str")
  | flt (x : UInt64) : TyOf K H (.flt x) (.type "float")
  | lst {a : Addr} {xs : List V} (e : H a = some (.lst xs)) : TyOf K H (.ref a) (.type "list")
  | frz {a : Addr} {o : Obj} {xs : List V} (e : H a = some (.frz o (.lst xs))) : TyOf K H (.ref a) (.type "list")
  | tup {a : Addr} {xs : List V} (e : H a = some (.tup xs)) : TyOf K H (.ref a) (.type "tuple")
  | dK {a : Addr} {kvs : List (Key × V)} (e : H a = some (.dK kvs)) : TyOf K H (.ref a) (.type "dict")
  | dT {a : Addr} {kvs : List (List Key × V)} (e : H a = some (.dT kvs)) : TyOf K H (.ref a) (.type "dict")
  | ins {a C dx : Addr} {fs : List (Str × V)} (e : H a = some (.ins C dx fs)) (cl : Cls K C) (ha : PySem.W.findIn K (.ref C) "__class__" = some (some (.builtin "object.__class__")))
      (hn : PySem.W.specialIn K (.builtin "object.__class__") "__get__" = some (some (.builtin "getset_descriptor.__get__"))) (htk : PySem.W.takesIn K (.builtin "object.__class__") = some true)
      (hm : PySem.W.mroIn K C (.type "object") = some true) : TyOf K H (.ref a) (.ref C)
theorem isinst_ok {x : V} {u t : Value} (I : Inv X pins σ H s) (rx : RelV x u) (ty : TyOf X.K H x t) (e : PySem.W.kitOne X.K t c = some b) (h : ∀ tk, Q (.bool b) { s with toks := tk }) :
    wpAny (model X.prog X.w) A (call (.builtin "isinstance") [u, c]) Q E s := by
  cases ty with
  | non => cases (show u = Value.none from rx); exact PySem.W.kia_one PySem.W.kitx_none I.kIn True.intro e (fun z => nomatch z) h
  | bl y => cases (show u = Value.bool y from rx); exact PySem.W.kia_one PySem.W.kitx_bool I.kIn True.intro e (fun z => nomatch z) h
  | int i => obtain ⟨t, q⟩ := (show ∃ t, u = Value.int i t from rx); cases q; exact PySem.W.kia_one PySem.W.kitx_int I.kIn True.intro e (fun z => nomatch z) h
  | str y => obtain ⟨t, q⟩ := (show ∃ t, u = Value.str y t from rx); cases q; exact PySem.W.kia_one PySem.W.kitx_str I.kIn True.intro e (fun z => nomatch z) h
  | flt y => obtain ⟨t, q⟩ := (show ∃ t, u = Value.float y t from rx); cases q; exact PySem.W.kia_one PySem.W.kitx_float I.kIn True.intro e (fun z => nomatch z) h
  | @lst a xs ea =>
    cases (show u = Value.ref a from rx)
    obtain ⟨_, _, n, _, h1⟩ := (show ObjOk X.prog X.w H s.heap a (.lst xs) from I.hok a _ ea)
    exact PySem.W.kia_one PySem.W.kitx_list I.kIn ⟨_, h1, rfl⟩ e (fun z => nomatch z) h
  | @frz a ob xs ea =>
    cases (show u = Value.ref a from rx)
    obtain ⟨_, _, _, n, _, h1⟩ := (show ObjOk X.prog X.w H s.heap a (.frz ob (.lst xs)) from I.hok a _ ea)
    exact PySem.W.kia_one PySem.W.kitx_list I.kIn ⟨_, h1, rfl⟩ e (fun z => nomatch z) h
  | @tup a xs ea =>
    cases (show u = Value.ref a from rx)
    obtain ⟨_, _, _, p⟩ := (show ObjOk X.prog X.w H s.heap a (.tup xs) from I.hok a _ ea)
    obtain ⟨o, h1, h2, _⟩ := p
    exact PySem.W.kia_one PySem.W.kitx_tuple I.kIn ⟨o, h1, h2⟩ e (fun z => nomatch z) h
  | @dK a kvs ea =>
    cases (show u = Value.ref a from rx)
    obtain ⟨_, _, vs, _, p⟩ := (show ObjOk X.prog X.w H s.heap a (.dK kvs) from I.hok a _ ea)
    obtain ⟨o, es, ep, h1, h2, _⟩ := p
    exact PySem.W.kia_one PySem.W.kitx_dict I.kIn ⟨o, h1, h2.1⟩ e (fun z => nomatch z) h
  | @dT a kvs ea =>
    cases (show u = Value.ref a from rx)
    obtain ⟨_, _, xs, _, o, es, ep, h1, h2, _⟩ := (show ObjOk X.prog X.w H s.heap a (.dT kvs) from I.hok a _ ea)
    exact PySem.W.kia_one PySem.W.kitx_dict I.kIn ⟨o, h1, h2.1⟩ e (fun z => nomatch z) h
  | @ins a C dx fs ea cl ha hn htk hm =>
    cases (show u = Value.ref a from rx)
    obtain ⟨mA, O, _⟩ := ins_get I.hok ea
    obtain ⟨od, J, _⟩ := O.look
    exact PySem.W.kia_one (PySem.W.kitx_own (cl.get _) cl.hd ha hn htk hm) I.kIn J e (fun z => nomatch z) h
end
end L2

namespace L2
open PySem PySem.Spec PyProof.Rows

structure Room (k : Nat) (A : Around) : Prop where
  hd : A.handled = none
  dp : A.depth + 3 * k + 5 < recursionLimit
  un : A.units + 16 * k + 200 < cLine
theorem Room.mono {j k : Nat} {A : Around} (r : Room k A) (h : j ≤ k) : Room j A := ⟨r.hd, by have := r.dp; omega, by have := r.un; omega⟩
theorem Room.deeper {k : Nat} {A : Around} (r : Room (k + 1) A) (env : Env) : Room k (A.deeper env) :=
  ⟨r.hd, by have := r.dp; show A.depth + 1 + 3 * k + 5 < _; omega, by have := r.un; show A.units + 3 + 16 * k + 200 < _; omega⟩
theorem make_depth {A : Around} {C : Addr} {us : List Value} {kw : List (Str × Value)} : (A.under (.builtin "type.__call__" ⟨.ref C :: us, kw⟩)).depth = A.depth + 1 := by
  first | rfl | simp [Around.under, Code.weight, Code.isCreation, Code.isGuard, Code.isCaller, Code.frames, Code.isFrame, guardIds]
theorem make_units {A : Around} {C : Addr} {us : List Value} {kw : List (Str × Value)} : (A.under (.builtin "type.__call__" ⟨.ref C :: us, kw⟩)).units = A.units + 1 := by
  first | rfl | simp [Around.under, Code.cUnits, Code.frames, Code.isFrame]
theorem Room.make {k : Nat} {A : Around} (r : Room (k + 1) A) (C : Addr) (us : List Value) (kw : List (Str × Value)) : Room k (A.under (.builtin "type.__call__" ⟨.ref C :: us, kw⟩)) :=
  ⟨r.hd, by have := r.dp; rw [make_depth]; omega, by have := r.un; rw [make_units]; omega⟩
theorem Room.depth {k : Nat} {A : Around} (r : Room k A) : A.depth < recursionLimit := by have := r.dp; omega
theorem Room.units {k : Nat} {A : Around} (r : Room k A) : A.units + 64 < cLine := by have := r.un; omega
def tNil : TA := fun _ H Q => Q [] H
def tCons (ta : TE) (tr : TA) : TA := fun σ H Q => ta σ H fun x H1 => tr σ H1 fun xs H2 => Q (x :: xs) H2
section
variable {X : Cx} {e : Expr} {es : List Expr} {te : TE} {t : TA} {pos : Pos}
theorem pa_nil : PA X [] tNil := fun _ _ _ _ H Q I h => Calls.spliced_nil ⟨[], H, I, .nil, h⟩
theorem pa_cons (ha : PE X e te) (hr : PA X es t) (hs : starEach (e :: es) X.env = (false, eval e X.env) :: starEach es X.env := by rfl) : PA X (e :: es) (tCons te t) := by
  intro pos pins s σ H Q I h
  rw [hs]
  show wpAny _ _ (spliced ((false, eval e X.env) :: backTo pos (starEach es X.env))) _ _ s
  refine Calls.spliced_cons (thn (ha pins s σ H _ I h) fun u s1 ⟨x, H1, I1, r1, q1⟩ => ?_)
  exact thn (hr pos pins s1 σ H1 _ I1 q1) fun us s2 ⟨xs, H2, I2, r2, q2⟩ => ⟨x :: xs, H2, I2, .cons r1 r2, q2⟩

def tTup (t : TA) : TE := fun σ H Q => t σ H fun xs H1 => xs.length ≤ sizeLine ∧ ∀ p, H1 p = none → Q (.ref p) (upd H1 p (.tup xs))
def tLst (t : TA) : TE := fun σ H Q => t σ H fun xs H1 => xs.length ≤ sizeLine ∧ ∀ p, H1 p = none → Q (.ref p) (upd H1 p (.lst xs))
theorem pe_tup {x1} (h : PA X es t) : PE X (.Tuple es x1 pos) (tTup t) := by
  intro pins s σ H Q I hq
  refine wpAny_Tuple_spliced (thn (h pos pins s σ H _ I hq) fun us s1 ⟨xs, H1, I1, r, z, q⟩ => ⟨by rw [← r.length]; exact z, ?_⟩)
  have hf : H1 s1.heap.objs.size = none := I1.hok.fresh (Nat.le_refl _)
  refine ⟨.ref s1.heap.objs.size, upd H1 s1.heap.objs.size (.tup xs), I1.laid (t' := s1.toks) (fun b u e => Heap.get?_push_of_some _ e) (Nat.le_refl _) ?_, rfl, q _ hf⟩
  exact ⟨z, us, r, ⟨_, Heap.get?_push_size _ rfl, rfl, _, rfl⟩⟩
theorem pe_lst (h : PA X es t) : PE X (.List es pos) (tLst t) := by
  intro pins s σ H Q I hq
  refine wpAny_List_spliced (thn (h pos pins s σ H _ I hq) fun us s1 ⟨xs, H1, I1, r, z, q⟩ => ⟨by rw [← r.length]; exact z, ?_⟩)
  have hf : H1 s1.heap.objs.size = none := I1.hok.fresh (Nat.le_refl _)
  refine ⟨.ref s1.heap.objs.size, upd H1 s1.heap.objs.size (.lst xs), I1.laid (t' := s1.toks) (fun b u e => Heap.get?_push_of_some _ e) (Nat.le_refl _) ?_, rfl, q _ hf⟩
  exact ⟨z, us, 0, r, Heap.get?_push_size _ rfl⟩
end

abbrev Sp := List V → Hp → VK → XK → Prop
abbrev CXT := List Env → Hp → Shared → XK → Value → Shared → Prop

structure Env0 (P : Program) (w : World) (K : PySem.W.Frag) (mg : Str → Option Value) (base : Heap) (A : Around) (outer : List Env) (s : Shared) (H : Hp) : Prop where
  frames : A.frames = some outer
  mod : Mod K mg base
  bs : ∀ b o, base.get? b = some o → s.heap.get? b = some o ∧ H b = none
  bsz : base.objs.size ≤ s.heap.objs.size
  funs : s.heap.FunFrames base outer
  frf : ∀ b ∈ frs outer, H b = none
  hok : HOk P w H s.heap
  bare : AllBare s.gens
def CE (outer : List Env) (P : Program) (w : World) (H : Hp) (s : Shared) (Q : VK) (u : Value) (s' : Shared) : Prop :=
  ∃ v H', s'.os = s.os ∧ AllBare s'.gens ∧ Un (frs outer) [] H H' s.heap s'.heap ∧ HOk P w H' s'.heap ∧ RelV v u ∧ Q v H'
def CR (CX : CXT) (outer : List Env) (P : Program) (w : World) (H : Hp) (s : Shared) (Q : VK) (E : XK) (r : Result) (s' : Shared) : Prop :=
  match r with
  | .ok (.ret u) => CE outer P w H s Q u s'
  | .ok _ => False
  | .error e => CX outer H s E e s'
structure FnOk (P : Program) (w : World) (K : PySem.W.Frag) (mg : Str → Option Value) (base : Heap) (CX : CXT) (k : Nat) (f : Addr) (fd : FuncData) (ps : List Str) (sp : Sp) : Prop where
  len : ∀ vs H Q E, sp vs H Q E → vs.length = ps.length
  run : ∀ (A : Around) (outer : List Env) (s : Shared) (H : Hp) (args : Args) (us : List Value) (vs : List V) (Q : VK) (E : XK), Room k A → Env0 P w K mg base A outer s H → BindsTo s fd args (ps.zip us) → Vals vs us → sp vs H Q E →
    codeAny (model P w) A (.call (.ref f) args) (CR CX outer P w H s Q E) s
theorem Env0.make {P : Program} {w : World} {K : PySem.W.Frag} {mg : Str → Option Value} {base : Heap} {A : Around} {outer : List Env} {s : Shared} {H : Hp} (e : Env0 P w K mg base A outer s H) (C : Addr) (us : List Value) (kw : List (Str × Value)) :
    Env0 P w K mg base (A.under (.builtin "type.__call__" ⟨.ref C :: us, kw⟩)) outer s H := ⟨by first | exact e.frames | (simpa [Around.under, Code.envs, Code.isFrame, pushEnvs] using e.frames), e.mod, e.bs, e.bsz, e.funs, e.frf, e.hok, e.bare⟩
section
variable {X : Cx} {pins : List (Addr × Obj)} {σ : St} {H : Hp} {s s' : Shared}
theorem Inv.env0 (I : Inv X pins σ H s) : Env0 X.prog X.w X.K X.mg X.base X.A X.stack s H :=
  ⟨I.ok.frames, I.ok.mod, I.bs, Nat.le_trans I.ok.bsz I.sz, I.stack, I.stkFree, I.hok, I.bare⟩
theorem Inv.after {Q : VK} {u : Value} (I : Inv X pins σ H s) (h : CE X.stack X.prog X.w H s Q u s') : EP X pins σ Q u s' := by
  obtain ⟨v, H', os, bare, un, hok, r, q⟩ := h
  obtain ⟨hh, g, d, t, os'⟩ := s'
  obtain rfl : os' = s.os := os
  exact ⟨v, H', I.call (h' := hh) (g' := g) (d' := d) (t' := t) (ch := []) un hok bare (fun b z => absurd z (by simp)), r, q⟩
end

def tCall (sp : Sp) (dvs : List V) (E : XK) (t : TA) : TE := fun σ H Q => t σ H fun vs H1 => sp (vs ++ dvs) H1 Q E
def tMeth (C : Addr) (m : Str) (sp : Sp) (dvs : List V) (E : XK) (ta : TE) (t : TA) : TE := fun σ H Q => ta σ H fun x H1 => ∃ a dx fs, x = .ref a ∧ H1 a = some (.ins C dx fs) ∧ fs.lookup m = none ∧
  t σ H1 fun vs H2 => sp (x :: (vs ++ dvs)) H2 Q E
def tMake (C : Addr) (sp : Sp) (dvs : List V) (E : XK) (t : TA) : TE := fun σ H Q => t σ H fun vs H1 => ∀ x dx, H1 x = none → H1 dx = none → dx ≠ x →
  sp (.ref x :: (vs ++ dvs)) (upd (upd H1 dx (.own x)) x (.ins C dx [])) (fun v H2 => v = .non ∧ Q (.ref x) H2) E

def Binds (K : PySem.W.Frag) (fd : FuncData) (ps : List Str) (ds : List Value) : Prop :=
  ∀ (s : Shared) (us : List Value), K.In s.heap → (us ++ ds).length = ps.length → BindsTo s fd ⟨us, []⟩ (ps.zip (us ++ ds))
theorem Binds.all {K : PySem.W.Frag} {fd : FuncData} {ps : List Str} (h : ∀ us : List Value, us.length = ps.length → bindArgs fd ⟨us, []⟩ = pure (ps.zip us)) : Binds K fd ps [] := fun s us _ hl => by
  rw [List.append_nil] at hl ⊢
  exact .of_eq (h us hl)

def Passes (CX : CXT) (X : Cx) (E : XK) : Prop := ∀ (pins : List (Addr × Obj)) (σ : St) (H : Hp) (s : Shared) (e : Value) (s' : Shared), Inv X pins σ H s → CX X.stack H s E e s' → X.xe e s'

section
variable {X : Cx} {CX : CXT} {k : Nat} {f C : Addr} {fd : FuncData} {ps : List Str} {sp : Sp} {dvs : List V} {ds : List Value} {E : XK} {x m : Str} {p pos apos : Pos} {e o : Expr} {es : List Expr} {ta : TE} {t : TA}

theorem run_fn {pins : List (Addr × Obj)} {σ : St} {H : Hp} {s : Shared} {Q : VK} {us : List Value} {vs : List V} (F : FnOk X.prog X.w X.K X.mg X.base CX k f fd ps sp) (hr : Room k X.A) (hb : Binds X.K fd ps ds) (hd : Vals dvs ds) (hx : Passes CX X E)
    (I : Inv X pins σ H s) (r : Vals vs us) (h : sp (vs ++ dvs) H Q E) : wpAny (model X.prog X.w) X.A (call (.ref f) us) (EP X pins σ Q) X.xe s := by
  have r2 : Vals (vs ++ dvs) (us ++ ds) := r.append hd
  have hl : (us ++ ds).length = ps.length := by rw [← r2.length]; exact F.len _ _ _ _ h
  refine wpAny_call (codeAny_mono (F.run X.A X.stack s H ⟨us, []⟩ (us ++ ds) (vs ++ dvs) Q E hr I.env0 (hb s us I.kIn hl) r2 h) fun r s' hq => ?_)
  cases r with
  | error e => exact hx pins σ H s e s' I hq
  | ok fl =>
    cases fl with
    | ret u => exact I.after hq
    | next => exact False.elim hq
    | brk => exact False.elim hq
    | cont => exact False.elim hq

theorem pe_call (F : FnOk X.prog X.w X.K X.mg X.base CX k f fd ps sp) (hr : Room k X.A) (hg : Gl X x) (hm : X.mg x = some (.ref f)) (hk : PySem.W.keepIn X.K (.ref f) = true) (hb : Binds X.K fd ps ds) (hd : Vals dvs ds) (hx : Passes CX X E)
    (ha : PA X (e :: es) t) (hdb : (x == ("__debug__" : Str)) = false := by decide) (he : starEach (e :: es) X.env = (false, eval e X.env) :: starEach es X.env := by rfl) (hpl : (backTo pos (starEach es X.env)).any (·.1) = false := by rfl) :
    PE X (.Call (.Name x p) (e :: es) [] pos) (tCall sp dvs E t) := by
  intro pins s σ H Q I h
  refine wpAny_Call_Name_kw (ld_glob I hg hm ?_ hdb)
  refine PySem.W.callWith_K (h₀ := X.base) I.ok.mod.kin hk (thn (ha pos pins s σ H _ I h) fun us s1 ⟨vs, H1, I1, r, q⟩ => ⟨I1.kIn, ?_⟩) he hpl
  exact run_fn F hr hb hd hx I1 r q
theorem pe_meth {pl : Sem Bool} (he : PE X o ta) (c : Cls X.K C) (hm : Meth X.K C m f) (F : FnOk X.prog X.w X.K X.mg X.base CX k f fd ps sp) (hr : Room k X.A) (hb : Binds X.K fd ps ds) (hd : Vals dvs ds) (hx : Passes CX X E) (ha : PA X (e :: es) t)
    (hst : starEach (e :: es) X.env = (false, eval e X.env) :: starEach es X.env := by rfl) (hpl : (backTo pos (starEach es X.env)).any (·.1) = false := by rfl)
    (ht : eval (.Call (.Attribute o m apos) (e :: es) [] pos) X.env = (do
      let ov ← eval o X.env
      standAt apos.atName
      let (f, first) ← holding [ov] (getMethod ov m pl)
      callWith pos f first (backTo pos (starEach (e :: es) X.env)) (backToKw pos (keywordEach [] X.env))) := by rfl) :
    PE X (.Call (.Attribute o m apos) (e :: es) [] pos) (tMeth C m sp dvs E ta t) := by
  intro pins s σ H Q I h
  refine PySem.W.methodCall_KW (pl := pl) (thn (he pins s σ H _ I h) fun u s1 ⟨x, H1, I1, rx, a, dx, fs, ex, ea, l, q⟩ => ?_) ht
  subst ex
  obtain rfl : u = Value.ref a := rx
  refine getmeth_ok I1 ea c hm l ?_
  refine PySem.W.callWith_K (first := [.ref a]) (h₀ := X.base) I.ok.mod.kin hm.kp (thn (ha pos pins s1 σ H1 _ I1 q) fun us s2 ⟨vs, H2, I2, r, q2⟩ => ⟨I2.kIn, ?_⟩) hst hpl
  exact run_fn (us := .ref a :: us) (vs := .ref a :: vs) F hr hb hd hx I2 (.cons rfl r) q2
theorem pe_meth0 {pl : Sem Bool} (he : PE X o ta) (c : Cls X.K C) (hm : Meth X.K C m f) (F : FnOk X.prog X.w X.K X.mg X.base CX k f fd ps sp) (hr : Room k X.A) (hb : Binds X.K fd ps ds) (hd : Vals dvs ds) (hx : Passes CX X E)
    (ht : eval (.Call (.Attribute o m apos) [] [] pos) X.env = (do
      let ov ← eval o X.env
      standAt apos.atName
      let (f, first) ← holding [ov] (getMethod ov m pl)
      callWith pos f first (backTo pos (starEach [] X.env)) (backToKw pos (keywordEach [] X.env))) := by rfl) :
    PE X (.Call (.Attribute o m apos) [] [] pos) (tMeth C m sp dvs E ta tNil) := by
  intro pins s σ H Q I h
  refine PySem.W.methodCall_KW (pl := pl) (thn (he pins s σ H _ I h) fun u s1 ⟨x, H1, I1, rx, a, dx, fs, ex, ea, l, q⟩ => ?_) ht
  subst ex
  obtain rfl : u = Value.ref a := rx
  refine getmeth_ok I1 ea c hm l ?_
  exact PySem.W.callWith_K0 (first := [.ref a]) I1.kIn hm.kp (run_fn (us := [.ref a]) (vs := [.ref a]) F hr hb hd hx I1 (.cons rfl .nil) q)

structure Mk (K : PySem.W.Frag) (C f : Addr) : Prop where
  makes : PySem.W.makesIn K C = true
  init : PySem.W.findIn K (.ref C) "__init__" = some (some (.ref f))
  fn : PySem.W.isFn K (.ref f) = true
  kp : PySem.W.keepIn K (.ref C) = true

theorem run_make {pins : List (Addr × Obj)} {σ : St} {H : Hp} {s : Shared} {Q : VK} {us : List Value} {vs : List V} (M : Mk X.K C f) (F : FnOk X.prog X.w X.K X.mg X.base CX k f fd ps sp) (hr : Room (k + 1) X.A) (hb : Binds X.K fd ps ds) (hd : Vals dvs ds)
    (hx : Passes CX X E) (I : Inv X pins σ H s) (r : Vals vs us)
    (h : ∀ x dx, H x = none → H dx = none → dx ≠ x → sp (.ref x :: (vs ++ dvs)) (upd (upd H dx (.own x)) x (.ins C dx [])) (fun v H2 => v = .non ∧ Q (.ref x) H2) E) :
    wpAny (model X.prog X.w) X.A (call (.ref C) us) (EP X pins σ Q) X.xe s := by
  have hq := h (s.heap.objs.size + 1) s.heap.objs.size (I.hok.fresh (Nat.le_succ _)) (I.hok.fresh (Nat.le_refl _)) (Nat.ne_of_lt (Nat.lt_succ_self _))
  have I2 := Inv.made (C := C) I
  have r2 : Vals (V.ref (s.heap.objs.size + 1) :: (vs ++ dvs)) (Value.ref (s.heap.objs.size + 1) :: (us ++ ds)) := .cons rfl (r.append hd)
  have hl : (Value.ref (s.heap.objs.size + 1) :: us ++ ds).length = ps.length := by
    have e := r2.length
    rw [F.len _ _ _ _ hq] at e
    exact e.symm
  refine wpAny_call (make_map (f := f) I.kIn M.makes M.init (beq_iff_eq.mp M.fn) (codeAny_mono (F.run _ X.stack _ _ ⟨Value.ref (s.heap.objs.size + 1) :: us, []⟩ (Value.ref (s.heap.objs.size + 1) :: (us ++ ds)) _ _ E (hr.make C us [])
    (I2.env0.make C us []) (hb _ (Value.ref (s.heap.objs.size + 1) :: us) I2.kIn hl) r2 hq) fun r s' hq' => ?_))
  cases r with
  | error e => exact hx pins σ _ _ e s' I2 hq'
  | ok fl =>
    cases fl with
    | ret u =>
      obtain ⟨v, H', I3, rv, ev, q3⟩ := I2.after hq'
      subst ev
      exact ⟨rv, ⟨V.ref (s.heap.objs.size + 1), H', I3, rfl, q3⟩⟩
    | next => exact False.elim hq'
    | brk => exact False.elim hq'
    | cont => exact False.elim hq'
theorem pe_make (M : Mk X.K C f) (F : FnOk X.prog X.w X.K X.mg X.base CX k f fd ps sp) (hr : Room (k + 1) X.A) (hg : Gl X x) (hm : X.mg x = some (.ref C)) (hb : Binds X.K fd ps ds) (hd : Vals dvs ds) (hx : Passes CX X E)
    (ha : PA X (e :: es) t) (hdb : (x == ("__debug__" : Str)) = false := by decide) (he : starEach (e :: es) X.env = (false, eval e X.env) :: starEach es X.env := by rfl) (hpl : (backTo pos (starEach es X.env)).any (·.1) = false := by rfl) :
    PE X (.Call (.Name x p) (e :: es) [] pos) (tMake C sp dvs E t) := by
  intro pins s σ H Q I h
  refine wpAny_Call_Name_kw (ld_glob I hg hm ?_ hdb)
  refine PySem.W.callWith_K (h₀ := X.base) I.ok.mod.kin M.kp (thn (ha pos pins s σ H _ I h) fun us s1 ⟨vs, H1, I1, r, q⟩ => ⟨I1.kIn, ?_⟩) he hpl
  exact run_make M F hr hb hd hx I1 r q
end

section
variable {X : Cx} {CX : CXT} {k : Nat} {f C : Addr} {fd : FuncData} {ps ks : List Str} {sp : Sp} {E : XK} {x m : Str} {p pos apos kpos : Pos} {e o : Expr} {es : List Expr} {kws : List Keyword} {te ta : TE} {t tk : TA} {nm : Option Str}
variable {g : List Value → List Value → List Value} {gV : List V → List V → List V}
end

structure FnScope (N P : List Str) (sc : Scope) : Prop where
  kind : sc.kind = .function
  co : sc.isCoroutine = false
  gen : sc.isGenerator = false
  nd : N.Nodup
  pre : N.take P.length = P
  par : ∀ x ∈ P, sc.names.lookup x = some .local ∨ sc.names.lookup x = some .cell
  nofree : ∀ y ∈ sc.names, y.2 ≠ .free

theorem bindL_out {kindOf : Str → Option NameKind} {x : Str} : ∀ {binds : List (Str × Value)} {m : Str → Option Value}, (∀ v, (x, v) ∉ binds) → bindL kindOf binds m x = m x
  | [], _, _ => rfl
  | (n, v) :: r, m, h => by
    unfold bindL
    rw [bindL_out fun w hw => h w (List.mem_cons_of_mem _ hw)]
    split
    · have : x ≠ n := by rintro rfl; exact h v List.mem_cons_self
      simp [this]
    · rfl
theorem bindC_out {kindOf : Str → Option NameKind} {x : Str} : ∀ {binds : List (Str × Value)} {m : Str → Option Value}, (∀ v, (x, v) ∉ binds) → bindC kindOf binds m x = m x
  | [], _, _ => rfl
  | (n, v) :: r, m, h => by
    unfold bindC
    rw [bindC_out fun w hw => h w (List.mem_cons_of_mem _ hw)]
    split
    · rfl
    · have : x ≠ n := by rintro rfl; exact h v List.mem_cons_self
      simp [this]
theorem bindL_get {kindOf : Str → Option NameKind} {x : Str} {v : Value} : ∀ {P : List Str} {vs : List Value} {i : Nat} {m : Str → Option Value}, P.Nodup → P[i]? = some x → vs[i]? = some v → kindOf x = some .local →
    bindL kindOf (P.zip vs) m x = some v
  | [], _, _, _, _, h, _, _ => by simp at h
  | _ :: _, [], _, _, _, _, h, _ => by simp at h
  | p :: P, w :: vs, 0, m, nd, h1, h2, hk => by
    simp at h1 h2; subst h1; subst h2
    show bindL kindOf ((p, w) :: P.zip vs) m p = _
    unfold bindL
    rw [bindL_out fun v hv => (List.nodup_cons.mp nd).1 (List.of_mem_zip hv).1, if_pos hk]
    simp
  | p :: P, w :: vs, i + 1, m, nd, h1, h2, hk => by
    show bindL kindOf ((p, w) :: P.zip vs) m x = _
    unfold bindL
    exact bindL_get (i := i) (List.nodup_cons.mp nd).2 (by simpa using h1) (by simpa using h2) hk
theorem bindC_get {kindOf : Str → Option NameKind} {x : Str} {v : Value} : ∀ {P : List Str} {vs : List Value} {i : Nat} {m : Str → Option Value}, P.Nodup → P[i]? = some x → vs[i]? = some v → kindOf x ≠ some .local →
    bindC kindOf (P.zip vs) m x = some v
  | [], _, _, _, _, h, _, _ => by simp at h
  | _ :: _, [], _, _, _, _, h, _ => by simp at h
  | p :: P, w :: vs, 0, m, nd, h1, h2, hk => by
    simp at h1 h2; subst h1; subst h2
    show bindC kindOf ((p, w) :: P.zip vs) m p = _
    unfold bindC
    rw [bindC_out fun v hv => (List.nodup_cons.mp nd).1 (List.of_mem_zip hv).1, if_neg hk]
    simp
  | p :: P, w :: vs, i + 1, m, nd, h1, h2, hk => by
    show bindC kindOf ((p, w) :: P.zip vs) m x = _
    unfold bindC
    exact bindC_get (i := i) (List.nodup_cons.mp nd).2 (by simpa using h1) (by simpa using h2) hk

def start (N : List Str) (vs : List V) : St := vs.map some ++ List.replicate (N.length - vs.length) none

def cxOf (CX : CXT) (P : Program) (w : World) (K : PySem.W.Frag) (mg : Str → Option Value) (base : Heap) (N : List Str) (qual : Str) (scope : Scope) (f : Addr) (cd : Value) (A : Around) (outer : List Env) (s : Shared) (H : Hp) (E : XK) : Cx where
  prog := P
  w := w
  K := K
  mg := mg
  base := base
  A := A.deeper (envOfC qual scope s.heap.objs.size f cd)
  N := N
  s₀ := s
  H₀ := H
  env := envOfC qual scope s.heap.objs.size f cd
  outer := outer
  stack := envOfC qual scope s.heap.objs.size f cd :: outer
  ex := []
  calm := true
  fn := fun _ => true
  pn := []
  xe := fun e s' => wpAny (model P w) (A.deeper (envOfC qual scope s.heap.objs.size f cd)) (leaving (envOfC qual scope s.heap.objs.size f cd) e) (fun _ s'' => CX outer H s E e s'') (fun e' s'' => CX outer H s E e' s'') s'

theorem cell_has {sc : Scope} {n : Nat} {x : Str} (h : sc.names.lookup x = some .cell) : ∃ c, (cellsFrom n sc.names []).lookup x = some c := by
  have q := PySem.W.cellsFrom_some sc.names n [] (.inl h)
  exact Option.isSome_iff_exists.mp q

theorem inv_start {CX : CXT} {P : Program} {w : World} {K : PySem.W.Frag} {mg : Str → Option Value} {base : Heap} {N ps : List Str} {qual : Str} {scope : Scope} {f : Addr} {cd : Value} {A : Around} {outer : List Env} {s s1 : Shared} {H : Hp} {E : XK} {us : List Value} {vs : List V}
    (S : FnScope N ps scope) (hd : A.handled = none) (e0 : Env0 P w K mg base A outer s H) (hl : vs.length = ps.length) (r : Vals vs us)
    (x : InCallC s s.heap.objs.size (bindL (envOfC qual scope s.heap.objs.size f cd).kindOf (ps.zip us) fun _ => none) (cellsFrom (s.heap.objs.size + 1) scope.names []) (bindC (envOfC qual scope s.heap.objs.size f cd).kindOf (ps.zip us) fun _ => none) s1) :
    Inv (cxOf CX P w K mg base N qual scope f cd A outer s H E) [] (start N vs) H s1 := by
  have hpl : ps.length ≤ N.length := by have := congrArg List.length S.pre; rw [List.length_take] at this; omega
  obtain ⟨h1, tk, rfl, hk⟩ := x.done
  have noA : ∀ b : Addr, b ∉ (cxOf CX P w K mg base N qual scope f cd A outer s H E).ex := fun b z => absurd (show b ∈ ([] : List Addr) from z) (by simp)
  refine ⟨⟨e0.mod, S.kind, rfl, rfl, Nat.le_refl _, fun y z c h1 h2 => ?_, fun y hy => ?_, fun y c _ h => ?_, fun _ => hd, Around.frames_deeper e0.frames, .inr ⟨rfl, rfl⟩, fun b z => absurd z (noA b), e0.bs, e0.bsz, fun b _ _ => noA b, fun b z => absurd z (noA b), e0.funs, e0.frf⟩,
    rfl, e0.bare, Un.kept hk, ⟨_, x.toInCall.ns, fun i y v h1 h2 h3 => ?_⟩, fun y c h => ⟨_, x.cell y c h⟩, e0.hok.fresh (Nat.le_refl _), fun y c h => ?_, fun p hp => absurd (show p ∈ ([] : List (Addr × Obj)) from hp) (by simp), e0.hok.kept hk, ?_⟩
  · exact name_of_addr x.apart (PySem.mem_of_lookup h1) (PySem.mem_of_lookup h2)
  · have hy : scope.names.lookup y = some .cell ∨ scope.names.lookup y = some .free := hy
    rcases hy with hy | hy
    · exact cell_has hy
    · exact absurd rfl (S.nofree _ (PySem.mem_of_lookup hy))
  · exact Nat.le_of_lt (x.above y c (PySem.mem_of_lookup h))
  · have hi : i < vs.length := by
      unfold start at h2
      by_cases hi : i < vs.length
      · exact hi
      · rw [List.getElem?_append_right (by simpa using hi)] at h2
        rw [List.getElem?_replicate] at h2
        split at h2 <;> cases h2
    have ha : vs[i]? = some v := by
      unfold start at h2
      rw [List.getElem?_append_left (by simpa using hi), List.getElem?_map] at h2
      cases e : vs[i]? with
      | none => rw [e] at h2; cases h2
      | some a => rw [e] at h2; cases h2; rfl
    obtain ⟨u, hu, rv⟩ := r.get ha
    have hp : ps[i]? = some y := by
      rw [← S.pre, List.getElem?_take_of_lt (by omega)]; exact h1
    have ndP : ps.Nodup := by rw [← S.pre]; exact S.nd.sublist (List.take_sublist _ _)
    refine ⟨u, rv, ?_⟩
    rcases S.par y (List.mem_of_getElem? hp) with k | k
    · exact .inl ⟨k, bindL_get ndP hp hu k⟩
    · obtain ⟨c, e⟩ := cell_has (n := s.heap.objs.size + 1) k
      refine .inr ⟨.inl k, c, e, ?_⟩
      have q := x.cell y c e
      rw [bindC_get ndP hp hu (by show scope.names.lookup y ≠ _; rw [k]; decide)] at q
      exact q
  · exact e0.hok.fresh (Nat.le_of_lt (x.above y c (PySem.mem_of_lookup h)))
  · unfold start
    show _ = N.length
    rw [List.length_append, List.length_map, List.length_replicate]
    omega

theorem fn_of {CX : CXT} {P : Program} {w : World} {K : PySem.W.Frag} {mg : Str → Option Value} {base : Heap} {k : Nat} {f : Addr} {name qual : Str} {params : Arguments} {body : List Stmt} {scope : Scope} {dV kV doc pm cdv ct oc : Value} {an od : Option Addr}
    {osl : Array (Option Value)} {N ps : List Str} {sp : Sp} (lk : K.lookup f = some ⟨oc, od, .func (PySem.W.fnOf name qual params body scope dV kV doc pm an cdv ct), osl⟩) (hcd : PySem.W.codeIn K cdv qual = true) (S : FnScope N ps scope)
    (len : ∀ vs H Q E, sp vs H Q E → vs.length = ps.length)
    (hbody : ∀ (A : Around) (outer : List Env) (s : Shared) (H : Hp) (vs : List V) (Q : VK) (E : XK), Room k (A.deeper (envOfC qual scope s.heap.objs.size f cdv)) → sp vs H Q E →
      ∃ t, PSs (cxOf CX P w K mg base N qual scope f cdv A outer s H E) body t ∧ t { nx := fun _ H' => Q .non H', rt := Q } (start N vs) H) :
    FnOk P w K mg base CX (k + 1) f (PySem.W.fnOf name qual params body scope dV kV doc pm an cdv ct) ps sp := by
  refine ⟨len, fun A outer s H args us vs Q E hr e0 hb r hsp => ?_⟩
  have hl := len _ _ _ _ hsp
  have KX : K.In s.heap := e0.mod.kin.keeps fun b o e => (e0.bs b o e).1
  have lim : s.heap.NoLimit := e0.mod.nolimit.keeps fun b o e => (e0.bs b o e).1
  have hkind : ∀ y ∈ ps.zip us, scope.names.lookup y.1 = some .local ∨ (scope.names.lookup y.1 = some .cell ∧ ((cellsFrom (s.heap.objs.size + 1) scope.names []).lookup y.1).isSome = true) := fun ⟨n, v⟩ hy => by
    rcases S.par n (List.of_mem_zip hy).1 with q | q
    · exact .inl q
    · exact .inr ⟨q, PySem.W.cellsFrom_some _ _ _ (.inl q)⟩
  refine codeAny_call_function hr.depth (KX _ _ lk) rfl S.co S.gen rfl (PySem.W.codeRec_of KX hcd) (hb _ _ _ _ ?_)
  refine wpAny_newFunctionEnv_cells S.kind hkind fun env he s1 x => ?_
  subst he
  refine ⟨lim.keeps x.toInCall.keep, codeAny_func ?_⟩
  obtain ⟨t, ht, hq⟩ := hbody A outer s H vs Q E (hr.deeper _) hsp
  have I : Inv (cxOf CX P w K mg base N qual scope f cdv A outer s H E) [] (start N vs) H s1 := inv_start S hr.hd e0 hl r x
  refine wpAny_mono (ht [] s1 (start N vs) H _ I hq) (fun fl s' hs => ?_) fun e s' hs => hs
  have fin : ∀ {σ' : St} {H' : Hp} {v : V} {u : Value}, Inv (cxOf CX P w K mg base N qual scope f cdv A outer s H E) [] σ' H' s' → RelV v u → Q v H' → CE outer P w H s Q u s' :=
    fun {σ' H' v u} J rv q => ⟨v, H', J.os, J.bare, J.base, J.hok, rv, q⟩
  cases fl with
  | ret u =>
    obtain ⟨v, σ', H', J, rv, q⟩ := hs
    exact fin J rv q
  | next =>
    obtain ⟨σ', H', J, q⟩ := hs
    exact fin (v := V.non) (u := Value.none) J rfl q
  | brk =>
    obtain ⟨_, _, _, q⟩ := hs
    exact False.elim q
  | cont =>
    obtain ⟨_, _, _, q⟩ := hs
    exact False.elim q
end L2

namespace L2
open PySem PySem.Spec PyProof.Rows
section
variable {X : Cx} {x : Str} {p pos : Pos} {e : Expr} {es : List Expr} {t : TA} {id T : String} {r : List V → Hp → VK → Prop}

def tCB (r : List V → Hp → VK → Prop) (t : TA) : TE := fun σ H Q => t σ H fun vs H1 => r vs H1 Q
theorem pe_callB (hc : CallR X (.builtin id) r) (hg : Gl X x) (hm : X.mg x = none) (hv : bootBuiltins x = some (.builtin id)) (ha : PA X (e :: es) t) (hn : x ≠ "__name__" := by decide) (hdb : (x == ("__debug__" : Str)) = false := by decide)
    (he : starEach (e :: es) X.env = (false, eval e X.env) :: starEach es X.env := by rfl) (hpl : (backTo pos (starEach es X.env)).any (·.1) = false := by rfl) : PE X (.Call (.Name x p) (e :: es) [] pos) (tCB r t) := by
  intro pins s σ H Q I h
  refine wpAny_Call_Name_kw (ld_blt I hg hm hv ?_ hn hdb)
  exact PyProof.Rows.callWith_builtin1 (thn (ha pos pins s σ H _ I h) fun us s1 ⟨vs, H1, I1, r1, q1⟩ => hc pins s1 σ H1 vs us Q I1 r1 q1) he hpl
theorem pe_callTy (hc : CallR X (.type T) r) (hg : Gl X x) (hm : X.mg x = none) (hv : bootBuiltins x = some (.type T)) (ha : PA X (e :: es) t) (hn : x ≠ "__name__" := by decide) (hdb : (x == ("__debug__" : Str)) = false := by decide)
    (he : starEach (e :: es) X.env = (false, eval e X.env) :: starEach es X.env := by rfl) (hpl : (backTo pos (starEach es X.env)).any (·.1) = false := by rfl) : PE X (.Call (.Name x p) (e :: es) [] pos) (tCB r t) := by
  intro pins s σ H Q I h
  refine wpAny_Call_Name_kw (ld_blt I hg hm hv ?_ hn hdb)
  exact PyProof.Rows.callWith_type1 (thn (ha pos pins s σ H _ I h) fun us s1 ⟨vs, H1, I1, r1, q1⟩ => hc pins s1 σ H1 vs us Q I1 r1 q1) he hpl
end
end L2

namespace HT
open PySem PyProof.Rows

section
open PySem.SeqAt
open PySem.AutoSeq1 (wpAny_loadPart')
open PySem.MeetsSeq PySem.MeetsSeq2 PySem.MeetsSeq3

end

section
variable {prog : Program} {w : World} {A : Around} {E : Value → Shared → Prop} {s : Shared}

def sIx (n d : Nat) : Option Int → Nat
  | none => d
  | some v => if v < 0 then (v + (n : Int)).toNat else min v.toNat n
theorem sIx_le (n d : Nat) (hd : d ≤ n) (o : Option Int) : sIx n d o ≤ n := by
  cases o with
  | none => exact hd
  | some v =>
    show (if v < 0 then (v + (n : Int)).toNat else min v.toNat n) ≤ n
    by_cases hv : v < 0
    · rw [if_pos hv]; omega
    · rw [if_neg hv]; exact Nat.min_le_right _ _
theorem clip_eq (v : Int) (n d : Nat) : (if v < 0 then max (v + (n : Int)) 0 else min v (n : Int)) = ((sIx n d (some v) : Nat) : Int) := by
  show (if v < 0 then max (v + (n : Int)) 0 else min v (n : Int)) = (((if v < 0 then (v + (n : Int)).toNat else min v.toNat n) : Nat) : Int)
  by_cases hv : v < 0
  · simp only [if_pos hv]; omega
  · simp only [if_neg hv]; omega
theorem adjust_gen (lo hi : Option Int) (n : Nat) : Builtin.Slice.sliceAdjust lo hi 1 (n : Int) = (((sIx n 0 lo : Nat) : Int), ((sIx n n hi : Nat) : Int)) := by
  have h1 : ¬ ((1 : Int) < 0) := by omega
  unfold Builtin.Slice.sliceAdjust
  simp only [h1, if_false]
  refine Prod.ext ?_ ?_
  · cases lo with
    | none => rfl
    | some v => exact clip_eq v n 0
  · cases hi with
    | none => rfl
    | some v => exact clip_eq v n n
theorem places_gen (i j : Nat) : Builtin.Slice.slicePlaces (i : Int) (j : Int) 1 = j - i := by
  unfold Builtin.Slice.slicePlaces
  have h1 : (1 : Int) > 0 := by omega
  simp only [h1, if_true, Int.ediv_one]
  split <;> omega
theorem slicePart_ {v : Value} {o : Option Int} {Q : Option Int → Shared → Prop} (p : IsPart v o) (h : Q o s) : wpAny (model prog w) A (Builtin.Slice.slicePartIndex v) Q E s := by
  cases p with
  | none => exact slicePart_none h
  | int i t => exact slicePart_int h
theorem sliceApplied_gen {sl : Addr} {vl vu : Value} {lo hi : Option Int} {n : Nat} {Q : Int × Int × Nat → Shared → Prop} (hs : s.heap.IsSliceOf sl vl vu .none) (pl : IsPart vl lo) (pu : IsPart vu hi)
    (h : Q (((sIx n 0 lo : Nat) : Int), 1, sIx n n hi - sIx n 0 lo) s) : wpAny (model prog w) A (Builtin.Slice.sliceApplied (.ref sl) (pure (n : Int))) Q E s := by
  obtain ⟨os, hos, hcs, hds⟩ := id hs
  unfold Builtin.Slice.sliceApplied Builtin.Slice.sliceFields
  refine wpAny_bind (wpAny_bind (wpAny_field hos hds (x := vl) rfl (wpAny_bind (wpAny_field hos hds (x := vu) rfl (wpAny_bind (wpAny_field hos hds (x := .none) rfl (wpAny_pure ?_)))))))
  refine wpAny_bind (slicePart_none ?_)
  show wpAny _ _ (if ((1 : Int) == 0) = true then _ else _) _ _ s
  rw [if_neg (by decide)]
  refine wpAny_bind (slicePart_ pl (wpAny_bind (slicePart_ pu (wpAny_bind (wpAny_pure ?_)))))
  show wpAny _ _ (match Builtin.Slice.sliceAdjust lo hi 1 (n : Int) with | (lo, hi) => pure (lo, (1 : Int), Builtin.Slice.slicePlaces lo hi 1)) _ _ s
  rw [adjust_gen lo hi n]
  show wpAny _ _ (pure (((sIx n 0 lo : Nat) : Int), (1 : Int), Builtin.Slice.slicePlaces ((sIx n 0 lo : Nat) : Int) ((sIx n n hi : Nat) : Int) 1)) _ _ s
  rw [places_gen]
  exact wpAny_pure h
theorem pick_gen (xs : Array Value) (i k : Nat) : ((List.range k).filterMap fun (m : Nat) => xs[((i : Int) + (m : Int) * 1).toNat]?).toArray = ((xs.toList.drop i).take k).toArray := by
  have e : (fun (m : Nat) => xs[((i : Int) + (m : Int) * 1).toNat]?) = fun m => xs[i + m]? := by
    funext m
    have : ((i : Int) + (m : Int) * 1).toNat = i + m := by omega
    rw [this]
  rw [e]
  have := pick_run xs i k
  rw [List.filterMap_map] at this
  have e2 : ((fun x => xs[x]?) ∘ fun x => i + x) = fun m => xs[i + m]? := rfl
  rw [e2] at this
  rw [this]

theorem getItem_tuple_cut {t sl : Addr} {items : Array Value} {vl vu : Value} {lo hi : Option Int} {Q : Value → Shared → Prop} (ht : IsTup s.heap t items) (hs : s.heap.IsSliceOf sl vl vu .none) (pl : IsPart vl lo) (pu : IsPart vu hi)
    (hw : ¬ (sIx items.size 0 lo = 0 ∧ sIx items.size items.size hi = items.size))
    (h : Q (.ref s.heap.objs.size) { s with heap := s.heap.push { cls := .type "tuple", data := .seq ((items.toList.drop (sIx items.size 0 lo)).take (sIx items.size items.size hi - sIx items.size 0 lo)).toArray } })
    (hsz : items.size ≤ sizeLine) : wpAny (model prog w) A (getItem (.ref t) (.ref sl)) Q E s := by
  have htake : sizeOk (.seq ((items.toList.drop (sIx items.size 0 lo)).take (sIx items.size items.size hi - sIx items.size 0 lo)).toArray) := by
    show ((items.toList.drop (sIx items.size 0 lo)).take (sIx items.size items.size hi - sIx items.size 0 lo)).toArray.size ≤ sizeLine
    rw [List.size_toArray, List.length_take, List.length_drop, Array.length_toList]
    omega
  have hj : sIx items.size items.size hi ≤ items.size := sIx_le _ _ (Nat.le_refl _) hi
  obtain ⟨os, hos, hcs, hds⟩ := id hs
  have hTs : s.TypeIs (.ref sl) "slice" := ⟨os, hos, hcs⟩
  unfold getItem
  try with_reducible refine wpAny_holding ?_
  first | refine wpAny_bind (wpAny_pure ?_) | skip
  refine wpAny_bind (wpAny_sequenceKey ht.typeIs (by decide) ?_)
  refine wpAny_bind (wpAny_callSpecial?_slot (name := Str.ofString "__getitem__") ht.typeIs PyProof.Rows.slot_tuple_getitem
    (wpAny_call_entry PyProof.Rows.slot_tuple_getitem ht.typeIs entry_tuple_getitem ?_ (args_tuple_getitem _ _)))
  show wpAny _ _ (Builtin.Tuple.tupleItemsOf (.ref t) >>= _) _ _ s
  refine wpAny_bind (tupleItemsOf_ ht ?_)
  refine wpAny_bind (wpAny_typeOf hTs ?_)
  rw [if_pos (by decide)]
  refine wpAny_bind (sliceApplied_gen hs pl pu ?_)
  have hno : ¬ ((((sIx items.size 0 lo : Nat) : Int) == 0 && (1 : Int) == 1 && (sIx items.size items.size hi - sIx items.size 0 lo) == items.size) = true) := by
    intro q
    rw [Bool.and_eq_true, Bool.and_eq_true] at q
    have q1 : ((sIx items.size 0 lo : Nat) : Int) = 0 := eq_of_beq q.1.1
    have q2 : sIx items.size items.size hi - sIx items.size 0 lo = items.size := eq_of_beq q.2
    exact hw ⟨by omega, by omega⟩
  show wpAny _ _ (if (((sIx items.size 0 lo : Nat) : Int) == 0 && (1 : Int) == 1 && (sIx items.size items.size hi - sIx items.size 0 lo) == items.size) = true then _ else _) _ _ s
  rw [if_neg hno, pick_gen]
  first
    | exact wpAny_bind (m := Builtin.Tuple.tupleExact _) (wpAny_newObj_type (wpAny_pure ⟨_, rfl, wpAny_pure h⟩) htake)
    | exact wpAny_bind (m := Builtin.Tuple.tupleExact _) (wpAny_newObj_type (wpAny_bind (wpAny_pure (wpAny_pure ⟨_, rfl, wpAny_pure h⟩))) htake)
    | exact wpAny_bind (wpAny_bind (m := Builtin.Tuple.tupleExact _) (wpAny_newObj_type (wpAny_pure (wpAny_pure ⟨_, rfl, wpAny_pure h⟩)) htake))
    | exact wpAny_bind (wpAny_bind (m := Builtin.Tuple.tupleExact _) (wpAny_newObj_type (wpAny_pure ⟨_, rfl, wpAny_pure h⟩) htake))
end
end HT

namespace L2
open PySem PySem.Spec PyProof.Rows

abbrev TO := St → Hp → (Option Int → Hp → Prop) → Prop
def PO (X : Cx) (e : Option Expr) (t : TO) : Prop :=
  ∀ (pins : List (Addr × Obj)) (s : Shared) (σ : St) (H : Hp) (Q : Option Int → Hp → Prop), Inv X pins σ H s → t σ H Q →
    wpAny (model X.prog X.w) X.A (evalPart e X.env) (fun u s' => ∃ o H', Inv X pins σ H' s' ∧ IsPart u o ∧ Q o H') X.xe s
def tPart (t : TE) : TO := fun σ H Q => t σ H fun x H1 => ∃ i, x = .int i ∧ Q (some i) H1

section
variable {X : Cx} {e : Expr} {te : TE} {lo hi : Option Expr} {tl th : TO} {pos p2 : Pos}

theorem po_some (h : PE X e te) : PO X (some e) (tPart te) := by
  intro pins s σ H Q I hw
  rw [evalPart_some]
  refine thn (h pins s σ H _ I hw) fun u s1 ⟨x, H1, I1, r1, q1⟩ => ?_
  obtain ⟨i, rfl, q⟩ := q1
  obtain ⟨t, rfl⟩ := r1
  exact ⟨some i, H1, I1, .int i t, q⟩

def SlR (X : Cx) (r : V → Option Int → Option Int → Hp → VK → Prop) : Prop :=
  ∀ (pins : List (Addr × Obj)) (s : Shared) (σ : St) (H : Hp) (x : V) (v vl vu : Value) (lo hi : Option Int) (sl : Addr) (Q : VK), Inv X pins σ H s → RelV x v → s.heap.IsSliceOf sl vl vu .none → IsPart vl lo → IsPart vu hi → r x lo hi H Q →
    ∃ T id, typeLookup (.type T) "__getitem__" = pure (some (.builtin id)) ∧ s.TypeIs v T ∧ wpAny (model X.prog X.w) X.A (getItem v (.ref sl)) (EP X pins σ Q) X.xe s
def tSl (r : V → Option Int → Option Int → Hp → VK → Prop) (te : TE) (tl th : TO) : TE := fun σ H Q => te σ H fun x H1 => tl σ H1 fun l H2 => th σ H2 fun u H3 => r x l u H3 Q
theorem pe_slice {r : V → Option Int → Option Int → Hp → VK → Prop} (hr : SlR X r) (he : PE X e te) (hl : PO X lo tl) (hu : PO X hi th) : PE X (.Subscript e (.Slice lo hi none p2) pos) (tSl r te tl th) := by
  intro pins s σ H Q I h
  refine Subscript_ (thn (he pins s σ H _ I h) fun v s1 ⟨x, H1, I1, r1, q1⟩ => ?_)
  refine wpAny_Slice (thn (hl pins s1 σ H1 _ I1 q1) fun vl s2 ⟨l, H2, I2, pl, q2⟩ => thn (hu pins s2 σ H2 _ I2 q2) fun vu s3 ⟨u, H3, I3, pu, q3⟩ => ?_)
  rw [evalPart_none]
  refine wpAny_pure ?_
  have I4 : Inv X pins σ H3 { s3 with heap := s3.heap.push { cls := .type "slice", data := .fields #[vl, vu, .none] } } := I3.kept (t' := s3.toks) fun b ob q => Heap.get?_push_of_some _ q
  obtain ⟨T, id, hT, ht, hg⟩ := hr pins { s3 with heap := s3.heap.push { cls := .type "slice", data := .fields #[vl, vu, .none] } } σ H3 x v vl vu l u s3.heap.objs.size Q I4 r1 (Heap.IsSliceOf.new ..) pl pu q3
  show wpAny (model X.prog X.w) X.A (subscriptTail e (.Slice lo hi none p2) v (.ref s3.heap.objs.size)) (EP X pins σ Q) X.xe { s3 with heap := s3.heap.push { cls := .type "slice", data := .fields #[vl, vu, .none] } }
  exact tail_any (ops := [.ref s3.heap.objs.size, v]) ht hT hg (by with_unfolding_all rfl)

def cutV (xs : List V) (lo hi : Option Int) : List V := (xs.drop (HT.sIx xs.length 0 lo)).take (HT.sIx xs.length xs.length hi - HT.sIx xs.length 0 lo)
theorem cutV_length (xs : List V) (lo hi : Option Int) : (cutV xs lo hi).length ≤ xs.length := by
  unfold cutV
  exact Nat.le_trans (List.length_take_le' _ _) (by rw [List.length_drop]; exact Nat.sub_le _ _)
def rSlT (K : PySem.W.Frag) : V → Option Int → Option Int → Hp → VK → Prop := fun x lo hi H Q => ∃ a xs, x = .ref a ∧ SqT K H a xs ∧
  ¬ (HT.sIx xs.length 0 lo = 0 ∧ HT.sIx xs.length xs.length hi = xs.length) ∧ ∀ p, H p = none → Q (.ref p) (upd H p (.tup (cutV xs lo hi)))
theorem sl_tup : SlR X (rSlT X.K) := by
  intro pins s σ H x v vl vu lo hi sl Q I rx hs pl pu h
  obtain ⟨a, xs, rfl, hx, hw, q⟩ := h
  cases rx
  obtain ⟨its, r, ht, hz⟩ := I.tuple hx
  have hlen : its.toArray.size = xs.length := by rw [List.size_toArray]; exact r.length.symm
  refine ⟨"tuple", _, PyProof.Rows.slot_tuple_getitem.lookup, ht.typeIs, ?_⟩
  refine HT.getItem_tuple_cut ht hs pl pu (by rw [hlen]; exact hw) ?_ (by rw [hlen]; exact hz)
  rw [hlen]
  refine ⟨.ref s.heap.objs.size, _, I.laid (t' := s.toks) (o := .tup (cutV xs lo hi)) (fun b ob q => Heap.get?_push_of_some _ q) (Nat.le_refl _) ?_, rfl, q _ (I.hok.fresh (Nat.le_refl _))⟩
  exact ⟨Nat.le_trans (cutV_length xs lo hi) hz, _, (r.drop (HT.sIx xs.length 0 lo)).take (HT.sIx xs.length xs.length hi - HT.sIx xs.length 0 lo), IsTup.new _ _⟩

end
end L2

namespace L2
open PySem PySem.Spec PyProof.Rows

def ixN (n : Nat) (i : Int) : Option Nat := if 0 ≤ i then (if i < n then some i.toNat else none) else if -(n : Int) ≤ i then some (i + n).toNat else none
def atI {α : Type} (xs : List α) (i : Int) : Option α := (ixN xs.length i).bind fun j => xs[j]?
theorem ixN_seq {n : Nat} {i : Int} {j : Nat} (h : ixN n i = some j) : seqIndex? i n = some j ∧ j < n ∧ -(n : Int) ≤ i ∧ i < n := by
  unfold ixN at h
  by_cases h0 : 0 ≤ i
  · rw [if_pos h0] at h
    by_cases h1 : i < n
    · rw [if_pos h1] at h
      have e : i.toNat = j := Option.some.inj h
      exact ⟨by rw [seqIndex_of h0 h1, e], by omega, by omega, h1⟩
    · rw [if_neg h1] at h; cases h
  · rw [if_neg h0] at h
    by_cases h1 : -(n : Int) ≤ i
    · rw [if_pos h1] at h
      have e : (i + n).toNat = j := Option.some.inj h
      exact ⟨by rw [seqIndex_neg (by omega) h1, e], by omega, h1, by omega⟩
    · rw [if_neg h1] at h; cases h
theorem atI_get {α : Type} {xs : List α} {i : Int} {v : α} (h : atI xs i = some v) : ∃ j, seqIndex? i xs.length = some j ∧ xs[j]? = some v ∧ j < xs.length ∧ -(xs.length : Int) ≤ i ∧ i < xs.length := by
  unfold atI at h
  cases e : ixN xs.length i with
  | none => rw [e] at h; cases h
  | some j =>
    rw [e] at h
    obtain ⟨h1, h2, h3, h4⟩ := ixN_seq e
    exact ⟨j, h1, h, h2, h3, h4⟩
theorem atI_nat {α : Type} {xs : List α} {j : Nat} {v : α} (h : xs[j]? = some v) : atI xs (j : Int) = some v := by
  have hj : j < xs.length := (List.getElem?_eq_some_iff.mp h).1
  have e : ixN xs.length (j : Int) = some j := by
    unfold ixN
    rw [if_pos (by omega), if_pos (by omega)]; simp
  unfold atI; rw [e]; exact h
theorem atI_last {α : Type} (xs : List α) (v : α) : atI (xs ++ [v]) (-1) = some v := by
  have hl : (xs ++ [v]).length = xs.length + 1 := by simp
  have e : ixN (xs ++ [v]).length (-1) = some xs.length := by
    unfold ixN
    rw [hl, if_neg (by decide), if_pos (by omega)]
    congr 1
    omega
  unfold atI
  rw [e]
  show (xs ++ [v])[xs.length]? = some v
  simp

def PlainIx (b : Expr) : Prop := ∀ o i, subscripted b false o i = operate [o, i] (getItem o i)
def IxR (X : Cx) (r : R2) : Prop :=
  ∀ (value slice : Expr) (pins : List (Addr × Obj)) (s : Shared) (σ : St) (H : Hp) (x y : V) (v u : Value) (Q : VK), Inv X pins σ H s → RelV x v → RelV y u → r x y H Q →
    subscripted slice false v u = operate [v, u] (getItem v u) → wpAny (model X.prog X.w) X.A (subscriptTail value slice v u) (EP X pins σ Q) X.xe s
def MtR (X : Cx) (id : String) (r : V → List V → Hp → VK → Prop) : Prop :=
  ∀ (pins : List (Addr × Obj)) (s : Shared) (σ : St) (H : Hp) (x : V) (xs : List V) (v : Value) (us : List Value) (Q : VK), Inv X pins σ H s → RelV x v → Vals xs us → r x xs H Q →
    wpAny (model X.prog X.w) X.A (call (.builtin id) (v :: us)) (EP X pins σ Q) X.xe s
section
variable {X : Cx} {a b : Expr} {ta tb : TE} {pos : Pos}
theorem pe_ix {r : R2} (hr : IxR X r) (ha : PE X a ta) (hb : PE X b tb) (hs : PlainIx b) : PE X (.Subscript a b pos) (tOp r ta tb) := by
  intro pins s σ H Q I h
  exact Subscript_ (binT ha hb I h fun v u s2 x y H2 I2 rx ry q => hr a b pins s2 σ H2 x y v u Q I2 rx ry q (hs _ _))

def rIxL (K : PySem.W.Frag) : R2 := fun x y H Q => ∃ p xs i v, x = .ref p ∧ y = .int i ∧ SqL K H p xs ∧ atI xs i = some v ∧ Q v H
def rIxT (K : PySem.W.Frag) : R2 := fun x y H Q => ∃ p xs i v, x = .ref p ∧ y = .int i ∧ SqT K H p xs ∧ atI xs i = some v ∧ Q v H
theorem ix_list : IxR X (rIxL X.K) := by
  intro value slice pins s σ H x y v u Q I rx ry h hs
  obtain ⟨p, xs, i, z, rfl, rfl, hq, he, q⟩ := h
  cases rx
  obtain ⟨t, rfl⟩ := ry
  obtain ⟨its, r, pl, hz⟩ := I.list hq
  obtain ⟨j, h1, h2, h3, h4, h5⟩ := atI_get he
  obtain ⟨w, ew, rw'⟩ := r.get h2
  have hl := r.length
  have hn := line63
  have fin : EP X pins σ Q w s := ⟨z, H, I, rw', q⟩
  by_cases h0 : 0 ≤ i
  · have hj : i.toNat = j := by
      rw [seqIndex_of h0 h5] at h1
      exact Option.some.inj h1
    exact item_listR pl.isList h0 (by omega) (by rw [hj]; simpa using ew) fin hs
  · have hj : (i + (its.toArray.size : Int)).toNat = j := by
      rw [seqIndex_neg (by omega) h4] at h1
      rw [List.size_toArray, ← hl]
      exact Option.some.inj h1
    exact subscriptTail_builtinR (x := w) pl.isList.typeIs slot_list_getitem.lookup
      (wpAny_getItem_list_neg (Q := fun r s' => r = w ∧ EP X pins σ Q r s') pl.isList (by omega) (by rw [List.size_toArray] <;> omega) (by omega) (by rw [hj]; simpa using ew) ⟨rfl, fin⟩) hs
theorem ix_tup : IxR X (rIxT X.K) := by
  intro value slice pins s σ H x y v u Q I rx ry h hs
  obtain ⟨p, xs, i, z, rfl, rfl, hq, he, q⟩ := h
  cases rx
  obtain ⟨t, rfl⟩ := ry
  obtain ⟨its, r, pl, hz⟩ := I.tuple hq
  obtain ⟨j, h1, h2, h3, h4, h5⟩ := atI_get he
  obtain ⟨w, ew, rw'⟩ := r.get h2
  have hl := r.length
  have hn := line63
  have fin : EP X pins σ Q w s := ⟨z, H, I, rw', q⟩
  exact subscriptTail_builtinR (x := w) pl.typeIs slot_tuple_getitem.lookup
    (getItem_tuple (j := j) (Q := fun r s' => r = w ∧ EP X pins σ Q r s') pl (by omega) (by omega) (by rw [List.size_toArray, ← hl]; exact h1) (by simpa using ew) ⟨rfl, fin⟩) hs
theorem sbA (lo hi : Option Int) (n : Nat) : (sliceBounds lo hi none n).1 = ((HT.sIx n 0 lo : Nat) : Int) := by
  cases lo with
  | none => simp [sliceBounds, HT.sIx]
  | some i =>
    simp only [sliceBounds, HT.sIx, Option.getD_none, show (1 : Int) > 0 by decide, if_true]
    by_cases h : i < 0
    · simp only [h, if_true] <;> omega
    · simp only [h, if_false] <;> omega
theorem slice_bounds (lo hi : Option Int) (n : Nat) : (sliceBounds lo hi none n).1 = ((HT.sIx n 0 lo : Nat) : Int) ∧ (sliceBounds lo hi none n).2.1 = ((HT.sIx n n hi : Nat) : Int) ∧ (sliceBounds lo hi none n).2.2 = 1 := by
  refine ⟨sbA lo hi n, ?_, rfl⟩
  cases hi with
  | none => simp [sliceBounds, HT.sIx]
  | some i => exact sbA (some i) lo n
theorem slicePick_cut (its : List Value) (lo hi : Option Int) : slicePick its.toArray lo hi none = ((its.drop (HT.sIx its.length 0 lo)).take (HT.sIx its.length its.length hi - HT.sIx its.length 0 lo)).toArray := by
  obtain ⟨h1, h2, h3⟩ := slice_bounds lo hi its.toArray.size
  unfold slicePick
  rw [h1, h2, h3]
  simp only [sliceRange_one, pick_run, List.size_toArray] <;> rfl
def rSlL (K : PySem.W.Frag) : V → Option Int → Option Int → Hp → VK → Prop := fun x lo hi H Q => ∃ a xs, x = .ref a ∧ SqL K H a xs ∧ ∀ p, H p = none → Q (.ref p) (upd H p (.lst (cutV xs lo hi)))
theorem sl_list : SlR X (rSlL X.K) := by
  intro pins s σ H x v vl vu lo hi sl Q I rx hs pl pu h
  obtain ⟨a, xs, rfl, hx, q⟩ := h
  cases rx
  obtain ⟨its, r, ht, hz⟩ := I.list hx
  have hlen := r.length
  refine ⟨"list", _, slot_list_getitem.lookup, ht.isList.typeIs, ?_⟩
  refine wpAny_getItem_list_slice ht.isList hs pl pu .none (by simp) ?_ (by rw [List.size_toArray] <;> omega)
  rw [slicePick_cut, ← hlen]
  refine ⟨.ref s.heap.objs.size, _, I.laid (t' := s.toks) (o := .lst (cutV xs lo hi)) (fun b ob q => Heap.get?_push_of_some _ q) (Nat.le_refl _) ?_, rfl, q _ (I.hok.fresh (Nat.le_refl _))⟩
  exact ⟨Nat.le_trans (cutV_length xs lo hi) hz, _, 0, (r.drop (HT.sIx xs.length 0 lo)).take (HT.sIx xs.length xs.length hi - HT.sIx xs.length 0 lo), Heap.get?_push_size _ rfl⟩

def flatV : V → Bool
  | .non => true
  | .bl _ => true
  | .int _ => true
  | .str _ => true
  | _ => false
def eqV : V → V → Bool
  | .non, .non => true
  | .bl a, .bl b => a == b
  | .bl a, .int b => (if a then 1 else 0) == b
  | .int a, .bl b => a == (if b then 1 else 0)
  | .int a, .int b => a == b
  | .str a, .str b => a == b
  | _, _ => false
theorem eqAt_V {A : Around} {s : Shared} {y x : V} {u v : Value} (ry : RelV y u) (rx : RelV x v) (fy : flatV y = true) (fx : flatV x = true) : SeqAt.EqAt A s u v (eqV y x) := by
  cases y with
  | non =>
    cases ry
    cases x with
    | non => cases rx; exact SeqAt.EqAt.same _
    | bl b => cases rx; exact SeqAt.EqAt.none_bool b
    | int b => obtain ⟨t, rfl⟩ := rx; exact SeqAt.EqAt.none_int b t
    | str b => obtain ⟨t, rfl⟩ := rx; exact SeqAt.EqAt.none_str b t
    | _ => exact absurd (show false = true from fx) Bool.false_ne_true
  | bl a =>
    cases ry
    cases x with
    | non => cases rx; exact SeqAt.EqAt.bool_none a
    | bl b => cases rx; exact SeqAt.EqAt.bool_bool a b
    | int b => obtain ⟨t, rfl⟩ := rx; exact SeqAt.EqAt.bool_int a b t
    | str b => obtain ⟨t, rfl⟩ := rx; exact SeqAt.EqAt.bool_str a b t
    | _ => exact absurd (show false = true from fx) Bool.false_ne_true
  | int a =>
    obtain ⟨t', rfl⟩ := ry
    cases x with
    | non => cases rx; exact SeqAt.EqAt.int_none a t'
    | bl b => cases rx; exact SeqAt.EqAt.int_bool a t' b
    | int b => obtain ⟨t, rfl⟩ := rx; exact SeqAt.EqAt.int_int a t' b t
    | str b => obtain ⟨t, rfl⟩ := rx; exact SeqAt.EqAt.int_str a t' b t
    | _ => exact absurd (show false = true from fx) Bool.false_ne_true
  | str a =>
    obtain ⟨t', rfl⟩ := ry
    cases x with
    | non => cases rx; exact SeqAt.EqAt.str_none a t'
    | bl b => cases rx; exact SeqAt.EqAt.str_bool a t' b
    | int b => obtain ⟨t, rfl⟩ := rx; exact SeqAt.EqAt.str_int a t' b t
    | str b => obtain ⟨t, rfl⟩ := rx; exact SeqAt.EqAt.str_str a t' b t
    | _ => exact absurd (show false = true from fx) Bool.false_ne_true
  | _ => exact absurd (show false = true from fy) Bool.false_ne_true
def eqU (x : V) (u : Value) : Bool := match u with
  | .none => eqV .non x
  | .bool b => eqV (.bl b) x
  | .int i _ => eqV (.int i) x
  | .str z _ => eqV (.str z) x
  | _ => false
theorem eqU_of {x y : V} {u : Value} (r : RelV y u) (f : flatV y = true) : eqU x u = eqV y x := by
  cases y with
  | non => cases r; rfl
  | bl b => cases r; rfl
  | int i => obtain ⟨t, rfl⟩ := r; rfl
  | str z => obtain ⟨t, rfl⟩ := r; rfl
  | _ => exact absurd (show false = true from f) Bool.false_ne_true
theorem any_eqU {x : V} : ∀ {xs : List V} {us : List Value}, Vals xs us → xs.all flatV = true → us.any (eqU x) = xs.any fun y => eqV y x
  | _, _, .nil, _ => rfl
  | y :: xs, u :: us, .cons r t, f => by
    rw [List.all_cons, Bool.and_eq_true] at f
    rw [List.any_cons, List.any_cons, eqU_of r f.1, any_eqU t f.2]
theorem mem_eqAt {A : Around} {s : Shared} {x : V} {v : Value} (rx : RelV x v) (fx : flatV x = true) : ∀ {xs : List V} {us : List Value}, Vals xs us → xs.all flatV = true → ∀ u ∈ us, SeqAt.EqAt A s u v (eqU x u)
  | _, _, .nil, _ => fun u hu => by cases hu
  | y :: xs, u :: us, .cons r t, f => fun u' hu => by
    rw [List.all_cons, Bool.and_eq_true] at f
    rcases List.mem_cons.mp hu with rfl | hu
    · rw [eqU_of r f.1]; exact eqAt_V r rx f.1 fx
    · exact mem_eqAt rx fx t f.2 u' hu
def inV (x : V) (xs : List V) : Bool := xs.any fun y => eqV y x
def rIn (K : PySem.W.Frag) (neg : Bool) : R2 := fun x y H Q => ∃ p xs, y = .ref p ∧ (SqL K H p xs ∨ SqT K H p xs) ∧ flatV x = true ∧ xs.all flatV = true ∧ Q (.bl (if neg then !inV x xs else inV x xs)) H
theorem op_in_seq : OpR X (compareOp .In) (rIn X.K false) := by
  intro pins s σ H x y v u Q I rx ry h
  obtain ⟨p, xs, rfl, hq, fx, fs, q⟩ := h
  cases ry
  rcases hq with hq | hq
  · obtain ⟨its, r, pl, hz⟩ := I.list hq
    refine SeqAt.in_listAt (eqU x) pl.isList (fun w hw => mem_eqAt rx fx r fs w (by simpa using hw)) ⟨.bl _, H, I, rfl, ?_⟩
    rw [show its.toArray.any (eqU x) = its.any (eqU x) by simp, any_eqU r fs]
    exact q
  · obtain ⟨its, r, pl, hz⟩ := I.tuple hq
    refine SeqAt.in_tupleAt (eqU x) pl (fun w hw => mem_eqAt rx fx r fs w (by simpa using hw)) ⟨.bl _, H, I, rfl, ?_⟩
    rw [show its.toArray.any (eqU x) = its.any (eqU x) by simp, any_eqU r fs]
    exact q
theorem call_len_seq : CallR X (.builtin "len") (fun xs H Q => ∃ p ys, xs = [.ref p] ∧ (SqL X.K H p ys ∨ SqT X.K H p ys) ∧ Q (.int ys.length) H) := by
  intro pins s σ H xs us Q I r h
  obtain ⟨p, ys, rfl, hq, q⟩ := h
  obtain ⟨u, rfl, rx⟩ := vals1 r
  cases rx
  have hn := line63
  rcases hq with hq | hq
  · obtain ⟨its, r', pl, hz⟩ := I.list hq
    have hlen := r'.length
    exact Calls.call_len_list pl.isList (by simp only [List.size_toArray] <;> omega) ⟨.int ys.length, H, I.tok _, ⟨s.toks + 1, by rw [List.size_toArray, hlen]⟩, q⟩
  · obtain ⟨its, r', pl, hz⟩ := I.tuple hq
    have hlen := r'.length
    exact len_tuple pl (by simp only [List.size_toArray] <;> omega) ⟨.int ys.length, H, I.tok _, ⟨s.toks + 1, by rw [List.size_toArray, hlen]⟩, q⟩
theorem call_list_of : CallR X (.type "list") (fun xs H Q => ∃ p ys, xs = [.ref p] ∧ (SqL X.K H p ys ∨ SqT X.K H p ys) ∧ ∀ l, H l = none → Q (.ref l) (upd H l (.lst ys))) := by
  intro pins s σ H xs us Q I r h
  obtain ⟨p, ys, rfl, hq, q⟩ := h
  obtain ⟨u, rfl, rx⟩ := vals1 r
  cases rx
  have fin : ∀ (its : List Value), Vals ys its → ys.length ≤ sizeLine → ∀ (h' : Heap) (c' : Nat), (∀ b o', s.heap.get? b = some o' → h'.get? b = some o') →
      h'.get? s.heap.objs.size = some { cls := .type "list", dict := none, data := .seq its.toArray c', slots := #[] } → EP X pins σ Q (.ref s.heap.objs.size) { s with heap := h' } := fun its r' hz h' c' kp e =>
    ⟨.ref s.heap.objs.size, _, I.laid (t' := s.toks) kp (Nat.le_refl _) (show ObjOk X.prog X.w _ h' _ (.lst ys) from ⟨hz, its, c', r', e⟩), rfl, q _ (I.hok.fresh (Nat.le_refl _))⟩
  rcases hq with hq | hq
  · obtain ⟨its, r', pl, hz⟩ := I.list hq
    have hlen := r'.length
    obtain ⟨o, ho, hc, n, hd⟩ := pl.isList
    exact call_list_seq p (.inl rfl) ho hc hd (fun h' c' kp e => fin its r' hz h' c' kp e) (by simp only [List.size_toArray] <;> omega)
  · obtain ⟨its, r', pl, hz⟩ := I.tuple hq
    have hlen := r'.length
    obtain ⟨o, ho, hc, n, hd⟩ := pl
    exact call_list_seq p (.inr rfl) ho hc hd (fun h' c' kp e => fin its r' hz h' c' kp e) (by simp only [List.size_toArray] <;> omega)
def tyV (K : PySem.W.Frag) (T : String) (x : V) (H : Hp) : Prop := match x with
  | .str _ => T = "str"
  | .int _ => T = "int"
  | .ref p => (T = "list" ∧ ∃ xs, SqL K H p xs) ∨ (T = "tuple" ∧ ∃ o, K.lookup p = some o ∧ o.cls = .type "tuple" ∧ o.dict = none) ∨
      (T = "dict" ∧ ((∃ kvs, H p = some (.dK kvs)) ∨ ∃ kvs, H p = some (.dT kvs))) ∨ (T = "set" ∧ ∃ S n, H p = some (.set S n))
  | _ => False
theorem tyV_is {pins : List (Addr × Obj)} {σ : St} {H : Hp} {s : Shared} {T : String} {x : V} {v : Value} (I : Inv X pins σ H s) (r : RelV x v) (ty : tyV X.K T x H) :
    s.TypeIs v T ∧ ∀ a, v = .ref a → ∃ ob, s.heap.get? a = some ob ∧ ob.dict = none := by
  cases x with
  | str z =>
    obtain ⟨t, rfl⟩ := r
    cases (show T = "str" from ty)
    exact ⟨typeIs_str s z t, fun _ e => nomatch e⟩
  | int i =>
    obtain ⟨t, rfl⟩ := r
    cases (show T = "int" from ty)
    exact ⟨typeIs_int s i t, fun _ e => nomatch e⟩
  | ref p =>
    cases r
    rcases ty with ⟨rfl, xs, hq⟩ | ⟨rfl, o, hk, hc, hd⟩ | ⟨rfl, hk⟩ | ⟨rfl, S, n, hk⟩
    · obtain ⟨its, _, pl, _⟩ := I.list hq
      refine ⟨pl.isList.typeIs, fun a e => ?_⟩
      cases e
      obtain ⟨o, n, e, c, hd, _⟩ := pl
      exact ⟨o, e, hd⟩
    · refine ⟨⟨o, I.kIn p o hk, hc⟩, fun a e => ?_⟩
      cases e
      exact ⟨o, I.kIn _ o hk, hd⟩
    · have z : ∃ o, s.heap.get? p = some o ∧ o.ExactDict := by
        rcases hk with ⟨kvs, hk⟩ | ⟨kvs, hk⟩
        · obtain ⟨_, _, _, _, o, _, _, e, ex, _⟩ := I.hok p _ hk
          exact ⟨o, e, ex⟩
        · obtain ⟨_, _, _, _, o, _, _, e, ex, _⟩ := I.hok p _ hk
          exact ⟨o, e, ex⟩
      obtain ⟨o, e, ex⟩ := z
      refine ⟨⟨o, e, ex.1⟩, fun a e2 => ?_⟩
      cases e2
      exact ⟨o, e, ex.2.1⟩
    · obtain ⟨o, _, _, _, e, ex, _⟩ := I.hok p _ hk
      refine ⟨⟨o, e, ex.1⟩, fun a e2 => ?_⟩
      cases e2
      exact ⟨o, e, ex.2.1⟩
  | _ => exact False.elim ty
def tBM (K : PySem.W.Frag) (T : String) (r : V → List V → Hp → VK → Prop) (to : TE) (t : TA) : TE := fun σ H Q => to σ H fun x H1 => tyV K T x H1 ∧ t σ H1 fun xs H2 => r x xs H2 Q
variable {o e : Expr} {es : List Expr} {to : TE} {t : TA} {name : Str} {apos cpos : Pos} {T id : String} {r : V → List V → Hp → VK → Prop}
theorem pe_bm (pa : PlainAttrs T) (slot : Slot T name id) (hty : typeOf (.builtin id) = pure (.type "method_descriptor")) (hm : MtR X id r) (ho : PE X o to) (ha : PA X (e :: es) t)
    (hbase : attributeBase o name X.env (eval o X.env) = eval o X.env := by rfl)
    (hfew : ((backTo cpos (starEach (e :: es) X.env)).all (fun x => !x.1) && (backToKw cpos (keywordEach [] X.env)).all (fun x => x.1.isSome)
      && decide ((e :: es).length + ([] : List Keyword).length + (if ([] : List Keyword).isEmpty then 0 else 1) < 30)) = true := by rfl)
    (hline : (apos.endLine == cpos.line) = true := by rfl) (hs : starEach (e :: es) X.env = (false, eval e X.env) :: starEach es X.env := by rfl) (hplain : (backTo cpos (starEach es X.env)).any (·.1) = false := by rfl) :
    PE X (.Call (.Attribute o name apos) (e :: es) [] cpos) (tBM X.K T r to t) := by
  intro pins s σ H Q I h
  refine wpAny_Call_method_late hbase hfew hline rfl (thn (ho pins s σ H _ I h) fun v s1 ⟨x, H1, I1, r1, ty, q1⟩ => ?_)
  obtain ⟨h1, h2⟩ := tyV_is I1 r1 ty
  refine ⟨T, id, pa, slot, hty, h1, h2, ?_⟩
  have hA := ha cpos pins s1 σ H1 _ I1 q1
  rw [hs] at hA ⊢
  refine Calls.callWith_builtin (by show (false || (backTo cpos (starEach es X.env)).any (·.1)) = false; rw [hplain] <;> rfl) (Calls.evalArgs_plain ?_)
  exact thn hA fun us s2 ⟨vs, H2, I2, r2, q2⟩ => hm pins s2 σ H2 x vs v us Q I2 r1 r2 q2
/- xs.append(e), list.index on a module's tuple .. are MtR facts of 06m -/
end
end L2

namespace L2
open PySem PySem.Spec PyProof.Rows

def MtM (X : Cx) (id : String) (r : V → List V → Hp → VK → Prop) : Prop :=
  ∀ (pins : List (Addr × Obj)) (s : Shared) (σ : St) (H : Hp) (x : V) (xs : List V) (v : Value) (us : List Value) (Q : VK), Inv X pins σ H s → RelV x v → Vals xs us → r x xs H Q →
    wpAny (model X.prog X.w) X.A (call (.builtin id) (v :: us)) (EP X pins σ Q) X.xe s

theorem Vals.one : ∀ {x : V} {us : List Value}, Vals [x] us → ∃ u, us = [u] ∧ RelV x u
  | _, _, .cons r .nil => ⟨_, rfl, r⟩
section
variable {X : Cx} {pins : List (Addr × Obj)} {σ : St} {H : Hp} {s : Shared} {l b : Addr} {xs ys zs : List V}

theorem Inv.lset {its its' : List Value} {n : Nat} {f : Array Value → Array Value} {t' : Nat} (I : Inv X pins σ H s) (hH : H l = some (.lst xs))
    (e : s.heap.get? l = some { cls := .type "list", data := .seq its.toArray n }) (hf : f its.toArray = its'.toArray) (hv : Vals ys its') (hz : ys.length ≤ sizeLine) :
    Inv X pins σ (upd H l (.lst ys)) { s with heap := s.heap.update l (Obj.mapSeq f), toks := t' } := by
  have q := PySem.IsL.update e f
  rw [hf] at q
  refine I.write (x := l) (e := l) (by rw [hH]; exact trivial) (.inl rfl) (fun b' u hb hu => (Heap.get?_update_other s.heap (Obj.mapSeq f) (Ne.symm hb)).trans hu) ⟨_, q⟩ ?_
  exact ⟨hz, its', _, hv, q⟩
theorem Inv.lnew {its : List Value} {t' : Nat} (I : Inv X pins σ H s) (hv : Vals ys its) (hz : ys.length ≤ sizeLine) :
    Inv X pins σ (upd H s.heap.objs.size (.lst ys)) { s with heap := s.heap.push { cls := .type "list", data := .seq its.toArray }, toks := t' } :=
  I.laid (fun _ _ q => Heap.get?_push_of_some _ q) (Nat.le_refl _) ⟨hz, its, 0, hv, Heap.get?_push_size _ rfl⟩
theorem Inv.fresh (I : Inv X pins σ H s) : H s.heap.objs.size = none := I.hok.fresh (Nat.le_refl _)
theorem Inv.lstM (I : Inv X pins σ H s) (hH : H l = some (.lst xs)) : xs.length ≤ sizeLine ∧ ∃ (its : List Value) (n : Nat), Vals xs its ∧ xs.length = its.length ∧ s.heap.get? l = some { cls := .type "list", data := .seq its.toArray n } := by
  obtain ⟨z, its, n, r, e⟩ := I.hok l _ hH
  exact ⟨z, its, n, r, r.length, e⟩

end

section
variable {X : Cx}

def rAppend : V → List V → Hp → VK → Prop := fun x vs H Q => ∃ l xs y, x = .ref l ∧ vs = [y] ∧ H l = some (.lst xs) ∧ xs.length < sizeLine ∧ Q .non (upd H l (.lst (xs ++ [y])))
theorem mt_append : MtM X "list.append" rAppend := by
  intro pins s σ H x vs v us Q I rx rv h
  obtain ⟨l, xs, y, rfl, rfl, hH, hz, q⟩ := h
  cases rx
  obtain ⟨u, rfl, ru⟩ := rv.one
  obtain ⟨z, its, n, r, hl, e⟩ := I.lstM hH
  refine call_meets F.slot_list_append ⟨_, e, rfl⟩ F.entry_list_append (F.args_list_append_2 _ _) (PySem.list_append l its.toArray n u (by rw [List.size_toArray]; omega)) ⟨e, ?_⟩
  refine ⟨.non, _, I.lset (its' := its ++ [u]) hH e (by simp) (r.append (.cons ru .nil)) ?_, rfl, q⟩
  rw [List.length_append, List.length_singleton]
  omega

def rCat : R2 := fun x y H Q => ∃ l b xs zs, x = .ref l ∧ y = .ref b ∧ H l = some (.lst xs) ∧ H b = some (.lst zs) ∧ xs.length + zs.length ≤ sizeLine ∧ ∀ p, H p = none → Q (.ref p) (upd H p (.lst (xs ++ zs)))
theorem op_cat : OpR X (binaryOp .Add) rCat := by
  intro pins s σ H x y v u Q I rx ry h
  obtain ⟨l, b, xs, zs, rfl, rfl, hH, hB, hz, q⟩ := h
  cases rx
  cases ry
  obtain ⟨z, its, n, r, hl, e⟩ := I.lstM hH
  obtain ⟨z2, its2, n2, r2, hl2, e2⟩ := I.lstM hB
  refine PySem.P.add_list e e2 ?_ (by rw [List.size_toArray, List.size_toArray]; omega)
  have ea : its.toArray ++ its2.toArray = (its ++ its2).toArray := by simp
  rw [ea]
  exact ⟨.ref _, _, I.lnew (t' := s.toks) (r.append r2) (by rw [List.length_append]; omega), rfl, q _ I.fresh⟩
end

section
variable {prog : Program} {w : World} {A : Around} {E : Value → Shared → Prop} {s : Shared}
set_option maxRecDepth 100000 in
end

section
variable {X : Cx}
end
end L2

namespace Att
open PySem PySem.W PySem.Calls PyProof.Rows

theorem ints_of_wellAll {P : Params} {h : Heap} : ∀ (ns : List Int) (vs : List Value), WellAll P h vs (ns.map WData.int) → IntsAre vs ns := by
  intro ns
  induction ns with
  | nil =>
    intro vs w
    rw [List.map_nil] at w
    cases w
    exact .nil
  | cons n ns ih =>
    intro vs w
    rw [List.map_cons] at w
    cases w with
    | cons a b =>
      cases a
      exact .cons _ _ (ih _ b)

theorem script_of {l : OpenLaw} {n : Nat} (hn : l.most = some n) {P : Params} {h : Heap} {args : List WData} {vals : List Value}
    (hpre : l.row.toRowW.claim.pre args = true) (hwl : WellAll P h vals args) :
    ∃ a vs ns, vals = [Value.ref a] ∧ args = [WData.list (ns.map WData.int)] ∧ h.get? a = some { cls := .type "list", data := .seq vs.toArray } ∧ IntsAre vs ns ∧ ns.length ≤ n := by
  have hsh : WShape.hasAll [] args [.list .int] = true := (pre_splitW hpre).1
  have hc : l.pre.holds [] { args := args } = true := (pre_splitW hpre).2
  obtain ⟨d, r, rfl, h1, h2⟩ := hasAllW_cons hsh
  obtain rfl := hasAllW_nil h2
  obtain ⟨xs, rfl, h3⟩ := hasW_list h1
  obtain ⟨ns, rfl⟩ := items_int h3
  have hlen : ns.length ≤ n := by
    unfold OpenLaw.pre at hc
    have h4 : (WTm.not (.lt (.lit (.int (n : Int))) (.len (.arg 0)))).holds [] { args := [.list (ns.map .int)] } = true := by
      have h4 := (holds_andW hc).1
      rw [hn] at h4
      exact h4
    have h5 := condW_of h4 (w_not (w_lt w_lit (w_len_list (w_arg rfl))))
    rw [List.length_map] at h5
    refine Nat.le_of_not_lt fun q => ?_
    have q' : (n : Int) < ((ns.length : Nat) : Int) := by omega
    first
      | (rw [decide_eq_true q'] at h5; exact absurd h5 (by decide))
      | (simp at h5; omega)
  cases hwl with
  | cons w1 w2 =>
    cases w2
    cases w1 with
    | list ho hall => exact ⟨_, _, ns, rfl, rfl, ho, ints_of_wellAll ns _ hall, hlen⟩

theorem post_true (l : OpenLaw) (args : List WData) : l.row.toRowW.claim.post args (.bool true) args = true :=
  postW_of (r := l.row.toRowW) (X := (true == true))
    (show WShape.has [] (.bool true) .bool = true by first | rfl | decide | simp [WShape.has, WShape.arms, WShape.armsAll])
    (show (WTm.eq .res (.lit (.bool true))).value [] { args := args, res := some (.bool true), after := args } = some (.bool (true == true)) from w_eq_bool (w_res rfl) w_lit) rfl

theorem attach_call {l : OpenLaw} {n : Nat} {q : Program} {loose : List Str} {XP : (Str → Option Value) → Heap → Prop} {YP : World → Heap → Prop} {d : DefRec}
    (hn : l.most = some n) (hdf : d.params.defaults = [])
    (call : ∀ (w : World) (s₀ s₁ : Shared) (mg mb : Str → Option Value) (fa : Addr) (o : Obj) (pm cd doc : Value) (a : Addr) (vs : List Value) (ns : List Int),
      Ground q loose [] XP w s₀ mg mb s₁.heap → YP w s₁.heap →
      s₁.heap.get? fa = some o → o.data = .func (docDef d.name d.params d.body d.scope pm cd doc) → s₁.heap.CodeRec cd d.name → mg d.name = some (.ref fa) →
      s₁.heap.get? a = some { cls := .type "list", data := .seq vs.toArray } → IntsAre vs ns → ns.length ≤ n → s₁.gens = #[] →
      codeAny (model l.prog w) callerA (.call (.ref fa) ⟨[.ref a], []⟩) (fun r s' => r = .ok (.ret (.bool true)) ∧ OldK s₁.heap s'.heap ∧ s'.os = s₁.os ∧ AllBare s'.gens) s₁) :
    WalkO q loose XP YP l.row.toRowW d [] (fun f vs => PySem.call f vs) := by
  intro w s₀ s₁ mg mb G Y fa o pm cd doc dV kV ho hd hcd hD hmg hg args vals as hpre hlay hrd hwl hlo
  obtain rfl : dV = .none := Dflts.none hD hdf
  obtain rfl : kV = .none := Dflts.noKw hD
  obtain ⟨a, vs, ns, rfl, rfl, hobj, hints, hlen⟩ := script_of hn hpre hwl
  refine enter_call (codeAny_mono (call w s₀ s₁ mg mb fa o pm cd doc a vs ns G Y ho (fd_plain hd) hcd hmg hobj hints hlen hg) fun r s' hq => ?_)
  obtain ⟨rfl, h2, h3, h4⟩ := hq
  exact ⟨.inl ⟨.bool true, .bool true, [], rfl, fun _ => rfl, .bool true, post_true l _, fun _ => ⟨List.Pairwise.nil, fun _ hm => (nomatch hm)⟩⟩, h2, h3, h4⟩

section
variable {prog : Program} {w : World} {A : Around} {E : Value → Shared → Prop} {s : Shared} {K : Frag}

end
end Att

namespace L2
open PySem PySem.Spec PyProof.Rows

theorem vals_ints : ∀ {vs : List Value} {ns : List Int}, IntsAre vs ns → Vals (ns.map V.int) vs
  | _, _, .nil => .nil
  | _, _, .cons n t h => .cons ⟨t, rfl⟩ (vals_ints h)

def Only (H : Hp) : Prop := ∀ b, H b = none ∨ ∃ o xs, H b = some (.frz o (.lst xs))

theorem law_call {P : Program} {w : World} {K : PySem.W.Frag} {mg mb : Str → Option Value} {CX : CXT} {k : Nat} {fa a : Addr} {fd : FuncData} {x : Str} {sp : Sp} {s₁ : Shared} {vs : List Value} {ns : List Int}
    (KX : K.In s₁.heap) (hns : s₁.heap.Ns mainGlobals mg) (hb : s₁.heap.Ns builtinsNs mb) (hbb : ∀ x : Str, x ≠ "__name__" → mb x = bootBuiltins x) (hlim : s₁.heap.NoLimit) (hg : s₁.gens = #[])
    (ha : s₁.heap.get? a = some { cls := .type "list", data := .seq vs.toArray }) (hi : IntsAre vs ns) (hl : ns.length ≤ sizeLine) (hr : Room k callerA)
    (F : ∀ base : Heap, K.In base → base.Ns mainGlobals mg → FnOk P w K mg base CX k fa fd [x] sp) (hbind : ∀ (s : Shared) (u : Value), BindsTo s fd ⟨[u], []⟩ [(x, u)])
    (hsp : ∀ H : Hp, Only H → SqL K H a (ns.map V.int) → sp [.ref a] H (fun v _ => v = .bl true) fun _ _ _ => False)
    (hCX : ∀ H e s', CX [] H s₁ (fun _ _ _ => False) e s' → False) :
    codeAny (model P w) callerA (.call (.ref fa) ⟨[.ref a], []⟩) (fun r s' => r = .ok (.ret (.bool true)) ∧ OldK s₁.heap s'.heap ∧ s'.os = s₁.os ∧ AllBare s'.gens) s₁ := by
  have rv := vals_ints hi
  have lenV := hi.length
  -- from an abstract heap in which nothing but the script may be tracked
  have core : ∀ H : Hp, Only H → SqL K H a (ns.map V.int) → HOk P w H s₁.heap → (∀ b, H b ≠ none → b = a) → (H a ≠ none → K.lookup a = none) →
      codeAny (model P w) callerA (.call (.ref fa) ⟨[.ref a], []⟩) (fun r s' => r = .ok (.ret (.bool true)) ∧ OldK s₁.heap s'.heap ∧ s'.os = s₁.os ∧ AllBare s'.gens) s₁ := by
    intro H hO hS hok hA hK
    have base_of : ∀ {b : Addr} {o : Obj}, s₁.heap.get? b = some o → H b = none → (hidT s₁.heap H).get? b = some o := fun e n => hidT_get e n
    have noA : ∀ {b : Addr} {o : Obj} {es : Array DictEntry} {ep : Nat}, s₁.heap.get? b = some o → o.data = .dict es ep → H b = none := fun {b o es ep} e d => by
      cases q : H b with
      | none => rfl
      | some u =>
        have e' : b = a := hA b (by rw [q]; simp)
        subst e'
        rw [ha] at e; cases e
        have d' : Data.seq vs.toArray _ = Data.dict es ep := d
        cases d'
    have nsK : ∀ {b : Addr} {m : Str → Option Value}, s₁.heap.Ns b m → (hidT s₁.heap H).Ns b m := fun {b m} ⟨o, es, ep, e, d, r⟩ => ⟨o, es, ep, base_of e (noA e d), d, r⟩
    have hKb : K.In (hidT s₁.heap H) := fun b o e => base_of (KX b o e) (by
      cases q : H b with
      | none => rfl
      | some u =>
        have e' : b = a := hA b (by rw [q]; simp)
        subst e'
        rw [hK (by rw [q]; simp)] at e; cases e)
    have hM : Mod K mg (hidT s₁.heap H) := ⟨hKb, nsK hns, ⟨mb, nsK hb, hbb⟩, let ⟨mc, h1, h2⟩ := hlim; ⟨mc, nsK h1, h2⟩⟩
    have e0 : Env0 P w K mg (hidT s₁.heap H) callerA [] s₁ H := ⟨rfl, hM, fun b o e => of_hidT e, Nat.le_of_eq (hidT_size _ _), trivial, fun b hb => absurd (show b ∈ ([] : List Addr) from hb) (by simp), hok, .of_eq hg⟩
    refine codeAny_mono ((F _ hKb (nsK hns)).run callerA [] s₁ H ⟨[.ref a], []⟩ [.ref a] [.ref a] _ _ hr e0 (hbind s₁ (.ref a)) (.cons rfl .nil) (hsp H hO hS)) fun r s' h => ?_
    cases r with
    | error e => exact (hCX H e s' h).elim
    | ok fl =>
      cases fl with
      | next => exact False.elim h
      | brk => exact False.elim h
      | cont => exact False.elim h
      | ret u =>
        obtain ⟨v, H', os, bare, un, hok', r', q⟩ := h
        have q' : v = .bl true := q
        subst q'
        obtain rfl : u = Value.bool true := r'
        refine ⟨rfl, OldK.of_keep fun b o e => ?_, os, bare⟩
        cases q : H b with
        | none => exact un.keep b o e q (by intro z; exact absurd (show b ∈ ([] : List Addr) from z) (by simp)) (by simp)
        | some u =>
          rcases hO b with z | ⟨ob, xs, z⟩
          · rw [q] at z; cases z
          · have z2 := un.frzs b ob _ z
            obtain ⟨e1, _⟩ := hok b _ z
            obtain ⟨e2, _⟩ := hok' b _ z2
            rw [e] at e1; cases e1
            exact e2
  cases hk : K.lookup a with
  | some o =>
    -- the script is one of the module's own objects
    have e := KX a o hk
    rw [ha] at e
    cases e
    refine core (fun _ => none) (fun _ => .inl rfl) (.inr ⟨_, vs.toArray, _, hk, rfl, rfl, rfl, by rw [List.size_toArray, lenV]; exact hl, by simpa using rv⟩) (fun b u z => by have z' : (none : Option HO) = some u := z; cases z') (fun b z => absurd rfl z) fun z => absurd rfl z
  | none =>
    refine core (fun b => if b = a then some (.frz { cls := .type "list", data := .seq vs.toArray } (.lst (ns.map V.int))) else none) (fun b => ?_) (.inl (.inr ⟨{ cls := .type "list", data := .seq vs.toArray }, if_pos rfl⟩)) (fun b u z => ?_) (fun b z => ?_) fun _ => hk
    · by_cases hb : b = a
      · exact .inr ⟨_, _, if_pos hb⟩
      · exact .inl (if_neg hb)
    · by_cases hb : b = a
      · have z' := (if_pos hb).symm.trans z
        cases z'
        subst hb
        exact ⟨ha, by rw [List.length_map]; exact hl, vs, _, rv, ha⟩
      · have z' := (if_neg hb).symm.trans z
        cases z'
    · by_cases hb : b = a
      · exact hb
      · exact absurd (if_neg hb) z
end L2

namespace L2
open PySem PySem.Spec PyProof.Rows

abbrev KOf {K : PySem.W.Frag} {h : Heap} (_ : K.In h) : PySem.W.Frag := K

theorem walk_of {l : PySem.W.OpenLaw} {n k : Nat} {q : Program} {loose : List Str} {XP : (Str → Option Value) → Heap → Prop} {YP : World → Heap → Prop} {d : DefRec} {K : Params → PySem.W.Frag} {CX : World → CXT} {sp : World → Sp} {x : Str}
    (hn : l.most = some n) (hn2 : n ≤ sizeLine) (hdf : d.params.defaults = []) (hr : Room k callerA)
    (hY : ∀ (w : World) (h : Heap), YP w h → (K w.params).In h)
    (F : ∀ (w : World) (mg : Str → Option Value) (fa : Addr) (h : Heap), (K w.params).In h → h.Ns mainGlobals mg → mg d.name = some (.ref fa) →
      ∃ fd : FuncData, (∀ (s : Shared) (u : Value), BindsTo s fd ⟨[u], []⟩ [(x, u)]) ∧
        ∀ base : Heap, (K w.params).In base → base.Ns mainGlobals mg → FnOk l.prog w (K w.params) mg base (CX w) k fa fd [x] (sp w))
    (hsp : ∀ (w : World) (H : Hp) (a : Addr) (ns : List Int), ns.length ≤ n → Only H → SqL (K w.params) H a (ns.map V.int) → sp w [.ref a] H (fun v _ => v = .bl true) fun _ _ _ => False)
    (hCX : ∀ (w : World) (H : Hp) (s : Shared) (e : Value) (s' : Shared), CX w [] H s (fun _ _ _ => False) e s' → False) :
    PySem.W.WalkO q loose XP YP l.row.toRowW d [] (fun f vs => PySem.call f vs) := by
  refine Att.attach_call hn hdf fun w s₀ s₁ mg mb fa o pm cd doc a vs ns G Y ho hd hcd hmg hobj hints hlen hg => ?_
  have KX := hY w _ Y
  obtain ⟨fd, hb, hF⟩ := F w mg fa _ KX G.T.g hmg
  exact law_call KX G.T.g G.T.b G.T.builtins G.T.nolimit hg hobj hints (Nat.le_trans hlen hn2) hr hF hb (fun H hO hS => hsp w H a ns hlen hO hS) fun H e s' => hCX w H s₁ e s'
end L2

/- THE LAST THEOREM (shape; LID, My.* are yours):
   My.Adr: a structure of the addresses that your layer names (classes, functions); My.Txt K t: a structure (Prop) of the equations over K;
   My.txt_mk : {K} {implicit addresses ..} (e1 : nsIn K mainGlobals "law" = some (some (.ref f))) (e2 : K.lookup f = some ⟨oc, od, .func (fnOf "law" "law" params body scope dV kV doc pm an cdv ct), sl⟩) (e3 : codeIn K cdv "law" = true) .. : ∃ t, My.Txt K t

set_option maxRecDepth 100000 in
set_option maxHeartbeats 0 in
theorem PySem.Challenge.cw_LID_holds : PySem.Challenge.rw_LID.Holds := by
  w_on; o_law; k_head; (case hw => w_witness2)
  k_fill
  refine L2.walk_of (l := PySem.Challenge.rw_LID) (n := 63) (k := 40) (x := "script") (CX := fun w => ..) (sp := fun _ => My.sp_law) rfl (by decide) rfl ⟨rfl, by decide, by decide⟩ (fun w h Y => PySem.W.kIn_of Y) ?F ?S ?C
  case F =>
    intro w mg fa h KX G hmg
    have T : ∃ t, My.Txt (L2.KOf KX) t := by
      dsimp only [L2.KOf]                          -- K must stand as «<heap const> w.params» for k_is
      refine' My.txt_mk ?e1 ?e2 ?e3 ..
      (case e1 => PySem.W.k_is)                    -- in the order: a name -> its address -> its object -> its parts
      (case e2 => PySem.W.k_is)
      ..
    obtain ⟨t, T⟩ := T
    have e0 := hmg.symm.trans (PySem.W.mg_of KX G T.law)
    cases e0                                       -- fa is the law's own address
    exact ⟨_, fun s u => .of_eq rfl, fun base kb nb => My.law_fn T kb nb⟩     -- if «.of_eq rfl» comes too early: refine' ⟨_, ?b, fun base kb nb => My.law_fn T kb nb⟩; exact fun s u => .of_eq rfl
  case S => exact fun w H a ns hl hO hS => ..
  case C => exact ..
(the tactic k_is has no namespace: write k_is) -/

namespace L2
open PySem PySem.Spec PyProof.Rows

def inClass (s : Stmt) (j : Nat) : Stmt := match s with
  | .ClassDef _ _ _ body _ _ _ _ _ _ _ => body.getD j (.Pass ⟨0, 0, 0, 0⟩)
  | _ => .Pass ⟨0, 0, 0, 0⟩
def defArgs (s : Stmt) : Arguments := match s with
  | .FunctionDef _ a _ _ _ _ _ _ _ _ => a
  | _ => { posonlyargs := [], args := [], vararg := none, kwonlyargs := [], kw_defaults := [], kwarg := none, defaults := [] }
def defBody (s : Stmt) : List Stmt := match s with
  | .FunctionDef _ _ b _ _ _ _ _ _ _ => b
  | _ => []
def defScope (s : Stmt) : Scope := match s with
  | .FunctionDef _ _ _ _ _ _ sc _ _ _ => sc
  | _ => { kind := .function, names := [], isGenerator := false, isCoroutine := false }

abbrev CX0 : CXT := fun _ _ _ _ _ _ => False
abbrev E0 : XK := fun _ _ _ => False
theorem pass0 {X : Cx} : Passes CX0 X E0 := fun _ _ _ _ _ _ _ h => h.elim

section
variable {P : Program} {w : World} {K : PySem.W.Frag} {mg : Str → Option Value} {base : Heap}
end
theorem small1000 {n : Nat} (h : n ≤ 1000) : n < sizeLine := Nat.lt_of_le_of_lt h (by decide)

section
variable {X : Cx}
theorem pv (i : Nat) {x : Str} {pos : Pos} (hN : X.N[i]? = some x := by rfl) (hv : Vis X.env.scope x := by first | exact Or.inl rfl | exact Or.inr (Or.inl rfl) | exact Or.inr (Or.inr rfl)) (hd : (x == ("__debug__" : Str)) = false := by decide)
    (hcd : (x == ("__classdict__" : Str)) = false := by decide) : PE X (.Name x pos) (tVar i) := pe_var hN hv hd hcd
end

theorem iteF {A B : Prop} (h : B) : if false = true then A else B := by
  rw [if_neg Bool.false_ne_true]
  exact h
theorem iteT {A B : Prop} (h : A) : if true = true then A else B := by
  rw [if_pos rfl]
  exact h
theorem ite2 {c A B : Prop} [Decidable c] (h1 : c → A) (h2 : ¬ c → B) : if c then A else B := by
  by_cases h : c
  · rw [if_pos h]
    exact h1 h
  · rw [if_neg h]
    exact h2 h
def Same (H H' : Hp) : Prop := ∀ b o, H b = some o → H' b = some o
theorem Same.refl (H : Hp) : Same H H := fun _ _ h => h
theorem Same.trans {H H1 H2 : Hp} (a : Same H H1) (b : Same H1 H2) : Same H H2 := fun c o h => b c o (a c o h)
theorem Same.free {H H' : Hp} (e : Same H H') {l : Addr} (h : H' l = Option.none) : H l = Option.none := by
  cases q : H l with
  | none => rfl
  | some o =>
    rw [e l o q] at h
    cases h
theorem Same.seq {K : PySem.W.Frag} {H H' : Hp} {a : Addr} {xs : List V} (e : Same H H') (h : SqL K H a xs) : SqL K H' a xs := by
  rcases h with (h | ⟨o, h⟩) | h
  · exact .inl (.inl (e _ _ h))
  · exact .inl (.inr ⟨o, e _ _ h⟩)
  · exact .inr h

end L2

set_option Elab.async false
set_option linter.all false
set_option maxRecDepth 100000
set_option maxHeartbeats 1000000
namespace L2
open PySem PySem.Spec PyProof.Rows
section
variable {X : Cx}

def Bt (n : Nat) (i : Int) : Prop := i.natAbs < 2 ^ n
theorem intBits_of {n : Nat} {i : Int} (h : Bt n i) : Builtin.Int.intBits i ≤ n := by
  unfold Builtin.Int.intBits
  split
  · exact Nat.zero_le _
  · rename_i h0
    have hp : i.natAbs ≠ 0 := by
      intro z
      apply h0
      simp at z ⊢
      exact z
    have : i.natAbs.log2 < n := (Nat.log2_lt hp).mpr h
    omega
def CBig (i j : Int) : Prop := ∃ n m, Bt n i ∧ Bt m j ∧ n ≤ 1048576 ∧ m ≤ 1048576
theorem CBig.ok {i j : Int} (h : CBig i j) : IntMulOk i j := by
  obtain ⟨n, m, h1, h2, h3, h4⟩ := h
  have e : (2 : Nat) ^ 20 = 1048576 := by decide
  exact IntMulOk.of_bits (by have := intBits_of h1; omega) (by have := intBits_of h2; omega)
theorem op_mulB : OpR X (binaryOp .Mult) (rI CBig fun i j => .int (i * j)) := opI fun _ _ _ _ _ _ _ hc q => mul_int q hc.ok
def CDivB (i j : Int) : Prop := j ≠ 0 ∧ ∃ n, Bt n j ∧ n ≤ 9000
theorem CDivB.ok {i j : Int} (h : CDivB i j) : Builtin.divisionGoesByPylong i j = false := by
  obtain ⟨h0, n, h1, h2⟩ := h
  refine PyProof.noPylong_of_log2 ?_
  have hp : j.natAbs ≠ 0 := by omega
  have : j.natAbs.log2 < n := (Nat.log2_lt hp).mpr h1
  omega
theorem op_fdivB : OpR X (binaryOp .FloorDiv) (rI CDivB fun i j => .int (i.fdiv j)) := opI fun _ _ _ _ _ _ _ hc q => floordiv_int hc.1 q (.inl hc.ok)

mutual
inductive DatV (K : PySem.W.Frag) (H : Hp) : V → PyData → Prop where
  | non : DatV K H .non .none
  | bl (b : Bool) : DatV K H (.bl b) (.bool b)
  | int (i : Int) : DatV K H (.int i) (.int i)
  | str (x : Str) : DatV K H (.str x) (.str x)
  | lst {a : Addr} {xs : List V} {ds : List PyData} (h : SqL K H a xs) (q : DatVs K H xs ds) : DatV K H (.ref a) (.list ds)
  | tup {a : Addr} {xs : List V} {ds : List PyData} (h : SqT K H a xs) (q : DatVs K H xs ds) : DatV K H (.ref a) (.tuple ds)
inductive DatVs (K : PySem.W.Frag) (H : Hp) : List V → List PyData → Prop where
  | nil : DatVs K H [] []
  | cons {x : V} {d : PyData} {xs : List V} {ds : List PyData} (p : DatV K H x d) (q : DatVs K H xs ds) : DatVs K H (x :: xs) (d :: ds)
end
theorem datV_reads {pins : List (Addr × Obj)} {s : Shared} {σ : St} {H : Hp} (I : Inv X pins σ H s) : ∀ {x : V} {d : PyData}, DatV X.K H x d → ∀ {u : Value}, RelV x u → ∃ as, Reads s.heap u d as := by
  intro x d h
  induction h using DatV.rec (motive_2 := fun xs ds _ => ∀ {us : List Value}, Vals xs us → ∃ as, ReadsAll s.heap us ds as) with
  | non => intro u r; cases (show u = Value.none from r); exact ⟨_, .none⟩
  | bl b => intro u r; cases (show u = Value.bool b from r); exact ⟨_, .bool b⟩
  | int i => intro u r; obtain ⟨t, rfl⟩ := (show ∃ t, u = Value.int i t from r); exact ⟨_, .int i t⟩
  | str y => intro u r; obtain ⟨t, rfl⟩ := (show ∃ t, u = Value.str y t from r); exact ⟨_, .str y t⟩
  | lst h q ih =>
    intro u r
    cases (show u = Value.ref _ from r)
    obtain ⟨its, rv, pl, _⟩ := I.list h
    obtain ⟨as, ra⟩ := ih rv
    obtain ⟨o, h1, h2, n, h3⟩ := pl.isList
    exact ⟨_, .list h1 h2 h3 (by simpa using ra)⟩
  | tup h q ih =>
    intro u r
    cases (show u = Value.ref _ from r)
    obtain ⟨its, rv, pl, _⟩ := I.tuple h
    obtain ⟨as, ra⟩ := ih rv
    obtain ⟨o, h1, h2, n, h3⟩ := pl
    exact ⟨_, .tuple h1 h2 h3 (by simpa using ra)⟩
  | nil => rename_i us r; cases r; exact ⟨_, .nil⟩
  | cons p q ih1 ih2 =>
    rename_i us r
    cases r with
    | cons r1 r2 =>
      obtain ⟨as, h1⟩ := ih1 r1
      obtain ⟨bs, h2⟩ := ih2 r2
      exact ⟨_, .cons h1 h2⟩
def rDat (K : PySem.W.Frag) (neg : Bool) : R2 := fun x y H Q => ∃ d e, DatV K H x d ∧ DatV K H y e ∧ d.canLay0 = true ∧ e.canLay0 = true ∧ min d.depth e.depth ≤ 16 ∧ Q (.bl (if neg then !PyData.eqv d e else PyData.eqv d e)) H
theorem op_eqD (hu : X.A.units + 64 < cLine) : OpR X (compareOp .Eq) (rDat X.K false) := by
  intro pins s σ H x y v u Q I rx ry h
  obtain ⟨d, e, h1, h2, c1, c2, hm, q⟩ := h
  obtain ⟨as, r1⟩ := datV_reads I h1 rx
  obtain ⟨bs, r2⟩ := datV_reads I h2 ry
  exact PySem.SeqAt.compareEq_reads r1 r2 c1 c2 (by omega) ⟨.bl (PyData.eqv d e), H, I, rfl, q⟩
end
end L2

set_option Elab.async false
set_option linter.all false
set_option maxRecDepth 100000
set_option maxHeartbeats 2000000
namespace L2
open PySem PySem.Spec PyProof.Rows

section
variable {prog : Program} {w : World} {A : Around} {R : Result → Shared → Prop} {s : Shared}
abbrev tests (ifs : List Expr) (env : Env) : Sem Bool := forIn ifs true fun c r => if r = true then do let ok ← isTrue c env (eval c env); pure (ForInStep.yield ok) else pure (ForInStep.yield r)
theorem comp_loop {elt target iter : Expr} {ifs : List Expr} {scope : Scope} {pos : Pos} {it acc : Value} {env : Env} (I : Nat → Shared → Prop)
    (turn : ∀ n s, I n s → wpAny (model prog w) A (pyNext it) (fun r s₁ => match r with
      | none => R (.ok .next) s₁
      | some v => wpAny (model prog w) A (letOwnedTupleGo target it v) (fun _ s₀ => wpAny (model prog w) A (assign target env v) (fun _ s₂ =>
          wpAny (model prog w) A (tests ifs env) (fun ok s₃ =>
            if ok = true then wpAny (model prog w) A (eval elt env) (fun x s₄ =>
              wpAny (model prog w) A (call (.builtin "list.append") [acc, x]) (fun _ s₅ => ∃ m, m < n ∧ I m s₅) (fun _ _ => False) s₄) (fun _ _ => False) s₃
            else ∃ m, m < n ∧ I m s₃) (fun _ _ => False) s₂) (fun _ _ => False) s₀) (fun _ _ => False) s₁) (fun _ _ => False) s)
    (n : Nat) (h : I n s) :
    codeAny (model prog w) A (.compLoop (.ListComp elt [⟨target, iter, ifs, 0⟩] scope pos) 0 it acc env) R s := by
  refine codeAny_loop rfl I (fun n s hI => ?_) n h
  show wpAny _ A ((compTurn (.ListComp elt [⟨target, iter, ifs, 0⟩] scope pos) 0 it acc env).onRaise (fun x => do noteFrame x env; theTreesLotGoes x)) _ _ s
  refine wpAny_noted ?_
  rw [compTurn_list]
  refine wpAny_bind (wpAny_standAt (wpAny_bind (wpAny_mono (turn n s hI) (fun r s₁ h₁ => ?_) fun _ _ z => z.elim)))
  cases r with
  | none => exact wpAny_pure h₁
  | some v =>
    refine wpAny_bind (wpAny_mono h₁ (fun _ s₀ h₀ => ?_) fun _ _ z => z.elim)
    refine wpAny_bind (wpAny_mono h₀ (fun _ s₂ h₂ => wpAny_bind (wpAny_mono h₂ (fun ok s₃ h₃ => ?_) fun _ _ z => z.elim)) fun _ _ z => z.elim)
    cases ok with
    | false => exact wpAny_pure ⟨rfl, h₃⟩
    | true =>
      rw [if_pos rfl] at h₃
      show wpAny _ _ ((do let _ ← call (.builtin "list.append") [acc, ← eval elt env]) >>= fun _ => again (.compLoop (.ListComp elt [⟨target, iter, ifs, 0⟩] scope pos) 0 it acc env)) _ _ _
      exact wpAny_bind (wpAny_bind (wpAny_mono h₃ (fun x s₄ h₄ => wpAny_bind (wpAny_mono h₄ (fun _ s₅ h₅ => wpAny_pure (wpAny_pure ⟨rfl, h₅⟩)) fun _ _ z => z.elim)) fun _ _ z => z.elim))
end

structure CompOk (X : Cx) (scope : Scope) (cl : List (Str × Addr)) (Nc : List Str) (nl : Nat) (fr : List Nat) : Prop where
  clos : closureFor scope X.env = pure cl
  kind : scope.kind = .function
  names : ∀ y ∈ scope.names, y.2 = .local → scope.names.lookup y.1 = some .local
  cell : ∀ y ∈ scope.names, y.2 ≠ .cell
  sub : ∀ x c, cl.lookup x = some c → X.env.cells.lookup x = some c
  has : ∀ x, (relabel scope X.env).names.lookup x = some .cell ∨ (relabel scope X.env).names.lookup x = some .free → ∃ c, cl.lookup x = some c
  len : Nc.length = nl + fr.length
  tail : ∀ i n, Nc[nl + i]? = some n → ∃ j, fr[i]? = some j ∧ X.N[j]? = some n ∧ X.env.kindOf n = some .cell ∧ cl.lookup n = X.env.cells.lookup n ∧ ((relabel scope X.env).names.lookup n = some .cell ∨ (relabel scope X.env).names.lookup n = some .free)
abbrev compCx (X : Cx) (scope : Scope) (cl : List (Str × Addr)) (Nc : List Str) (C : Addr) (s3 : Shared) (H3 : Hp) (fp : List Addr) (pins : List (Addr × Obj)) : Cx :=
  { X with N := Nc, s₀ := s3, H₀ := H3, env := compEnvC scope cl C X.env, outer := X.stack, ex := fp, fn := fun _ => false, pn := X.pn ++ pins, xe := fun _ _ => False }
def σC (nl : Nat) (fr : List Nat) (σ : St) : St := List.replicate nl none ++ fr.map fun j => (σ[j]?).join
abbrev PIf (X : Cx) (ifs : List Expr) (t : TT) : Prop :=
  ∀ (pins : List (Addr × Obj)) (s : Shared) (σ : St) (H : Hp) (Q : Bool → Hp → Prop), Inv X pins σ H s → t σ H Q → wpAny (model X.prog X.w) X.A (tests ifs X.env) (TP X pins σ Q) X.xe s
theorem pif_nil {X : Cx} : PIf X [] (fun _ H Q => Q true H) := fun _ _ _ H _ I h => wpAny_pure ⟨H, I, h⟩
theorem pif_one {X : Cx} {c : Expr} {t : TT} (h : PT X c t) : PIf X [c] t := fun pins s σ H Q I q => wpAny_tests_one (h pins s σ H Q I q)

section
variable {X : Cx} {scope : Scope} {cl : List (Str × Addr)} {Nc : List Str} {nl : Nat} {fr : List Nat} {pins : List (Addr × Obj)} {σ : St} {H3 : Hp} {s3 : Shared} {fp : List Addr} {h4 : Heap} {tk : Nat}
theorem comp_start (ck : CompOk X scope cl Nc nl fr) (I : Inv X pins σ H3 s3) (hf : ∀ b ∈ fp, FpOk X pins H3 b) (hfs : ∀ b ∈ fp, b < s3.heap.objs.size)
    (hns : h4.Ns s3.heap.objs.size fun _ => none) (hk : ∀ b o, s3.heap.get? b = some o → h4.get? b = some o) :
    Inv (compCx X scope cl Nc s3.heap.objs.size s3 H3 fp pins) [] (σC nl fr σ) H3 { s3 with heap := h4, toks := tk } := by
  have stk : ∀ b ∈ frs X.stack, b ∈ X.env.locals :: X.fs := I.stkSub
  have nfs : ∀ b, b ≠ X.env.locals → b ∉ X.fs → b ∉ frs X.stack := fun b h1 h2 z => (List.mem_cons.mp (stk b z)).elim h1 h2
  have ltc : ∀ x c, cl.lookup x = some c → c < s3.heap.objs.size := fun x c e => by
    obtain ⟨v, z⟩ := I.cell x c (ck.sub x c e)
    exact z.lt
  refine ⟨⟨I.ok.mod, ck.kind, I.ok.glob, I.ok.blt, Nat.le_refl _, fun x y c h1 h2 => I.ok.inj x y c (ck.sub x c h1) (ck.sub y c h2), fun x hx => ck.has x hx, fun x c hz => Bool.noConfusion hz, I.ok.hd, I.ok.frames, .inl rfl, fun b hb => ?_, I.bs, Nat.le_trans I.ok.bsz I.sz, fun b o e hb => ?_, fun b hb => ?_, I.stack, I.stkFree⟩,
    rfl, I.bare, Un.kept hk, ⟨_, hns, fun i x v h1 h2 h3 => ?_⟩, fun x c e => ?_, I.hok.fresh (Nat.le_refl _), fun x c e => I.freeC x c (ck.sub x c e), fun p hp => ?_, I.hok.kept hk, ?_⟩
  · obtain ⟨f0, f1, f2, f3, f4, f5⟩ := hf b hb
    exact ⟨Nat.ne_of_lt (hfs b hb), fun x c e => f4 x c (ck.sub x c e)⟩
  · obtain ⟨f0, f1, f2, f3, f4, f5⟩ := hf b hb
    rcases f3 with z | z
    · exact I.ok.noex b o e z
    · exact absurd (Nat.lt_of_lt_of_le (Heap.lt_size e) (Nat.le_trans I.ok.bsz z)) (Nat.lt_irrefl _)
  · obtain ⟨f0, f1, f2, f3, f4, f5⟩ := hf b hb
    exact nfs b f1 f2
  · -- a name's value
    unfold σC at h2
    by_cases hi : i < nl
    · rw [List.getElem?_append_left (by simpa using hi), List.getElem?_replicate] at h2
      split at h2 <;> cases h2
    · have hi' : nl ≤ i := by omega
      rw [List.getElem?_append_right (by simpa using hi'), List.length_replicate, List.getElem?_map] at h2
      obtain ⟨k, rfl⟩ : ∃ k, i = nl + k := ⟨i - nl, by omega⟩
      obtain ⟨j, e1, e2, e3, e4, e5⟩ := ck.tail k x h1
      rw [Nat.add_sub_cancel_left, e1] at h2
      have h2' : (σ[j]?).join = some v := by simpa using h2
      have h2'' : σ[j]? = some (some v) := by
        cases q : σ[j]? with
        | none => rw [q] at h2'; cases h2'
        | some z => rw [q] at h2'; exact congrArg some h2'
      obtain ⟨m, hn, hl⟩ := I.loc
      obtain ⟨u, r, l⟩ := hl j x v e2 h2'' (.inr (.inl e3))
      refine ⟨u, r, ?_⟩
      rcases l with ⟨k1, _⟩ | ⟨k1, c, ec, z⟩
      · rw [e3] at k1; cases k1
      · obtain ⟨o, ho, hd⟩ := z
        exact .inr ⟨e5, c, by show cl.lookup x = some c; rw [e4]; exact ec, o, hk _ _ ho, hd⟩
  · obtain ⟨v, o, ho, hd⟩ := I.cell x c (ck.sub x c e)
    exact ⟨v, o, hk _ _ ho, hd⟩
  · have hp' : p ∈ X.pn ++ pins := by simpa using hp
    obtain ⟨e, n, ne, nf, d⟩ := I.pin p hp'
    exact ⟨hk _ _ e, n, Nat.ne_of_lt (Heap.lt_size e), nfs _ ne nf, d⟩
  · unfold σC
    show _ = Nc.length
    rw [List.length_append, List.length_replicate, List.length_map, ck.len]
theorem comp_end {pins' : List (Addr × Obj)} {σ' : St} {H' : Hp} {s' : Shared} (I : Inv X pins σ H3 s3) (hf : ∀ b ∈ fp, FpOk X pins H3 b)
    (J : Inv (compCx X scope cl Nc s3.heap.objs.size s3 H3 fp pins) pins' σ' H' s') : Inv X pins σ H' s' ∧ FpOk X pins H' s3.heap.objs.size := by
  refine ⟨I.call' (ch := fp) J.os J.base J.hok J.bare fun b hb => ?_, I.fpOk (Nat.le_refl _) J.free⟩
  obtain ⟨f0, f1, f2, f3, f4, f5⟩ := hf b hb
  exact ⟨f3, f1, f4, f5⟩
theorem Inv.off {b : Addr} {H : Hp} {s : Shared} {h' : Heap} (I : Inv X pins σ H s) (f : FpOk X pins H b) (hs : Heap.SameBut b s.heap h') : Inv X pins σ H { s with heap := h' } := by
  obtain ⟨f0, f1, f2, f3, f4, f5⟩ := f
  exact I.turned (t' := s.toks) (it := b) (fun c o hb e => (hs.2 c hb).trans e) f0 f1 f3 f4 f5
end

def CompW (J : It) (nl : Nat) (fr : List Nat) (g : TG) (tt : TT) (te : TE) (σ : St) (D : Addr) (H1 : Hp) (Q : VK) : Prop :=
  ∃ W : Nat → Nat → List V → Hp → Prop, (∃ m, W 0 m [] (upd H1 D (.lst []))) ∧ ∀ i m ys H2, W i m ys H2 → H2 D = some (.lst ys) ∧
    ((J.stop i H2 ∧ Q (.ref D) H2) ∨ (J.go i H2 ∧ ∀ x H3, J.yld i H2 x H3 → g x (σC nl fr σ) H3 fun σ2 H4 => σ2.length = (σC nl fr σ).length ∧ (∀ (i : Nat) v, (σC nl fr σ)[i]? = some (some v) → σ2[i]? = some (some v)) ∧
      tt σ2 H4 fun b H5 => if b = true then te σ2 H5 fun y H6 => H6 D = some (.lst ys) ∧ ys.length < sizeLine ∧ ∃ m', m' < m ∧ W (i + 1) m' (ys ++ [y]) (upd H6 D (.lst (ys ++ [y])))
        else ∃ m', m' < m ∧ W (i + 1) m' ys H5))
def tComp (wi : TI) (nl : Nat) (fr : List Nat) (g : TG) (tt : TT) (te : TE) : TE := fun σ H Q => wi σ H fun J H1 => ∀ D, H1 D = none → CompW J nl fr g tt te σ D H1 Q
section
variable {X : Cx} {scope : Scope} {cl : List (Str × Addr)} {Nc : List Str} {nl : Nat} {fr : List Nat} {elt tg iter : Expr} {ifs : List Expr} {pos : Pos} {wi : TI} {g : TG} {tt : TT} {te : TE}
theorem comp_run (hc : X.calm = true) (ck : CompOk X scope cl Nc nl fr) (hi : PI X tg iter wi)
    (hg : ∀ C s3 H3 fp pins, PG (compCx X scope cl Nc C s3 H3 fp pins) tg g) (ht : ∀ C s3 H3 fp pins, PIf (compCx X scope cl Nc C s3 H3 fp pins) ifs tt) (he : ∀ C s3 H3 fp pins, PE (compCx X scope cl Nc C s3 H3 fp pins) elt te)
    {pins : List (Addr × Obj)} {s : Shared} {σ : St} {H : Hp} {Q : VK} (I : Inv X pins σ H s) (h : tComp wi nl fr g tt te σ H Q) {RR : Value → Addr → Result → Shared → Prop}
    (fin : ∀ D C s', (∃ H', (∃ m, s'.heap.Ns C m) ∧ Inv X pins σ H' s' ∧ FpOk X pins H' C ∧ Q (.ref D) H') → RR (.ref D) C (.ok .next) s') :
    wpAny (model X.prog X.w) X.A (eval iter X.env) (fun x s₁ => wpAny (model X.prog X.w) X.A (pyIter x) (fun it s₂ => wpAny (model X.prog X.w) X.A (newList []) (fun acc s₃ =>
      wpAny (model X.prog X.w) X.A (newFunctionEnv scope X.env.globals cl [] X.env.qual none .none (some X.env)) (fun cenv s₄ =>
        codeAny (model X.prog X.w) X.A (.compStart (.ListComp elt [⟨tg, iter, ifs, 0⟩] scope pos) 0 it acc { cenv with scope := relabel scope X.env }) (RR acc cenv.locals) s₄) X.xe s₃) X.xe s₂) X.xe s₁) X.xe s := by
  refine thn (hi pins s σ H _ I h) fun v s1 h1 => thn h1 fun itv s2 h2 => ?_
  obtain ⟨it, fp, tn, J, H2, e, I2, T, st2, f2, hD⟩ := h2
  subst e
  have hn2 : H2 s2.heap.objs.size = none := I2.hok.fresh (Nat.le_refl _)
  obtain ⟨W, ⟨m0, w0⟩, turn⟩ := hD s2.heap.objs.size hn2
  refine wpAny_newObj_type (wpAny_newFunctionEnv ck.cell (by intro y hy; simp at hy) (fun h4 hns hsb => ?_) ck.kind)
  dsimp only at hns hsb ⊢
  have I3 : Inv X pins σ (upd H2 s2.heap.objs.size (.lst [])) { s2 with heap := s2.heap.push { cls := .type "list", dict := none, data := .seq ([] : List Value).toArray } } :=
    I2.laid (t' := s2.toks) (fun b u e => Heap.get?_push_of_some _ e) (Nat.le_refl _) ⟨Nat.zero_le _, [], 0, .nil, Heap.get?_push_size _ rfl⟩
  have hfs : ∀ b ∈ fp, b < s2.heap.objs.size := fun b hb => by
    obtain ⟨o, e, _⟩ := T.obj 0 _ st2 b hb
    exact Heap.lt_size e
  have f3 : ∀ b ∈ fp, FpOk X pins (upd H2 s2.heap.objs.size (.lst [])) b := fun b hb => ⟨by rw [upd_ne (Nat.ne_of_lt (hfs b hb))]; exact (f2 b hb).1, (f2 b hb).2⟩
  generalize hH3 : upd H2 s2.heap.objs.size (.lst []) = H3 at *
  generalize hs3 : ({ s2 with heap := s2.heap.push { cls := .type "list", dict := none, data := .seq ([] : List Value).toArray } } : Shared) = s3 at *
  have z3 : s3.heap = s2.heap.push { cls := .type "list", dict := none, data := .seq ([] : List Value).toArray } := by rw [← hs3]
  have hsz3 : s3.heap.objs.size = s2.heap.objs.size + 1 := by rw [z3, Heap.size_push]
  rw [← z3] at hns hsb ⊢
  have hk4 : ∀ b o, s3.heap.get? b = some o → h4.get? b = some o := fun b o e => hsb.extBut b o (Nat.ne_of_lt (Heap.lt_size e)) (Heap.get?_push_of_some _ e)
  have hfs3 : ∀ b ∈ fp, b < s3.heap.objs.size := fun b hb => Nat.lt_of_lt_of_le (hfs b hb) (by rw [hsz3]; exact Nat.le_succ _)
  have hns' : h4.Ns s3.heap.objs.size fun _ => none := by simpa using hns
  have K0 := fun tk => comp_start (tk := tk) ck I3 f3 hfs3 hns' hk4
  have stat : ∀ {H' : Hp}, (∀ b ∈ fp, H' b = none) → ∀ b ∈ fp, FpOk (compCx X scope cl Nc s3.heap.objs.size s3 H3 fp pins) [] H' b := fun {H'} hn b hb => by
    obtain ⟨f0, g1, g2, g3, g4, g5⟩ := f3 b hb
    refine ⟨hn b hb, Nat.ne_of_lt (hfs3 b hb), fun z => ?_, .inl hb, fun x c e => g4 x c (ck.sub x c e), fun p hp => g5 p (by simpa using hp)⟩
    exact (List.mem_cons.mp (I3.stkSub b z)).elim g1 g2
  have st4 : tn 0 h4 := T.keep 0 _ _ st2 fun b hb o e => hk4 b o (by rw [z3]; exact Heap.get?_push_of_some _ e)
  have loop : ∀ tk, codeAny (model X.prog X.w) X.A (.compLoop (.ListComp elt [⟨tg, iter, ifs, 0⟩] scope pos) 0 (.ref it) (.ref s2.heap.objs.size) (compEnvC scope cl s3.heap.objs.size X.env)) (RR (.ref s2.heap.objs.size) s3.heap.objs.size) { s3 with heap := h4, toks := tk } := by
    intro tk
    refine comp_loop (fun n s' => ∃ i ys H', Inv (compCx X scope cl Nc s3.heap.objs.size s3 H3 fp pins) [] (σC nl fr σ) H' s' ∧ tn i s'.heap ∧ (∀ b ∈ fp, H' b = none) ∧ W i n ys H') ?_ m0 ⟨0, [], H3, K0 tk, st4, fun b hb => (f3 b hb).1, w0⟩
    rintro n s5 ⟨i, ys, H5, I5, st5, fr5, w5⟩
    obtain ⟨hl5, q5⟩ := turn i n ys H5 w5
    rcases q5 with ⟨stop, qn⟩ | ⟨go, step⟩
    · refine wpAny_mono (T.done (compCx X scope cl Nc s3.heap.objs.size s3 H3 fp pins) rfl rfl rfl hc i [] s5 (σC nl fr σ) H5 (fun _ _ => False) I5 (stat fr5) st5 stop) (fun r s6 h6 => ?_) fun _ _ z => z
      obtain ⟨hr, I6⟩ := h6
      subst hr
      obtain ⟨z1, z2⟩ := comp_end I3 f3 I6
      refine fin _ _ _ ⟨H5, ?_, z1, z2, qn⟩
      obtain ⟨m, hm, _⟩ := I6.loc
      exact ⟨m, hm⟩
    · refine wpAny_mono (T.item (compCx X scope cl Nc s3.heap.objs.size s3 H3 fp pins) rfl rfl rfl hc i [] s5 (σC nl fr σ) H5 (fun _ _ => False) I5 (stat fr5) st5 go) (fun r s6 h6 => ?_) fun _ _ z => z
      obtain ⟨u, hr, h6⟩ := h6
      subst hr
      refine wpAny_mono h6 (fun _ s7 h7 => ?_) fun _ _ z => z
      obtain ⟨x, H7, I7, r7, y7, st7, fr7⟩ := h7
      have I7' := I7.pinned (stat fr7) (T.obj _ _ st7)
      refine wpAny_mono (hg s3.heap.objs.size s3 H3 fp pins _ s7 _ H7 x u _ I7' r7 (step x H7 y7)) (fun _ s8 h8 => ?_) fun _ _ z => z
      obtain ⟨σ8, H8, I8, l8, k8, q8⟩ := h8
      refine wpAny_mono (ht s3.heap.objs.size s3 H3 fp pins _ s8 σ8 H8 _ I8 q8) (fun b s9 h9 => ?_) fun _ _ z => z
      obtain ⟨H9, I9, q9⟩ := h9
      have again : ∀ {ys' : List V} {H' : Hp} {s' : Shared} {m' : Nat}, Inv (compCx X scope cl Nc s3.heap.objs.size s3 H3 fp pins) ([] ++ pinsAt fp s7.heap) σ8 H' s' → m' < n → W (i + 1) m' ys' H' →
          ∃ m, m < n ∧ ∃ i ys H', Inv (compCx X scope cl Nc s3.heap.objs.size s3 H3 fp pins) [] (σC nl fr σ) H' s' ∧ tn i s'.heap ∧ (∀ b ∈ fp, H' b = none) ∧ W i m ys H' := fun {ys' H' s' m'} I' hm w' => by
        refine ⟨m', hm, i + 1, ys', H', I'.unpinned.weak l8.symm k8, T.keep _ _ _ st7 fun b hb o e => (I'.pin (b, o) (List.mem_append_right _ (List.mem_append_right _ (mem_pinsAt hb e)))).1, fun b hb => ?_, w'⟩
        obtain ⟨o, e, d⟩ := T.obj _ _ st7 b hb
        exact (I'.pin (b, o) (List.mem_append_right _ (List.mem_append_right _ (mem_pinsAt hb e)))).2.1
      cases b with
      | false =>
        rw [if_neg Bool.false_ne_true] at q9 ⊢
        obtain ⟨m', hm, w9⟩ := q9
        exact again I9 hm w9
      | true =>
        rw [if_pos rfl] at q9 ⊢
        refine wpAny_mono (he s3.heap.objs.size s3 H3 fp pins _ s9 σ8 H9 _ I9 q9) (fun yv s10 h10 => ?_) fun _ _ z => z
        obtain ⟨y, H10, I10, r10, hl10, hz10, m', hm, w10⟩ := h10
        refine wpAny_mono (mt_append (X := compCx X scope cl Nc s3.heap.objs.size s3 H3 fp pins) _ s10 σ8 H10 (.ref s2.heap.objs.size) [y] _ [yv] (fun v H' => H' = upd H10 s2.heap.objs.size (.lst (ys ++ [y]))) I10 rfl (.cons r10 .nil) ⟨_, ys, y, rfl, rfl, hl10, hz10, rfl⟩) (fun _ s11 h11 => ?_) fun _ _ z => z
        obtain ⟨_, H11, I11, _, e11⟩ := h11
        subst e11
        exact again I11 hm w10
  have L := loop (s2.toks + ([] : List (Str × Value)).length)
  rw [show s3.gens = s2.gens by rw [← hs3], show s3.drawn = s2.drawn by rw [← hs3], show s3.os = s2.os by rw [← hs3]] at L
  exact codeAny_compStart_list L (T.self _ 0 _ _ _ st4 L)
theorem pe_comp (hc : X.calm = true) (ck : CompOk X scope cl Nc nl fr) (hi : PI X tg iter wi)
    (hg : ∀ C s3 H3 fp pins, PG (compCx X scope cl Nc C s3 H3 fp pins) tg g) (ht : ∀ C s3 H3 fp pins, PIf (compCx X scope cl Nc C s3 H3 fp pins) ifs tt) (he : ∀ C s3 H3 fp pins, PE (compCx X scope cl Nc C s3 H3 fp pins) elt te)
    (hs : ∀ x, foldedSetIterable iter X.env x = pure x := by intro _; rfl) : PE X (.ListComp elt [⟨tg, iter, ifs, 0⟩] scope pos) (tComp wi nl fr g tt te) := by
  intro pins s σ H Q I h
  rw [eval_ListComp]
  refine wpAny_comprehension_free (use := none) rfl hs ck.clos ck.kind ck.names (comp_run (RR := fun acc C => compPost (model X.prog X.w) X.A X.xe none (EP X pins σ Q) acc C) hc ck hi hg ht he I h fun D C s' hh => ?_)
  obtain ⟨H', ⟨m, hm⟩, hI, hF, q⟩ := hh
  exact ⟨m, hm, fun h' hs' => ⟨.ref D, H', hI.off hF hs', rfl, q⟩⟩
theorem ps_setC {i : Nat} {y : Str} {py spos : Pos} (hN : X.N.Nodup) (hiy : X.N[i]? = some y) (hy : X.env.scope.names.lookup y = some .local) (hc : X.calm = true) (ck : CompOk X scope cl Nc nl fr) (hi : PI X tg iter wi)
    (hg : ∀ C s3 H3 fp pins, PG (compCx X scope cl Nc C s3 H3 fp pins) tg g) (ht : ∀ C s3 H3 fp pins, PIf (compCx X scope cl Nc C s3 H3 fp pins) ifs tt) (he : ∀ C s3 H3 fp pins, PE (compCx X scope cl Nc C s3 H3 fp pins) elt te)
    (hsw : swapsWith (.ListComp elt [⟨tg, iter, ifs, 0⟩] scope pos) (some (.Name y py)) spos.line X.env = pure true)
    (hs : ∀ x, foldedSetIterable iter X.env x = pure x := by intro _; rfl) : PS X (.Assign [.Name y py] (.ListComp elt [⟨tg, iter, ifs, 0⟩] scope pos) spos) (tAsg (tComp wi nl fr g tt te) (gName i)) := by
  intro pins s σ H D I h
  rw [exec_Assign_Name_used _ _ _ _ hsw]
  refine wpAny_bind (wpAny_standAt (wpAny_bind ?_))
  show wpAny _ X.A (do let _ ← comprehension (.ListComp elt [⟨tg, iter, ifs, 0⟩] scope pos) scope X.env _ (newList []) false (eval iter X.env) (some (assign (.Name y py) X.env))) _ _ s
  refine wpAny_bind (wpAny_mono (wpAny_comprehension_free (use := some (assign (.Name y py) X.env)) (Q := fun _ s' => SP X pins D .next s') rfl hs ck.clos ck.kind ck.names
    (comp_run (RR := fun acc C => compPost (model X.prog X.w) X.A X.xe (some (assign (.Name y py) X.env)) (fun _ s' => SP X pins D .next s') acc C) hc ck hi hg ht he I h fun Dd C s' hh => ?_)) (fun _ s' hq => wpAny_pure (wpAny_pure hq)) fun _ _ e => e)
  obtain ⟨H', ⟨m, hm⟩, hI, hF, q⟩ := hh
  show wpAny _ X.A (assign (.Name y py) X.env (.ref Dd)) _ _ _
  refine wpAny_assign_Name (store_ok2 hI hN hiy (.inl hy) (v := .ref Dd) rfl (fun s2 I2 hsb => ?_) (.inr hy))
  obtain ⟨a, sb, ha⟩ := hsb
  have hCa : C ≠ a := by
    rcases ha with z | z
    · rw [z]; exact hF.2.1
    · exact Ne.symm (hF.2.2.2.2.1 y a z)
  refine ⟨m, hm.sameBut sb hCa, fun h' hs' => ⟨_, H', I2.off hF hs', q⟩⟩
end
end L2

set_option maxHeartbeats 1000000
namespace Mq
abbrev Q2 := Int × Int
def gc (a b : Int) : Int := (Int.gcd a b : Nat)
theorem gc_step (a b : Int) : gc b (Int.fmod a b) = gc a b := by
  unfold gc
  rw [Int.fmod_def, Int.gcd_comm a b, Int.sub_eq_add_neg, ← Int.mul_neg, Int.gcd_add_mul_left_right]
theorem fmod_less {a b : Int} (h : b ≠ 0) : (Int.fmod a b).natAbs < b.natAbs := by
  rcases (by omega : 0 < b ∨ b < 0) with h1 | h1
  · have := Int.fmod_nonneg_of_pos a h1
    have := Int.fmod_lt_of_pos a h1
    omega
  · have h2 : 0 < -b := by omega
    have e : Int.fmod a b = - Int.fmod (-a) (-b) := by
      rw [Int.neg_fmod_neg]; omega
    have := Int.fmod_nonneg_of_pos (-a) h2
    have := Int.fmod_lt_of_pos (-a) h2
    omega
theorem gc_zero (a : Int) : gc a 0 = if a < 0 then -a else a := by
  unfold gc
  rw [Int.gcd_zero]
  split <;> omega
theorem gc_abs (a b : Int) : gc (if a < 0 then -a else a) (if b < 0 then -b else b) = gc a b := by
  unfold gc
  split <;> split <;> simp
theorem gc_pos {a b : Int} (h : b ≠ 0) : 0 < gc a b := by
  have := Int.gcd_pos_of_ne_zero_right a h
  unfold gc; omega
structure Low (p : Q2) : Prop where
  pos : 1 ≤ p.2
  one : gc p.1 p.2 = 1
def dvr (t b : Int) : Int := if b < 0 then -gc t b else gc t b
def red (t b : Int) : Q2 := (Int.fdiv t (dvr t b), Int.fdiv b (dvr t b))
theorem dvr_ne {t b : Int} (h : b ≠ 0) : dvr t b ≠ 0 := by
  have := gc_pos (a := t) h
  unfold dvr; split <;> omega
theorem fdiv_exact {a g k : Int} (hg : g ≠ 0) (h : a = g * k) : Int.fdiv a g = k := by
  rw [h, Int.mul_fdiv_cancel_left _ hg]
theorem dvr_dvd (t b : Int) : dvr t b ∣ t ∧ dvr t b ∣ b := by
  have h1 : gc t b ∣ t := Int.gcd_dvd_left t b
  have h2 : gc t b ∣ b := Int.gcd_dvd_right t b
  unfold dvr; split
  · exact ⟨Int.neg_dvd.mpr h1, Int.neg_dvd.mpr h2⟩
  · exact ⟨h1, h2⟩
theorem red_parts {t b : Int} (h : b ≠ 0) : t = dvr t b * (red t b).1 ∧ b = dvr t b * (red t b).2 := by
  obtain ⟨⟨x, hx⟩, ⟨y, hy⟩⟩ := dvr_dvd t b
  have hg := dvr_ne (t := t) h
  have e1 : (red t b).1 = x := fdiv_exact hg hx
  have e2 : (red t b).2 = y := fdiv_exact hg hy
  rw [e1, e2]; exact ⟨hx, hy⟩
theorem red_low {t b : Int} (h : b ≠ 0) : Low (red t b) := by
  obtain ⟨h1, h2⟩ := red_parts (t := t) h
  have hg := dvr_ne (t := t) h
  have hp := gc_pos (a := t) h
  have nd : (dvr t b).natAbs = (gc t b).natAbs := by unfold dvr; split <;> simp
  have e : Int.gcd t b = (dvr t b).natAbs * Int.gcd (red t b).1 (red t b).2 := by
    rw [← Int.gcd_mul_left, ← h1, ← h2]
  have e2 : (gc t b).natAbs = Int.gcd t b := by unfold gc; simp
  rw [nd, e2] at e
  have hp' : 0 < Int.gcd t b := by unfold gc at hp; omega
  have one : Int.gcd (red t b).1 (red t b).2 = 1 := by
    have : Int.gcd t b * Int.gcd (red t b).1 (red t b).2 = Int.gcd t b * 1 := by omega
    exact Nat.eq_of_mul_eq_mul_left hp' this
  refine ⟨?_, by unfold gc; rw [one]; rfl⟩
  have sgn : 0 < (red t b).2 := by
    by_cases hb : b < 0
    · have hd : dvr t b < 0 := by unfold dvr; rw [if_pos hb]; omega
      have hq : ¬ (red t b).2 ≤ 0 := fun q => by
        have := Int.mul_nonneg_of_nonpos_of_nonpos (Int.le_of_lt hd) q
        omega
      omega
    · have hd : 0 < dvr t b := by unfold dvr; rw [if_neg hb]; omega
      have hq : ¬ (red t b).2 ≤ 0 := fun q => by
        have := Int.mul_nonpos_of_nonneg_of_nonpos (Int.le_of_lt hd) q
        omega
      omega
  omega
theorem red_cross {t b : Int} (h : b ≠ 0) : (red t b).1 * b = t * (red t b).2 := by
  obtain ⟨h1, h2⟩ := red_parts (t := t) h
  generalize (red t b).1 = x at *
  generalize (red t b).2 = y at *
  generalize dvr t b = g at *
  subst h1 h2; grind
theorem natAbs_fdiv_le {a g k : Int} (hg : g ≠ 0) (h : a = g * k) : k.natAbs ≤ a.natAbs := by
  rw [h, Int.natAbs_mul]
  exact Nat.le_mul_of_pos_left _ (by omega)
theorem red_le {t b : Int} (h : b ≠ 0) : (red t b).1.natAbs ≤ t.natAbs ∧ (red t b).2.natAbs ≤ b.natAbs := by
  obtain ⟨h1, h2⟩ := red_parts (t := t) h
  exact ⟨natAbs_fdiv_le (dvr_ne h) h1, natAbs_fdiv_le (dvr_ne h) h2⟩
theorem dvr_le {t b : Int} (h : b ≠ 0) : (dvr t b).natAbs ≤ b.natAbs := by
  have e : (dvr t b).natAbs = Int.gcd t b := by unfold dvr gc; split <;> simp
  rw [e]; exact Int.gcd_le_natAbs_right t h
def B (n : Nat) (i : Int) : Prop := i.natAbs < 2 ^ n
structure Bd (n : Nat) (p : Q2) : Prop where
  a : B n p.1
  b : B n p.2
theorem B.mono {n m : Nat} {i : Int} (h : B n i) (l : n ≤ m) : B m i := Nat.lt_of_lt_of_le h (Nat.pow_le_pow_right (by decide) l)
theorem B.le {n : Nat} {i j : Int} (h : B n i) (l : j.natAbs ≤ i.natAbs) : B n j := Nat.lt_of_le_of_lt l h
theorem Bd.mono {n m : Nat} {p : Q2} (h : Bd n p) (l : n ≤ m) : Bd m p := ⟨h.a.mono l, h.b.mono l⟩
end Mq

set_option Elab.async false
set_option linter.all false
set_option maxRecDepth 100000
set_option maxHeartbeats 1000000
namespace L2
open PySem PySem.Spec PyProof.Rows
section
variable {X : Cx} {e st : Expr} {te ts : TE} {p2 pos : Pos}
end

structure FunD (K : PySem.W.Frag) (x qual : Str) (st : Stmt) (dV : Value) (f : Addr) (fd : FuncData) : Prop where
  ex : ∃ (oc : Value) (od : Option Addr) (kV doc pm : Value) (an : Option Addr) (cdv ct : Value) (osl : Array (Option Value)),
    fd = PySem.W.fnOf x qual (defArgs st) (defBody st) (defScope st) dV kV doc pm an cdv ct ∧ K.lookup f = some ⟨oc, od, .func fd, osl⟩ ∧ PySem.W.codeIn K cdv qual = true
  kp : PySem.W.keepIn K (.ref f) = true
section
variable {P : Program} {w : World} {K : PySem.W.Frag} {mg : Str → Option Value} {base : Heap} {CX : CXT}
theorem FunD.okX {x qual : Str} {st : Stmt} {dV : Value} {f : Addr} {fd : FuncData} {N ps : List Str} {k : Nat} {sp : Sp} (F : FunD K x qual st dV f fd) (S : FnScope N ps (defScope st)) (len : ∀ vs H Q E, sp vs H Q E → vs.length = ps.length)
    (hbody : ∀ (cdv : Value) (A : Around) (outer : List Env) (s : Shared) (H : Hp) (vs : List V) (Q : VK) (E : XK), Room k (A.deeper (envOfC qual (defScope st) s.heap.objs.size f cdv)) → sp vs H Q E →
      ∃ t, PSs (cxOf CX P w K mg base N qual (defScope st) f cdv A outer s H E) (defBody st) t ∧ t { nx := fun _ H' => Q .non H', rt := Q } (start N vs) H) : FnOk P w K mg base CX (k + 1) f fd ps sp := by
  obtain ⟨oc, od, kV, doc, pm, an, cdv, ct, osl, rfl, lk, hcd⟩ := F.ex
  exact fn_of lk hcd S len fun A outer s H vs Q E hr hsp => hbody cdv A outer s H vs Q E hr hsp
theorem FunD.ok {x qual : Str} {st : Stmt} {dV : Value} {f : Addr} {fd : FuncData} {N ps : List Str} {k : Nat} {sp : Sp} (F : FunD K x qual st dV f fd) (S : FnScope N ps (defScope st)) (len : ∀ vs H Q E, sp vs H Q E → vs.length = ps.length)
    (hbody : ∀ (cdv : Value) (A : Around) (outer : List Env) (s : Shared) (H : Hp) (vs : List V) (Q : VK) (E : XK), Room k (A.deeper (envOfC qual (defScope st) s.heap.objs.size f cdv)) → sp vs H Q E →
      ∃ t, PSs (cxOf CX P w K mg base N qual (defScope st) f cdv A outer s H E).nox (defBody st) t ∧ t { nx := fun _ H' => Q .non H', rt := Q } (start N vs) H) : FnOk P w K mg base CX (k + 1) f fd ps sp :=
  F.okX S len fun cdv A outer s H vs Q E hr hsp => by
    obtain ⟨t, h, q⟩ := hbody cdv A outer s H vs Q E hr hsp
    exact ⟨t, h.nox, q⟩
theorem FunD.binds {x qual : Str} {st : Stmt} {dV : Value} {f : Addr} {fd : FuncData} {ps : List Str} (F : FunD K x qual st dV f fd)
    (h : ∀ (kV doc pm : Value) (an : Option Addr) (cdv ct : Value) (us : List Value), us.length = ps.length → bindArgs (PySem.W.fnOf x qual (defArgs st) (defBody st) (defScope st) dV kV doc pm an cdv ct) ⟨us, []⟩ = pure (ps.zip us)) : Binds K fd ps [] := by
  obtain ⟨oc, od, kV, doc, pm, an, cdv, ct, osl, rfl, lk, hcd⟩ := F.ex
  exact .all (h kV doc pm an cdv ct)
theorem fund_mk {x qual : Str} {st : Stmt} {dV : Value} {f : Addr} {oc : Value} {od an : Option Addr} {osl : Array (Option Value)} {kV doc pm cdv ct : Value} (l : K.lookup f = some ⟨oc, od, .func (PySem.W.fnOf x qual (defArgs st) (defBody st) (defScope st) dV kV doc pm an cdv ct), osl⟩)
    (c : PySem.W.codeIn K cdv qual = true) (k : PySem.W.keepIn K (.ref f) = true) : FunD K x qual st dV f (PySem.W.fnOf x qual (defArgs st) (defBody st) (defScope st) dV kV doc pm an cdv ct) := ⟨⟨oc, od, kV, doc, pm, an, cdv, ct, osl, rfl, l, c⟩, k⟩
end

abbrev fT (p : Mq.Q2) : HO := .tup [.int p.1, .int p.2]
def Fq (K : PySem.W.Frag) (H : Hp) (a : Addr) (p : Mq.Q2) : Prop := SqT K H a [.int p.1, .int p.2]
theorem Same.seqT {K : PySem.W.Frag} {H H' : Hp} {a : Addr} {xs : List V} (e : Same H H') (h : SqT K H a xs) : SqT K H' a xs := by
  rcases h with (h | ⟨o, h⟩) | h
  · exact .inl (.inl (e _ _ h))
  · exact .inl (.inr ⟨o, e _ _ h⟩)
  · exact .inr h
theorem same_new {H : Hp} {p : Addr} (h : H p = none) (o : HO) : Same H (upd H p o) := fun b u q => by rw [upd_ne (ne_of_none q h)]; exact q
theorem Same.fq {K : PySem.W.Frag} {H H' : Hp} {a : Addr} {p : Mq.Q2} (e : Same H H') (h : Fq K H a p) : Fq K H' a p := e.seqT h
theorem Fq.of {K : PySem.W.Frag} {H : Hp} {a : Addr} {p : Mq.Q2} (h : H a = some (fT p)) : Fq K H a p := SqT.of h
theorem rd_ix0 {K : PySem.W.Frag} {σ : St} {H : Hp} {i : Nat} {a : Addr} {p : Mq.Q2} {Q : VK} (hv : σ[i]? = some (some (.ref a))) (h : Fq K H a p) (q : Q (.int p.1) H) : tOp (rIxT K) (tVar i) (tC (.int 0)) σ H Q :=
  ⟨_, hv, a, _, _, _, rfl, rfl, h, rfl, q⟩
theorem rd_ix1 {K : PySem.W.Frag} {σ : St} {H : Hp} {i : Nat} {a : Addr} {p : Mq.Q2} {Q : VK} (hv : σ[i]? = some (some (.ref a))) (h : Fq K H a p) (q : Q (.int p.2) H) : tOp (rIxT K) (tVar i) (tC (.int 1)) σ H Q :=
  ⟨_, hv, a, _, _, _, rfl, rfl, h, rfl, q⟩
theorem rd_mulB {H : Hp} {n m : Nat} {i j : Int} {Q : VK} (h1 : Mq.B n i) (h2 : Mq.B m j) (h3 : n ≤ 1048576) (h4 : m ≤ 1048576) (q : Q (.int (i * j)) H) : rI CBig (fun i j => .int (i * j)) (.int i) (.int j) H Q :=
  ⟨_, _, rfl, rfl, ⟨n, m, h1, h2, h3, h4⟩, q⟩
theorem rd_fdivB {H : Hp} {n : Nat} {i j : Int} {Q : VK} (h1 : j ≠ 0) (h2 : Mq.B n j) (h3 : n ≤ 9000) (q : Q (.int (i.fdiv j)) H) : rI CDivB (fun i j => .int (i.fdiv j)) (.int i) (.int j) H Q :=
  ⟨_, _, rfl, rfl, ⟨h1, n, h2, h3⟩, q⟩
structure Bl (mg : Str → Option Value) : Prop where
  isi : mg "isinstance" = none
  int : mg "int" = none
  bool : mg "bool" = none
  abs : mg "abs" = none
end L2

set_option Elab.async false
set_option linter.all false
namespace L2
open PySem PySem.Spec PyProof.Rows
def NotWhole (t : Value) : Prop := t = .type "bool" ∨ t = .type "str" ∨ t = .type "NoneType" ∨ t = .type "tuple" ∨ t = .type "list"
def spWhole (K : PySem.W.Frag) : Sp := fun vs H Q _ => ∃ x, vs = [x] ∧ ((∃ i, x = .int i ∧ Q (.bl true) H) ∨ (∃ t, TyOf K H x t ∧ NotWhole t ∧ Q (.bl false) H))
def spGc : Sp := fun vs H Q _ => ∃ a b : Int, vs = [.int a, .int b] ∧ Q (.int (Mq.gc a b)) H
def NewF (H : Hp) (Q : VK) (p : Mq.Q2) : Prop := ∀ a H', Same H H' → H' a = some (fT p) → Q (.ref a) H'
def spFrac : Sp := fun vs H Q _ => ∃ (t b : Int) (n : Nat), vs = [.int t, .int b] ∧ b ≠ 0 ∧ Mq.B n b ∧ n ≤ 9000 ∧ NewF H Q (Mq.red t b)
end L2

set_option Elab.async false
set_option linter.all false
set_option maxHeartbeats 1000000
namespace L2
open PySem PySem.Spec PyProof.Rows
theorem Fq.upd {K : PySem.W.Frag} {H : Hp} {a l : Addr} {p : Mq.Q2} {xs : List V} {o : HO} (h : Fq K H a p) (hl : H l = some (.lst xs)) : Fq K (L2.upd H l o) a p := by
  rcases h with (h | ⟨u, h⟩) | h
  · exact .inl (.inl (by rw [upd_ne (ne_of h hl (fun z => by cases z))]; exact h))
  · exact .inl (.inr ⟨u, by rw [upd_ne (ne_of h hl (fun z => by cases z))]; exact h⟩)
  · exact .inr h
theorem Same.change {H H' : Hp} {l : Addr} {o : HO} (s : Same H H') (h : H l = none) : Same H (L2.upd H' l o) := fun b u q => by
  rw [upd_ne (ne_of_none q h)]; exact s b u q
end L2

set_option Elab.async false
set_option linter.all false
set_option maxRecDepth 100000
set_option maxHeartbeats 2000000
namespace L2
open PySem PySem.Spec PyProof.Rows
abbrev CompT (nl : Nat) (fr : List Nat) (g : TG) (tt : TT) (te : TE) (σ : St) (D : Addr) (Pv : Nat → List V → Hp → Prop) (i : Nat) (ys : List V) (x : V) (H : Hp) : Prop :=
  g x (σC nl fr σ) H fun σ2 H4 => σ2.length = (σC nl fr σ).length ∧ (∀ (i : Nat) v, (σC nl fr σ)[i]? = some (some v) → σ2[i]? = some (some v)) ∧
    tt σ2 H4 fun b H5 => if b = true then te σ2 H5 fun y H6 => H6 D = some (.lst ys) ∧ ys.length < sizeLine ∧ Pv (i + 1) (ys ++ [y]) (upd H6 D (.lst (ys ++ [y]))) else Pv (i + 1) ys H5
section
variable {nl : Nat} {fr : List Nat} {g : TG} {tt : TT} {te : TE} {σ : St} {D : Addr} {H1 : Hp} {Q : VK}
theorem comp_range {lo : Int} {n : Nat} (Pv : Nat → List V → Hp → Prop) (h0 : Pv 0 [] (upd H1 D (.lst []))) (hl : ∀ i ys H, Pv i ys H → H D = some (.lst ys))
    (hs : ∀ i ys H, i < n → Pv i ys H → ∀ (C : Nat → List V → Hp → Prop), (∀ ys H, Pv (i + 1) ys H → C (i + 1) ys H) → CompT nl fr g tt te σ D C i ys (.int (lo + i)) H) (hd : ∀ ys H, Pv n ys H → Q (.ref D) H) :
    CompW (Itr lo n) nl fr g tt te σ D H1 Q := by
  refine ⟨fun i m ys H => m = n - i ∧ i ≤ n ∧ Pv i ys H, ⟨n, by simp, Nat.zero_le _, h0⟩, ?_⟩
  rintro i m ys H ⟨rfl, hi, p⟩
  refine ⟨hl i ys H p, ?_⟩
  by_cases hlt : i < n
  · refine .inr ⟨hlt, fun x H' y => ?_⟩
    obtain ⟨e, y⟩ := y
    subst e y
    exact hs i ys _ hlt p (fun j zs Hz => ∃ m', m' < n - i ∧ m' = n - j ∧ j ≤ n ∧ Pv j zs Hz) fun zs Hz z => ⟨n - (i + 1), by omega, rfl, hlt, z⟩
  · have e : i = n := by omega
    subst e
    exact .inl ⟨Nat.le_refl _, hd ys H p⟩
theorem comp_list {K : PySem.W.Frag} {a : Addr} {xs : List V} (Pv : Nat → List V → Hp → Prop) (h0 : Pv 0 [] (upd H1 D (.lst []))) (hl : ∀ i ys H, Pv i ys H → H D = some (.lst ys)) (hx : ∀ i ys H, i ≤ xs.length → Pv i ys H → SqL K H a xs)
    (hs : ∀ i ys x H, xs[i]? = some x → Pv i ys H → ∀ (C : Nat → List V → Hp → Prop), (∀ ys H, Pv (i + 1) ys H → C (i + 1) ys H) → CompT nl fr g tt te σ D C i ys x H) (hd : ∀ ys H, Pv xs.length ys H → Q (.ref D) H) :
    CompW (Itl K a) nl fr g tt te σ D H1 Q := by
  refine ⟨fun i m ys H => m = xs.length - i ∧ i ≤ xs.length ∧ Pv i ys H, ⟨xs.length, by simp, Nat.zero_le _, h0⟩, ?_⟩
  rintro i m ys H ⟨rfl, hi, p⟩
  refine ⟨hl i ys H p, ?_⟩
  have q := hx i ys H hi p
  by_cases hlt : i < xs.length
  · refine .inr ⟨⟨xs, xs[i], q, by simp [hlt]⟩, fun x H' y => ?_⟩
    obtain ⟨e, y⟩ := y
    subst e
    exact hs i ys x _ (y xs q) p (fun j zs Hz => ∃ m', m' < xs.length - i ∧ m' = xs.length - j ∧ j ≤ xs.length ∧ Pv j zs Hz) fun zs Hz z => ⟨xs.length - (i + 1), by omega, rfl, hlt, z⟩
  · have e : i = xs.length := by omega
    subst e
    exact .inl ⟨⟨xs, q, Nat.le_refl _⟩, hd ys H p⟩
end
theorem keep1 {fr : List Nat} {σ : St} {x : V} : ((σC 1 fr σ).set 0 (some x)).length = (σC 1 fr σ).length ∧ ∀ (i : Nat) v, (σC 1 fr σ)[i]? = some (some v) → ((σC 1 fr σ).set 0 (some x))[i]? = some (some v) := by
  refine ⟨by simp, fun i v h => ?_⟩
  match i with
  | 0 => unfold σC at h; simp at h
  | k + 1 => rw [List.getElem?_set_ne (by omega)]; exact h
theorem has_of {names : List (Str × NameKind)} {cl : List (Str × Addr)} (h : names.all (fun y => !(y.2 == .cell || y.2 == .free) || (cl.lookup y.1).isSome) = true) (x : Str) (hx : names.lookup x = some .cell ∨ names.lookup x = some .free) : ∃ c, cl.lookup x = some c := by
  have key : ∀ k, (k = NameKind.cell ∨ k = NameKind.free) → names.lookup x = some k → ∃ c, cl.lookup x = some c := fun k hk e => by
    have m := List.all_eq_true.mp h _ (PySem.mem_of_lookup e)
    have : (k == NameKind.cell || k == NameKind.free) = true := by rcases hk with rfl | rfl <;> rfl
    simp only [this, Bool.not_true, Bool.false_or] at m
    exact Option.isSome_iff_exists.mp m
  rcases hx with e | e
  · exact key _ (.inl rfl) e
  · exact key _ (.inr rfl) e
end L2

set_option Elab.async false
set_option linter.all false
set_option maxRecDepth 100000
set_option maxHeartbeats 2000000
namespace L2
open PySem PySem.Spec PyProof.Rows
section
variable {X : Cx} {pins : List (Addr × Obj)} {σ : St} {H : Hp} {s : Shared} {h' : Heap}
theorem Inv.turnedL {t' : Nat} {fp : List Addr} (I : Inv X pins σ H s) (k : ∀ b o, b ∉ fp → s.heap.get? b = some o → h'.get? b = some o) (hf : ∀ b ∈ fp, FpOk X pins H b) : Inv X pins σ H { s with heap := h', toks := t' } := by
  have nit : ∀ b u, H b = some u → b ∉ fp := fun b u e z => by rw [(hf b z).1] at e; cases e
  have nL : X.env.locals ∉ fp := fun z => (hf _ z).2.1 rfl
  refine I.step (g' := s.gens) (d' := s.drawn) (ch := fp) (fun b hb => ?_) (fun b o _ _ hc e _ => k b o hc e) (fun b o _ _ hc e _ => ⟨o.slots, k b o hc e⟩) (fun _ _ _ _ n => n)
    (fun b o hc e => ⟨o, k b o hc e⟩) (fun _ _ e => e) (fun _ _ _ e => e) (fun b ps e => ⟨#[], by rw [e]; simp⟩) (fun m hm => ?_) (fun b u e => ?_) I.bare
  · obtain ⟨f0, f1, f2, f3, f4, f5⟩ := hf b hb
    exact ⟨f3, f1, f4, f5⟩
  · obtain ⟨o, es, ep, ho, r⟩ := hm
    exact ⟨o, es, ep, k _ o nL ho, r⟩
  · refine (I.hok b u e).stay (fun c v hc q => k c v ?_ q) (fun _ q => q) fun _ _ q => q
    rcases hc with z | z
    · rw [z]; exact nit b u e
    · exact nit c _ z
end
section
variable {X : Cx}
end
end L2

set_option Elab.async false
set_option linter.all false
set_option maxRecDepth 100000
set_option maxHeartbeats 2000000
namespace L2
open PySem PySem.Spec PyProof.Rows
section
variable {X : Cx}
end
end L2

set_option Elab.async false
set_option linter.all false
set_option maxRecDepth 100000
set_option maxHeartbeats 1000000
namespace L2
open PySem PySem.Spec PyProof.Rows

section
variable {M : Model} {A : Around} {E : Value → Shared → Prop} {s : Shared}
end

section
variable {X : Cx} {pins : List (Addr × Obj)} {σ : List (Option V)} {H H' : Hp} {s : Shared} {h' : Heap}
end

section
variable {X : Cx} {pins : List (Addr × Obj)} {σ : List (Option V)} {H : Hp} {s s' : Shared} {E : XK} {e : Value}
end
end L2

set_option Elab.async false
set_option linter.all false
set_option maxRecDepth 100000
set_option maxHeartbeats 1000000
namespace L2
open PySem PySem.Spec PyProof.Rows

abbrev bmVE : List Value := [.type "ValueError", .type "Exception", .type "BaseException", .type "object"]
section
variable {X : Cx} {pins : List (Addr × Obj)} {σ : List (Option V)} {H : Hp} {s : Shared}
end

abbrev TEX := St → Hp → VK → XK → Prop
abbrev TSX := Ends → (St → XK) → St → Hp → Prop
section
variable {X : Cx} {k : Nat} {f C : Addr} {fd : FuncData} {ps : List Str} {sp : Sp} {dvs : List V} {ds : List Value} {x m : Str} {p pos apos : Pos} {e o : Expr} {es : List Expr} {ta : TE} {t : TA}
end

abbrev Cx.sup (X : Cx) (a : Addr) : Cx := { X with A := X.A.mark (some (.ref a)), calm := false, xe := fun _ _ => False }
section
variable {X : Cx} {pins : List (Addr × Obj)} {σ : List (Option V)} {H : Hp} {s : Shared} {a : Addr}
end

abbrev TH := Addr → Value → Option Addr → Ends → St → Hp → Prop
section
variable {X : Cx} {pos np : Pos} {T : Str} {tc : Value} {b₀ : Stmt} {suite : List Stmt} {rest : List ExceptHandler} {ts : TS} {tr : TH}
end

end L2

set_option Elab.async false
set_option linter.all false
set_option maxHeartbeats 1000000
namespace L2
open PySem PySem.Spec PyProof.Rows
section
variable {X : Cx}
end
end L2

set_option Elab.async false
set_option linter.all false
set_option maxRecDepth 100000
set_option maxHeartbeats 1000000
namespace L2
open PySem PySem.Spec PyProof.Rows

section
variable {prog : Program} {w : World} {A : Around} {E : Value → Shared → Prop} {s : Shared} {K : PySem.W.Frag} {x D : Addr} {ox : Obj} {odo : Option Obj} {name : Str}
end
section
variable {X : Cx}
end
end L2

set_option maxHeartbeats 1000000
namespace Mq
end Mq

set_option Elab.async false
set_option linter.all false
set_option maxHeartbeats 1000000
namespace L2
open PySem PySem.Spec PyProof.Rows
def spUnder (K : PySem.W.Frag) : Sp := fun vs H Q _ => ∃ (a b : Addr) (p q : Mq.Q2) (n m : Nat), vs = [.ref a, .ref b] ∧ Fq K H a p ∧ Fq K H b q ∧ Mq.Bd n p ∧ Mq.Bd m q ∧ n + m + 1 ≤ 9000 ∧ Q (.bl (decide (p.1 * q.2 < q.1 * p.2))) H
end L2

set_option Elab.async false
set_option linter.all false
set_option maxRecDepth 100000
set_option maxHeartbeats 2000000
namespace L2
open PySem PySem.Spec PyProof.Rows
inductive TyQ (K : PySem.W.Frag) (H : Hp) : V → Value → Prop where
  | of {x : V} {t : Value} (h : TyOf K H x t) : TyQ K H x t
  | tup {a : Addr} {xs : List V} (h : SqT K H a xs) : TyQ K H (.ref a) (.type "tuple")
  | lst {a : Addr} {xs : List V} (h : SqL K H a xs) : TyQ K H (.ref a) (.type "list")
section
variable {X : Cx} {pins : List (Addr × Obj)} {σ : St} {H : Hp} {s : Shared} {A : Around} {E : Value → Shared → Prop} {Q : Value → Shared → Prop} {c : Value} {b : Bool}
theorem isinst_okQ {x : V} {u t : Value} (I : Inv X pins σ H s) (rx : RelV x u) (ty : TyQ X.K H x t) (e : PySem.W.kitOne X.K t c = some b) (h : ∀ tk, Q (.bool b) { s with toks := tk }) :
    wpAny (model X.prog X.w) A (call (.builtin "isinstance") [u, c]) Q E s := by
  cases ty with
  | of ty => exact isinst_ok I rx ty e h
  | @tup a xs ht =>
    cases (show u = Value.ref a from rx)
    obtain ⟨its, _, p, _⟩ := I.tuple ht
    obtain ⟨o, h1, h2, _⟩ := p
    exact PySem.W.kia_one PySem.W.kitx_tuple I.kIn ⟨o, h1, h2⟩ e (fun z => nomatch z) h
  | @lst a xs ht =>
    cases (show u = Value.ref a from rx)
    obtain ⟨its, _, p, _⟩ := I.list ht
    obtain ⟨o, h1, h2, _⟩ := p.isList
    exact PySem.W.kia_one PySem.W.kitx_list I.kIn ⟨_, h1, h2⟩ e (fun z => nomatch z) h
end
section
variable {X : Cx}
theorem call_isiQ : CallR X (.builtin "isinstance") (fun xs H Q => ∃ x n t b, xs = [x, .ty n] ∧ TyQ X.K H x t ∧ PySem.W.kitOne X.K t (.type n) = some b ∧ Q (.bl b) H) := by
  intro pins s σ H vs us Q I rv h
  obtain ⟨x, n, t, b, rfl, ty, e, q⟩ := h
  obtain ⟨u, u2, rfl, r1, r2⟩ := vals2 rv
  cases (show u2 = Value.type n from r2)
  exact isinst_okQ I r1 ty e fun tk => ⟨.bl b, H, I.tok tk, rfl, q⟩
theorem pe_isiQ {i : Nat} {x T : Str} {T' : String} {p1 p2 p3 pos : Pos} (hN : X.N[i]? = some x) (hv : Vis X.env.scope x) (b : X.mg "isinstance" = none) (b2 : X.mg T = none) (g1 : Gl X "isinstance") (g2 : Gl X T) (hT : bootBuiltins T = some (.type T'))
    (hd : (x == ("__debug__" : Str)) = false := by decide) (hcd : (x == ("__classdict__" : Str)) = false := by decide) (hTn : T ≠ "__name__" := by decide) (hTd : (T == ("__debug__" : Str)) = false := by decide)
    (he : starEach [.Name x p2, .Name T p3] X.env = (false, eval (.Name x p2) X.env) :: starEach [.Name T p3] X.env := by rfl)
    (he2 : starEach [.Name T p3] X.env = (false, eval (.Name T p3) X.env) :: starEach [] X.env := by rfl) (hpl : (backTo pos (starEach [.Name T p3] X.env)).any (·.1) = false := by rfl) :
    PE X (.Call (.Name "isinstance" p1) [.Name x p2, .Name T p3] [] pos) (fun σ H Q => ∃ v t b, σ[i]? = some (some v) ∧ TyQ X.K H v t ∧ PySem.W.kitOne X.K t (.type T') = some b ∧ Q (.bl b) H) := by
  have h := pe_callB (X := X) (pos := pos) (p := p1) call_isiQ g1 b PyProof.Rows.boot_isinstance (pa_cons (pe_var (i := i) (pos := p2) hN hv hd hcd) (pa_cons (pe_bltn (v := .ty T') (pos := p3) g2 b2 hT rfl hTn hTd) pa_nil he2) he) (by decide) (by decide) he hpl
  intro pins s σ H Q I q
  obtain ⟨v, t, bb, h1, h2, h3, h4⟩ := q
  exact h pins s σ H Q I ⟨v, h1, v, T', t, bb, rfl, h2, h3, h4⟩
end
theorem SqT.upd {K : PySem.W.Frag} {H : Hp} {a l : Addr} {xs ys : List V} {o : HO} (h : SqT K H a xs) (hl : H l = some (.lst ys)) : SqT K (L2.upd H l o) a xs := by
  rcases h with (h | ⟨u, h⟩) | h
  · exact .inl (.inl (by rw [upd_ne (ne_of h hl (fun z => by cases z))]; exact h))
  · exact .inl (.inr ⟨u, by rw [upd_ne (ne_of h hl (fun z => by cases z))]; exact h⟩)
  · exact .inr h
theorem ints_dat {K : PySem.W.Frag} {H : Hp} : ∀ ns : List Int, DatVs K H (ns.map V.int) (ns.map PyData.int)
  | [] => .nil
  | n :: r => .cons (.int n) (ints_dat r)
theorem ints_lay : ∀ ns : List Int, PyData.canLayAll0 (ns.map PyData.int) = true
  | [] => rfl
  | n :: r => by
    show ((PyData.int n).canLay0 && PyData.canLayAll0 (r.map PyData.int)) = true
    rw [ints_lay r]; rfl
theorem cut_ints (ns : List Int) (lo hi : Option Int) : ∃ ms : List Int, cutV (ns.map V.int) lo hi = ms.map V.int ∧ ms.length ≤ ns.length := by
  refine ⟨(ns.drop (HT.sIx (ns.map V.int).length 0 lo)).take (HT.sIx (ns.map V.int).length (ns.map V.int).length hi - HT.sIx (ns.map V.int).length 0 lo), ?_, ?_⟩
  · unfold cutV; rw [List.map_take, List.map_drop]
  · rw [List.length_take, List.length_drop]; omega
theorem rd_eqNil {K : PySem.W.Frag} {H : Hp} {a b : Addr} {ns : List Int} {neg : Bool} {Q : VK} (h1 : SqL K H a (ns.map V.int)) (h2 : SqL K H b []) (z : Q (.bl (if neg then !ns.isEmpty else ns.isEmpty)) H) : rDat K neg (.ref a) (.ref b) H Q := by
  refine ⟨_, _, .lst h1 (ints_dat ns), .lst h2 .nil, ints_lay ns, rfl, ?_, ?_⟩
  · have : (PyData.list []).depth ≤ 1 := by decide
    omega
  · cases ns <;> exact z
theorem keep2 {fr : List Nat} {σ : St} {x y : V} : (((σC 2 fr σ).set 0 (some x)).set 1 (some y)).length = (σC 2 fr σ).length ∧ ∀ (i : Nat) v, (σC 2 fr σ)[i]? = some (some v) → (((σC 2 fr σ).set 0 (some x)).set 1 (some y))[i]? = some (some v) := by
  refine ⟨by simp, fun i v h => ?_⟩
  match i with
  | 0 => unfold σC at h; simp at h
  | 1 => unfold σC at h; simp at h
  | k + 2 => rw [List.getElem?_set_ne (by omega), List.getElem?_set_ne (by omega)]; exact h
theorem B_of {n : Nat} {i : Int} (lo : -(2 ^ n : Int) < i) (hi : i < 2 ^ n) : Mq.B n i := by
  unfold Mq.B
  have e : ((2 ^ n : Nat) : Int) = 2 ^ n := by simp
  omega
theorem pa_ints (X : Cx) : ∀ l : List (Int × _ × Pos), PA X (l.map fun q => Expr.Constant (.int q.1) q.2.1 q.2.2) (fun _ H Q => Q (l.map fun q => V.int q.1) H)
  | [] => pa_nil
  | q :: l => pa_cons (te := tC (.int q.1)) pe_int (pa_ints X l) rfl
end L2

set_option Elab.async false
set_option linter.all false
set_option maxRecDepth 100000
set_option maxHeartbeats 2000000
namespace L2
open PySem PySem.Spec PyProof.Rows
section
variable {X : Cx} {tg : Expr}
def rAll (K : PySem.W.Frag) : List V → Hp → VK → Prop := fun xs H Q => ∃ (p : Addr) (bs : List Bool), xs = [.ref p] ∧ SqL K H p (bs.map V.bl) ∧ Q (.bl (bs.all id)) H
theorem call_all (hc : X.calm = true) : CallR X (.builtin "all") (rAll X.K) := by
  intro pins s σ H xs us Q I r h
  obtain ⟨p, bs, rfl, hq, q⟩ := h
  obtain ⟨u, rfl, rx⟩ := vals1 r
  cases rx
  obtain ⟨its, rv, pl, hz⟩ := I.list hq
  have hlen : its.toArray.size = bs.length := by rw [List.size_toArray, ← rv.length, List.length_map]
  have hne : p ≠ s.heap.objs.size := by
    obtain ⟨o, e, _⟩ := pl.isList
    exact Nat.ne_of_lt (Heap.lt_size e)
  refine call_all_walk (wpAny_pyIter_list pl.isList ?_)
  refine ⟨s.heap.objs.size, _, _, _, _, _, fun i => bs.getD i false, rfl, Walks.list (by exact I.ok.hd hc) s.heap.objs.size p hne its.toArray, ⟨⟨_, Heap.get?_push_size _ rfl, rfl, rfl⟩, ?_⟩, ?_, ?_⟩
  · obtain ⟨o, e, c⟩ := pl.isList
    exact ⟨o, Heap.get?_push_of_some _ e, c⟩
  · intro i v s' Q' E' hv q'
    have hv' : its[i]? = some v := by simpa using hv
    have hi : i < its.length := (List.getElem?_eq_some_iff.mp hv').1
    have hb : (bs.map V.bl)[i]? = some (.bl (bs.getD i false)) := by
      rw [List.getElem?_map, List.getElem?_eq_getElem (by rw [← hlen]; simpa using hi)]
      simp [List.getD, List.getElem?_eq_getElem (show i < bs.length by rw [← hlen]; simpa using hi)]
    obtain ⟨u, hu, ru⟩ := rv.get hb
    have e : u = v := by rw [hv'] at hu; cases hu; rfl
    subst e
    cases ru
    exact wpAny_truthy_bool q'
  · intro h' tk kk
    have e : (List.range its.toArray.size).all (fun i => bs.getD i false) = bs.all id := by
      rw [hlen, Bool.eq_iff_iff, List.all_eq_true, List.all_eq_true]
      constructor
      · intro z b hb
        obtain ⟨i, hi, rfl⟩ := List.getElem_of_mem hb
        have := z i (List.mem_range.mpr hi)
        simpa [List.getD, List.getElem?_eq_getElem hi] using this
      · intro z i hi
        have hi' := List.mem_range.mp hi
        have := z bs[i] (List.getElem_mem hi')
        simpa [List.getD, List.getElem?_eq_getElem hi'] using this
    rw [e]
    refine ⟨.bl _, H, I.kept (t' := tk) fun b o hb => ?_, rfl, q⟩
    have hb2 : b ≠ s.heap.objs.size := Nat.ne_of_lt (Heap.lt_size hb)
    exact kk b o (by simpa using hb2) (Heap.get?_push_of_some _ hb)
end
end L2

set_option Elab.async false
set_option linter.all false
set_option maxRecDepth 100000
set_option maxHeartbeats 2000000
namespace L2
open PySem PySem.Spec PyProof.Rows
section
variable {X : Cx}
end
def tMethD {ι : Type} (C : ι → Addr) (m : Str) (sp : ι → Sp) (dvs : List V) (E : XK) (ta : TE) (t : TA) : TE := fun σ H Q => ta σ H fun x H1 => ∃ i a dx fs, x = .ref a ∧ H1 a = some (.ins (C i) dx fs) ∧ fs.lookup m = none ∧
  t σ H1 fun vs H2 => sp i (x :: (vs ++ dvs)) H2 Q E
section
variable {X : Cx} {ι : Type} {C f : ι → Addr} {fd : ι → FuncData} {sp : ι → Sp} {m : Str} {CX : CXT} {k : Nat} {ps : List Str} {ds : List Value} {dvs : List V} {E : XK} {o e : Expr} {es : List Expr} {ta : TE} {t : TA} {apos pos : Pos}
theorem pe_methD0 {pl : Sem Bool} (he : PE X o ta) (c : ∀ i, Cls X.K (C i)) (hm : ∀ i, Meth X.K (C i) m (f i)) (F : ∀ i, FnOk X.prog X.w X.K X.mg X.base CX k (f i) (fd i) ps (sp i)) (hr : Room k X.A) (hb : ∀ i, Binds X.K (fd i) ps ds) (hd : Vals dvs ds) (hx : Passes CX X E)
    (ht : eval (.Call (.Attribute o m apos) [] [] pos) X.env = (do
      let ov ← eval o X.env
      standAt apos.atName
      let (f, first) ← holding [ov] (getMethod ov m pl)
      callWith pos f first (backTo pos (starEach [] X.env)) (backToKw pos (keywordEach [] X.env))) := by rfl) :
    PE X (.Call (.Attribute o m apos) [] [] pos) (tMethD C m sp dvs E ta tNil) := by
  intro pins s σ H Q I h
  refine PySem.W.methodCall_KW (pl := pl) (thn (he pins s σ H _ I h) fun u s1 ⟨x, H1, I1, rx, i, a, dx, fs, ex, ea, l, q⟩ => ?_) ht
  subst ex
  obtain rfl : u = Value.ref a := rx
  refine getmeth_ok I1 ea (c i) (hm i) l ?_
  exact PySem.W.callWith_K0 (first := [.ref a]) I1.kIn (hm i).kp (run_fn (us := [.ref a]) (vs := [.ref a]) (F i) hr (hb i) hd hx I1 (.cons rfl .nil) q)
end
inductive Kd where
  | pc | pu | ho
  deriving DecidableEq
def Kd.wd : Kd → Str
  | .pc => "piece"
  | .pu => "push"
  | .ho => "hold"
def Kd.cn : Kd → Str
  | .pc => "Piece"
  | .pu => "Push"
  | .ho => "Hold"
theorem Kd.wd_inj {k j : Kd} (h : k.wd = j.wd) : k = j := by
  cases k <;> cases j <;> first | rfl | exact absurd h (by decide +kernel)
theorem fsg : ¬ (("start" : Str) = "goal") := by decide +kernel
theorem fsz : ¬ (("start" : Str) = "size") := by decide +kernel
theorem fgz : ¬ (("goal" : Str) = "size") := by decide +kernel
def rflds (s g z : V) : List (Str × V) := putF "size" z (putF "goal" g (putF "start" s []))
theorem rflds_start (s g z : V) : (rflds s g z).lookup ("start" : Str) = some s := by
  unfold rflds
  rw [lookup_putF, if_neg fsz, lookup_putF, if_neg fsg, lookup_putF, if_pos rfl]
theorem rflds_goal (s g z : V) : (rflds s g z).lookup ("goal" : Str) = some g := by
  unfold rflds
  rw [lookup_putF, if_neg fgz, lookup_putF, if_pos rfl]
theorem rflds_size (s g z : V) : (rflds s g z).lookup ("size" : Str) = some z := by
  unfold rflds
  rw [lookup_putF, if_pos rfl]
theorem rflds_no (s g z : V) {m : Str} (h1 : ¬ m = "start") (h2 : ¬ m = "goal") (h3 : ¬ m = "size") : (rflds s g z).lookup m = none := by
  unfold rflds
  rw [lookup_putF, if_neg h3, lookup_putF, if_neg h2, lookup_putF, if_neg h1]
  rfl
def Rw (CK : Kd → Addr) (H : Hp) (x : Addr) (k : Kd) (s g z : V) : Prop := ∃ dx, H x = some (.ins (CK k) dx (rflds s g z))
theorem Rw.same {CK : Kd → Addr} {H H' : Hp} {x : Addr} {k : Kd} {s g z : V} (e : Same H H') (h : Rw CK H x k s g z) : Rw CK H' x k s g z := let ⟨dx, q⟩ := h; ⟨dx, e _ _ q⟩
structure RT (K : PySem.W.Frag) (mg : Str → Option Value) (CR : Addr) (CK : Kd → Addr) : Prop where
  cl : ∀ k, Cls K (CK k)
  nS : ∀ k, NoAttr K (CK k) "start"
  nG : ∀ k, NoAttr K (CK k) "goal"
  nZ : ∀ k, NoAttr K (CK k) "size"
  t1 : ∀ k, PySem.W.findIn K (.ref (CK k)) "__class__" = some (some (.builtin "object.__class__"))
  t2 : PySem.W.specialIn K (.builtin "object.__class__") "__get__" = some (some (.builtin "getset_descriptor.__get__"))
  t3 : PySem.W.takesIn K (.builtin "object.__class__") = some true
  t4 : ∀ k, PySem.W.mroIn K (CK k) (.type "object") = some true
  isR : ∀ k, PySem.W.kitOne K (.ref (CK k)) (.ref CR) = some true
  isK : ∀ k j, PySem.W.kitOne K (.ref (CK k)) (.ref (CK j)) = some (decide (k = j))
  mR : mg "Row" = some (.ref CR)
  mK : ∀ k, mg (Kd.cn k) = some (.ref (CK k))
section
variable {K : PySem.W.Frag} {mg : Str → Option Value} {CR : Addr} {CK : Kd → Addr} {H : Hp} {x : Addr} {k : Kd} {s g z : V}
theorem Rw.new {C x dx : Addr} {fs : List (Str × V)} (h1 : H x = none) (h2 : H dx = none) (ne : dx ≠ x) : Same H (L2.upd (L2.upd H dx (.own x)) x (.ins C dx fs)) := fun b o e => by
  rw [upd_ne (ne_of_none e h1), upd_ne (ne_of_none e h2)]; exact e
end
def spRInit (CK : Kd → Addr) : Sp := fun vs H Q _ => ∃ (x dx : Addr) (k : Kd) (s g z : V), vs = [.ref x, s, g, z] ∧ H x = some (.ins (CK k) dx []) ∧ Q .non (upd H x (.ins (CK k) dx (rflds s g z)))
def spWord (k : Kd) : Sp := fun vs H Q _ => ∃ x, vs = [x] ∧ Q (.str k.wd) H
def spRTold (CK : Kd → Addr) : Sp := fun vs H Q _ => ∃ (x : Addr) (k : Kd) (s g z : V), vs = [.ref x] ∧ Rw CK H x k s g z ∧ ∀ t, H t = none → Q (.ref t) (upd H t (.tup [.str k.wd, s, g, z]))
def NewR (CK : Kd → Addr) (H : Hp) (Q : VK) (k : Kd) (s g z : V) : Prop := ∀ x H', Same H H' → H x = none → Rw CK H' x k s g z → Q (.ref x) H'
end L2
namespace L2
open PySem PySem.Spec PyProof.Rows
theorem rd_eqS {K : PySem.W.Frag} {H : Hp} {x y : V} {d : PyData} {neg : Bool} {Q : VK} (h1 : DatV K H x d) (h2 : DatV K H y d) (hl : d.canLay0 = true) (hd : d.depth ≤ 16) (z : Q (.bl (!neg)) H) : rDat K neg x y H Q := by
  refine ⟨d, d, h1, h2, hl, hl, by omega, ?_⟩
  have e : PyData.eqv d d = true := PySem.SeqAt.eqv_refl _ hl
  rw [e]
  cases neg <;> exact z
theorem ifT {c : Bool} {A B : Prop} (h : c = true) (x : A) : if c = true then A else B := by rw [if_pos h]; exact x
theorem ifF {c : Bool} {A B : Prop} (h : c = false) (x : B) : if c = true then A else B := by rw [if_neg (by rw [h]; decide)]; exact x
theorem dec_wd (k j : Kd) : decide (V.str k.wd = V.str j.wd) = decide (k = j) := by
  by_cases h : k = j
  · subst h; simp
  · rw [decide_eq_false h]
    exact decide_eq_false fun z => h (Kd.wd_inj (V.str.inj z))
end L2
namespace L2
open PySem PySem.Spec PyProof.Rows
end L2
namespace L2
theorem all3 {p : Kd → Prop} (a : p .pc) (b : p .pu) (c : p .ho) : ∀ k, p k := fun k => by cases k <;> assumption
theorem kit_self (K : PySem.W.Frag) (t : PySem.Value) : PySem.W.kitOne K t t = some true := by unfold PySem.W.kitOne; rw [if_pos (beq_self_eq_true _)]
def kd3 {α : Type} (a b c : α) : Kd → α
  | .pc => a
  | .pu => b
  | .ho => c
end L2

set_option maxHeartbeats 1000000
namespace Mq
end Mq

set_option Elab.async false
set_option linter.all false
set_option maxRecDepth 100000
namespace L2
open PySem PySem.Spec PyProof.Rows

section
variable {κ : Type} [DecidableEq κ]
end


abbrev KT (H : Hp) : List (List Key × V) → List (List Key × Addr × Value) → Prop := Paired fun p q => p.1 = q.1 ∧ H q.2.1 = some (.tup (p.1.map kV)) ∧ RelV p.2 q.2.2
section
variable {P : Program} {w : World} {H : Hp} {h : Heap} {a : Addr}
end

section
variable {X : Cx} {pins : List (Addr × Obj)} {σ : St} {H : Hp} {s : Shared} {a : Addr} {y v : V} {u r : Value} {o : Option V} {A : Around} {E : Value → Shared → Prop}

end

section
variable {X : Cx} {pins : List (Addr × Obj)} {σ : St} {H : Hp} {s : Shared} {a : Addr} {kvs : List (Key × V)} {k : Key} {u : Value} {A : Around} {E : Value → Shared → Prop}
end


section
variable {X : Cx} {o i e value : Expr} {pos pos' tpos : Pos} {td ty tv : TE}
end


section
variable {X : Cx} {pos : Pos}
end

abbrev VV : List (V × V) → List (Value × Value) → Prop := Paired fun p q => RelV p.1 q.1 ∧ RelV p.2 q.2
section
variable {X : Cx} {pins : List (Addr × Obj)} {σ : St} {H : Hp} {s : Shared} {a : Addr} {y d : V} {u r : Value} {o : Option V} {A : Around} {E : Value → Shared → Prop}
end

section
variable {X : Cx} {o e f : Expr} {apos cpos : Pos} {td ty tx : TE}
end

section
variable {X : Cx} {pins : List (Addr × Obj)} {σ : St} {H : Hp} {s : Shared} {a : Addr} {kvs : List (Key × V)} {A : Around} {E : Value → Shared → Prop}
end


section
variable {X : Cx} {pins : List (Addr × Obj)} {σ : St} {H : Hp} {s : Shared} {a : Addr} {y : V} {u : Value} {A : Around} {E : Value → Shared → Prop}
end
end L2

namespace L2
open PySem PySem.Spec PyProof.Rows
section
variable {X : Cx}
end
section
variable {κ : Type} [DecidableEq κ]
end
end L2

set_option Elab.async false
set_option linter.all false
set_option maxRecDepth 100000
set_option maxHeartbeats 2000000
namespace Mq
end Mq
namespace L2
open PySem PySem.Spec PyProof.Rows
theorem ints_depth : ∀ ns : List Int, PyData.depthAll (ns.map PyData.int) ≤ 1
  | [] => by simp [PyData.depthAll]
  | n :: r => by
    have b := ints_depth r
    simp only [List.map_cons, PyData.depthAll, PyData.depth]
    omega
theorem Fq.mod {K : PySem.W.Frag} {a : Addr} {d : Option Addr} {n : Nat} {sl : Array (Option Value)} {i j : Int} {t u : Tok} (l : K.lookup a = some ⟨.type "tuple", d, .seq #[.int i t, .int j u] n, sl⟩) (H : Hp) : Fq K H a (i, j) :=
  .inr ⟨_, _, _, l, rfl, rfl, (by show 2 ≤ sizeLine; decide), .cons ⟨_, rfl⟩ (.cons ⟨_, rfl⟩ .nil)⟩
end L2

set_option Elab.async false
set_option linter.all false
set_option maxRecDepth 100000
set_option maxHeartbeats 2000000
namespace L2
open PySem PySem.Spec PyProof.Rows
abbrev RD := Kd × Int × Int × Mq.Q2
inductive Rts (K : PySem.W.Frag) (H : Hp) : List V → List RD → Prop where
  | nil : Rts K H [] []
  | cons {t z : Addr} {k : Kd} {i j : Int} {p : Mq.Q2} {xs : List V} {ds : List RD} (h : SqT K H t [.str k.wd, .int i, .int j, .ref z]) (f : Fq K H z p) (q : Rts K H xs ds) : Rts K H (.ref t :: xs) ((k, i, j, p) :: ds)
section
variable {K : PySem.W.Frag} {H H' : Hp}
theorem Rts.same (e : Same H H') : ∀ {xs : List V} {ds : List RD}, Rts K H xs ds → Rts K H' xs ds
  | _, _, .nil => .nil
  | _, _, .cons h f q => .cons (e.seqT h) (e.fq f) (Rts.same e q)
theorem Rts.length : ∀ {xs : List V} {ds : List RD}, Rts K H xs ds → xs.length = ds.length
  | _, _, .nil => rfl
  | _, _, .cons _ _ q => by simp [Rts.length q]
theorem Rts.app : ∀ {xs ys : List V} {ds es : List RD}, Rts K H xs ds → Rts K H ys es → Rts K H (xs ++ ys) (ds ++ es)
  | _, _, _, _, .nil, r => r
  | _, _, _, _, .cons h f q, r => .cons h f (Rts.app q r)
theorem Rts.at : ∀ {xs : List V} {ds : List RD} {q : Nat} {d : RD}, Rts K H xs ds → ds[q]? = some d → ∃ t z, xs[q]? = some (.ref t) ∧ SqT K H t [.str d.1.wd, .int d.2.1, .int d.2.2.1, .ref z] ∧ Fq K H z d.2.2.2
  | _, _, _, _, .nil, h => by simp at h
  | _, _, 0, _, .cons h f _, e => by simp at e; subst e; exact ⟨_, _, rfl, h, f⟩
  | _, _, i + 1, _, .cons _ _ q, e => by simpa using Rts.at q (by simpa using e)
theorem Rts.upd {l : Addr} {ys : List V} {o : HO} (hl : H l = some (.lst ys)) : ∀ {xs : List V} {ds : List RD}, Rts K H xs ds → Rts K (L2.upd H l o) xs ds
  | _, _, .nil => .nil
  | _, _, .cons h f q => .cons (h.upd hl) (f.upd hl) (Rts.upd hl q)
end
def SameX (l : Addr) (H H' : Hp) : Prop := ∀ b o, H b = some o → b ≠ l → H' b = some o
theorem Same.x {l : Addr} {H H' : Hp} (s : Same H H') : SameX l H H' := fun b o h _ => s b o h
theorem SameX.write {l : Addr} {H H1 : Hp} {o : HO} (a : SameX l H H1) : SameX l H (upd H1 l o) := fun c u h n => by rw [upd_ne n]; exact a c u h n
section
variable {K : PySem.W.Frag} {H H' : Hp} {l : Addr}
theorem SameX.seqT {a : Addr} {xs ys : List V} (hl : H l = some (.lst ys)) (e : SameX l H H') (h : SqT K H a xs) : SqT K H' a xs := by
  rcases h with (h | ⟨u, h⟩) | h
  · exact .inl (.inl (e _ _ h (ne_of h hl (fun z => by cases z))))
  · exact .inl (.inr ⟨u, e _ _ h (ne_of h hl (fun z => by cases z))⟩)
  · exact .inr h
theorem SameX.rts {ys : List V} (hl : H l = some (.lst ys)) (e : SameX l H H') : ∀ {xs : List V} {ds : List RD}, Rts K H xs ds → Rts K H' xs ds
  | _, _, .nil => .nil
  | _, _, .cons h f q => .cons (e.seqT hl h) (e.seqT hl f) (SameX.rts hl e q)
end
theorem fpk : ¬ (("point_count" : Str) = "kept") := by decide +kernel
def nflds (m : Int) (l : Addr) : List (Str × V) := putF "kept" (.ref l) (putF "point_count" (.int m) [])
theorem nflds_pc (m : Int) (l : Addr) : (nflds m l).lookup ("point_count" : Str) = some (.int m) := by
  unfold nflds
  rw [lookup_putF, if_neg fpk, lookup_putF, if_pos rfl]
theorem nflds_kept (m : Int) (l : Addr) : (nflds m l).lookup ("kept" : Str) = some (.ref l) := by
  unfold nflds
  rw [lookup_putF, if_pos rfl]
theorem nflds_no (m : Int) (l : Addr) {x : Str} (h1 : ¬ x = "point_count") (h2 : ¬ x = "kept") : (nflds m l).lookup x = none := by
  unfold nflds
  rw [lookup_putF, if_neg h2, lookup_putF, if_neg h1]
  rfl
def RdOk (m : Int) (d : RD) : Prop := 0 ≤ d.2.1 ∧ d.2.1 < m ∧ 0 ≤ d.2.2.1 ∧ d.2.2.1 < m ∧ Mq.Low d.2.2.2 ∧ (d.1 = .pc → 0 < d.2.2.2.1) ∧ Mq.Bd 100 d.2.2.2
structure NetAt (CN : Addr) (K : PySem.W.Frag) (H : Hp) (n l : Addr) (m : Int) (ds : List RD) : Prop where
  ob : ∃ dx, H n = some (.ins CN dx (nflds m l))
  ls : ∃ ts, H l = some (.lst ts) ∧ Rts K H ts ds
theorem NetAt.same {CN : Addr} {K : PySem.W.Frag} {H H' : Hp} {n l : Addr} {m : Int} {ds : List RD} (e : Same H H') (h : NetAt CN K H n l m ds) : NetAt CN K H' n l m ds :=
  let ⟨⟨dx, a⟩, ts, b, c⟩ := h; ⟨⟨dx, e _ _ a⟩, ts, e _ _ b, c.same e⟩
theorem NetAt.x {CN : Addr} {K : PySem.W.Frag} {H H' : Hp} {n l q : Addr} {m : Int} {ds : List RD} {ys : List V} (hq : H q = some (.lst ys)) (e : SameX q H H') (ne : l ≠ q) (h : NetAt CN K H n l m ds) : NetAt CN K H' n l m ds :=
  let ⟨⟨dx, a⟩, ts, b, c⟩ := h; ⟨⟨dx, e _ _ a (ne_of a hq (fun z => by cases z))⟩, ts, e _ _ b ne, e.rts hq c⟩
structure NT (K : PySem.W.Frag) (mg : Str → Option Value) (CN : Addr) : Prop where
  cl : Cls K CN
  nP : NoAttr K CN "point_count"
  nK : NoAttr K CN "kept"
  t1 : PySem.W.findIn K (.ref CN) "__class__" = some (some (.builtin "object.__class__"))
  t2 : PySem.W.specialIn K (.builtin "object.__class__") "__get__" = some (some (.builtin "getset_descriptor.__get__"))
  t3 : PySem.W.takesIn K (.builtin "object.__class__") = some true
  t4 : PySem.W.mroIn K CN (.type "object") = some true
  mN : mg "Net" = some (.ref CN)
def spRowOfG (K : PySem.W.Frag) (CK : Kd → Addr) : Sp := fun vs H Q _ => ∃ (t : Addr) (v s g z : V), vs = [.ref t] ∧ SqT K H t [v, s, g, z] ∧ ∃ k : Kd, v = .str k.wd ∧ NewR CK H Q k s g z
def spIsF (K : PySem.W.Frag) : Sp := fun vs H Q _ => ∃ (a : Addr) (p : Mq.Q2), vs = [.ref a] ∧ Fq K H a p ∧ Mq.Low p ∧ Q (.bl true) H
def spPS (K : PySem.W.Frag) : Sp := fun vs H Q _ => ∃ (a : Addr) (p : Mq.Q2) (n : Nat), vs = [.ref a] ∧ Fq K H a p ∧ Mq.Low p ∧ 0 < p.1 ∧ Mq.Bd n p ∧ n ≤ 8000 ∧ Q (.bl true) H
def spNB : Sp := fun vs H Q _ => ∃ i b : Int, vs = [.int i, .int b] ∧ 0 ≤ i ∧ i < b ∧ Q (.bl true) H
def spRS (K : PySem.W.Frag) : Sp := fun vs H Q _ => ∃ (k : Kd) (z : Addr) (p : Mq.Q2), vs = [.str k.wd, .ref z] ∧ Fq K H z p ∧ Mq.Low p ∧ (k = .pc → 0 < p.1) ∧ Mq.Bd 100 p ∧ Q .non H
def spNInit (CN : Addr) : Sp := fun vs H Q _ => ∃ (n dx : Addr) (m : Int), vs = [.ref n, .int m] ∧ H n = some (.ins CN dx []) ∧ 1 ≤ m ∧ m ≤ 20 ∧ ∀ l H', H l = none → (∀ b o, H b = some o → b ≠ n → H' b = some o) → H' n = some (.ins CN dx (nflds m l)) → H' l = some (.lst []) → Q .non H'
def spMany (CN : Addr) (K : PySem.W.Frag) : Sp := fun vs H Q _ => ∃ (n l : Addr) (m : Int) (ds : List RD), vs = [.ref n] ∧ NetAt CN K H n l m ds ∧ Q (.int m) H
def spAdd (CN : Addr) (K : PySem.W.Frag) (CK : Kd → Addr) : Sp := fun vs H Q _ => ∃ (n l x z : Addr) (m : Int) (ds : List RD) (k : Kd) (i j : Int) (p : Mq.Q2), vs = [.ref n, .ref x] ∧ NetAt CN K H n l m ds ∧ Rw CK H x k (.int i) (.int j) (.ref z) ∧ Fq K H z p ∧ RdOk m (k, i, j, p) ∧ ds.length < 40 ∧
  ∀ H', SameX l H H' → NetAt CN K H' n l m (ds ++ [(k, i, j, p)]) → Q (.int ds.length) H'
end L2

set_option Elab.async false
set_option linter.all false
set_option maxRecDepth 100000
set_option maxHeartbeats 2000000
namespace L2
open PySem PySem.Spec PyProof.Rows
section
variable {K : PySem.W.Frag} {H H' : Hp} {l r : Addr} {as bs : List V}
end
section
variable {CN : Addr} {K : PySem.W.Frag} {H H' : Hp} {N R : Addr} {rs : List NR}
end
theorem cut2 {a1 a2 u : TS} {D : Ends} {σ : St} {H : Hp} (P : St → Hp → Prop) (h1 : ∀ X : St → Hp → Prop, (∀ σ' H', P σ' H' → X σ' H') → (tSeq a1 (a2)) { D with nx := X } σ H) (h2 : ∀ σ' H', P σ' H' → u D σ' H') : (tSeq a1 (tSeq a2 (u))) D σ H := h1 _ h2
theorem cut3 {a1 a2 a3 u : TS} {D : Ends} {σ : St} {H : Hp} (P : St → Hp → Prop) (h1 : ∀ X : St → Hp → Prop, (∀ σ' H', P σ' H' → X σ' H') → (tSeq a1 (tSeq a2 (a3))) { D with nx := X } σ H) (h2 : ∀ σ' H', P σ' H' → u D σ' H') : (tSeq a1 (tSeq a2 (tSeq a3 (u)))) D σ H := h1 _ h2
theorem cut4 {a1 a2 a3 a4 u : TS} {D : Ends} {σ : St} {H : Hp} (P : St → Hp → Prop) (h1 : ∀ X : St → Hp → Prop, (∀ σ' H', P σ' H' → X σ' H') → (tSeq a1 (tSeq a2 (tSeq a3 (a4)))) { D with nx := X } σ H) (h2 : ∀ σ' H', P σ' H' → u D σ' H') : (tSeq a1 (tSeq a2 (tSeq a3 (tSeq a4 (u))))) D σ H := h1 _ h2
theorem cut_intsN (ns : List Int) (lo hi : Option Int) : ∃ ms : List Int, cutV (ns.map V.int) lo hi = ms.map V.int :=
  ⟨(ns.drop (HT.sIx (ns.map V.int).length 0 lo)).take (HT.sIx (ns.map V.int).length (ns.map V.int).length hi - HT.sIx (ns.map V.int).length 0 lo), by unfold cutV; rw [List.map_take, List.map_drop]⟩
end L2

set_option linter.all false
namespace Mq
theorem red_pos {t b : Int} (ht : 0 < t) (hb : 0 < b) : 0 < (red t b).1 := by
  have h1 := red_cross (t := t) (b := b) (by omega)
  have h2 := (red_low (t := t) (b := b) (by omega)).pos
  have h3 : 0 < t * (red t b).2 := Int.mul_pos ht (by omega)
  rw [← h1] at h3
  exact Int.pos_of_mul_pos_left h3 (by omega)
end Mq

set_option linter.all false
namespace Mq
abbrev z0 : Q2 := (0, 1)
abbrev Row := Nat × Nat × Q2
end Mq

set_option linter.all false
namespace Mq
end Mq

set_option Elab.async false
set_option linter.all false
set_option maxRecDepth 100000
set_option maxHeartbeats 2000000
namespace L2
open PySem PySem.Spec PyProof.Rows
section
variable {M : Model} {A : Around} {E : Value → Shared → Prop} {s : Shared}
end
abbrev compEnv1 (scope : Scope) (cl : List (Str × Addr)) (x0 : Str) (C : Addr) (env : Env) : Env := { compEnvC scope cl C env with cells := (x0, C + 1) :: cl }
abbrev compCx1 (X : Cx) (scope : Scope) (cl : List (Str × Addr)) (x0 : Str) (Nc : List Str) (C : Addr) (s3 : Shared) (H3 : Hp) (fp : List Addr) (pins : List (Addr × Obj)) : Cx :=
  { X with N := Nc, s₀ := s3, H₀ := H3, env := compEnv1 scope cl x0 C X.env, outer := X.stack, ex := fp, fn := fun x => x == x0, pn := X.pn ++ pins, xe := fun _ _ => False }
section
variable {X : Cx} {scope : Scope} {cl : List (Str × Addr)} {x0 : Str} {Nc : List Str} {nl : Nat} {fr : List Nat} {pins : List (Addr × Obj)} {σ : St} {H3 : Hp} {s3 : Shared} {fp : List Addr} {h4 : Heap} {tk : Nat}
end
section
variable {X : Cx} {scope : Scope} {cl : List (Str × Addr)} {x0 : Str} {Nc : List Str} {nl : Nat} {fr : List Nat} {elt tg iter : Expr} {ifs : List Expr} {pos : Pos} {wi : TI} {g : TG} {tt : TT} {te : TE}
end
end L2

set_option Elab.async false
set_option linter.all false
set_option maxRecDepth 100000
set_option maxHeartbeats 2000000
namespace L2
open PySem PySem.Spec PyProof.Rows
section
variable {X : Cx}
end
end L2
namespace L2
open PySem PySem.Spec PyProof.Rows
end L2
namespace L2
open PySem PySem.Spec PyProof.Rows
end L2
namespace L2
open PySem PySem.Spec PyProof.Rows
end L2

set_option Elab.async false
set_option linter.all false
set_option maxRecDepth 100000
set_option maxHeartbeats 2000000
namespace L2
open PySem PySem.Spec PyProof.Rows
def Ite (K : PySem.W.Frag) (a : Addr) : It :=
  ⟨fun i H => ∃ xs x, SqL K H a xs ∧ xs[i]? = some x,
   fun i H v H' => ∃ T x, v = .ref T ∧ H T = none ∧ H' = upd H T (.tup [.int (i : Int), x]) ∧ ∀ xs, SqL K H a xs → xs[i]? = some x,
   fun i H => ∃ xs, SqL K H a xs ∧ xs.length ≤ i⟩
def EnumTn (e it l : Addr) (i : Nat) (h : Heap) : Prop := e ≠ it ∧ (∃ old, IsEnum h e it (i : Int) old) ∧ h.IsListIter it l i
theorem turn_enum {P : Program} {w : World} {K : PySem.W.Frag} {elts : List Expr} {kk : Nat} {tpos : Pos} (e it l : Addr) :
    Turn P w K (.Tuple elts kk tpos) (Ite K l) [e, it] e (EnumTn e it l) where
  mem := by simp
  obj := fun i h st b hb => by
    obtain ⟨ne, ⟨old, he⟩, ⟨o1, e1, c1, d1⟩⟩ := st
    simp only [List.mem_cons, List.not_mem_nil, or_false] at hb
    rcases hb with rfl | rfl
    · exact ⟨_, he, fun v q => by cases q⟩
    · exact ⟨o1, e1, fun v q => by rw [d1] at q; cases q⟩
  keep := fun i h h' st k => by
    obtain ⟨ne, ⟨old, he⟩, ⟨o1, e1, c1, d1⟩⟩ := st
    exact ⟨ne, ⟨old, k _ (by simp) _ he⟩, ⟨o1, k _ (by simp) _ e1, c1, d1⟩⟩
  item := by
    intro X hP hw hK hc i pins s σ H E I hf st hg
    subst hP hw hK
    obtain ⟨ne, ⟨old, he⟩, t1⟩ := st
    obtain ⟨xs, x, hx, ex⟩ := hg
    obtain ⟨its1, rv1, p1, z1⟩ := I.list hx
    obtain ⟨u1, hu1, ru1⟩ := rv1.get ex
    refine wpAny_pyNext_enum_item he t1 p1.isList (x := u1) (by simpa using hu1) ne fun h' g1 g2 g3 g4 kk' => ?_
    have hn : H s.heap.objs.size = none := I.hok.fresh (Nat.le_refl _)
    have lt : ∀ b ∈ [e, it], b < s.heap.objs.size := fun b hb => by
      simp only [List.mem_cons, List.not_mem_nil, or_false] at hb
      obtain ⟨o1, e1, _⟩ := t1
      rcases hb with rfl | rfl
      · exact Heap.lt_size he
      · exact Heap.lt_size e1
    have I1 : Inv X pins σ (upd H s.heap.objs.size (.tup [.int (i : Int), x])) { s with heap := s.heap.push { cls := .type "tuple", data := .seq #[.int i s.toks, u1] }, toks := s.toks + 1 } :=
      I.laid (t' := s.toks + 1) (fun b o e => Heap.get?_push_of_some _ e) (Nat.le_refl _) (show ObjOk X.prog X.w _ _ _ (.tup [.int (i : Int), x]) from ⟨by show 2 ≤ sizeLine; decide, [.int i s.toks, u1], .cons ⟨_, rfl⟩ (.cons ru1 .nil), IsTup.new _ _⟩)
    have hf1 : ∀ b ∈ [e, it], FpOk X pins (upd H s.heap.objs.size (.tup [.int (i : Int), x])) b := fun b hb => ⟨by rw [upd_ne (Nat.ne_of_lt (lt b hb))]; exact (hf b hb).1, (hf b hb).2⟩
    have k1 : ∀ b o, b ∉ [e, it] → (s.heap.push { cls := .type "tuple", data := .seq #[.int i s.toks, u1] }).get? b = some o → h'.get? b = some o := fun b o nb e => by
      simp only [List.mem_cons, List.not_mem_nil, or_false, not_or] at nb
      by_cases hb : b = s.heap.objs.size
      · subst hb
        rw [Heap.get?_push_size _ rfl] at e
        cases e
        exact g3
      · have e0 : s.heap.get? b = some o := by rw [Heap.get?_push_ne _ _ _ hb] at e; exact e
        exact kk' b o nb.1 nb.2 e0
    have I2 : Inv X pins σ (upd H s.heap.objs.size (.tup [.int (i : Int), x])) { s with heap := h', toks := s.toks + 1 } := Inv.turnedL (s := { s with heap := s.heap.push { cls := .type "tuple", data := .seq #[.int i s.toks, u1] }, toks := s.toks + 1 }) (t' := s.toks + 1) I1 k1 hf1
    refine ⟨_, rfl, wpAny_letOwnedTupleGo_enum (s := { s with heap := h', toks := s.toks + 1 }) g1 fun h2 q1 q2 => ?_⟩
    have kz : ∀ b o, b ≠ e → h'.get? b = some o → h2.get? b = some o := fun b o nb e => (q2.2 b nb).trans e
    have I3 : Inv X pins σ (upd H s.heap.objs.size (.tup [.int (i : Int), x])) { s with heap := h2, toks := s.toks + 1 } := Inv.turnedL (s := { s with heap := h', toks := s.toks + 1 }) (t' := s.toks + 1) (fp := [e]) I2 (fun b o nb e => kz b o (by simpa using nb) e) fun b hb => hf1 b (by simp at hb; simp [hb])
    obtain ⟨o3, e3, c3, d3⟩ := g2
    refine ⟨.ref s.heap.objs.size, _, I3, rfl, ⟨_, x, rfl, hn, rfl, fun xs' h1 => ?_⟩, ⟨ne, ⟨_, q1⟩, ⟨o3, kz _ _ ne.symm e3, c3, d3⟩⟩, fun b hb => (hf1 b hb).1⟩
    rw [I.list_inj h1 hx]
    exact ex
  done := by
    intro X hP hw hK hc i pins s σ H E I hf st hg
    subst hP hw hK
    obtain ⟨ne, ⟨old, he⟩, t1⟩ := st
    obtain ⟨xs, hx, hor⟩ := hg
    obtain ⟨its1, rv1, p1, z1⟩ := I.list hx
    have l1' := rv1.length
    refine wpAny_pyNext_enum_end (I.ok.hd hc) he t1 p1.isList (by simp; omega) fun h' kk' => ⟨rfl, ?_⟩
    refine I.turnedL (t' := s.toks) (fun b o nb e => ?_) hf
    simp only [List.mem_cons, List.not_mem_nil, or_false, not_or] at nb
    exact kk' b o nb.2 e
  self := fun A i s Q E st h => by
    obtain ⟨ne, ⟨old, he⟩, t1⟩ := st
    exact wpAny_pyIter_enum he h
section
variable {X : Cx}
def iEnum (K : PySem.W.Frag) (ta : TA) : TI := fun σ H R => ta σ H fun vs H1 => ∃ a, vs = [.ref a] ∧ (∃ xs, SqL K H1 a xs) ∧ R (Ite K a) H1
theorem pi_enum {e1 : Expr} {ta : TA} {p pos : Pos} {elts : List Expr} {kk : Nat} {tpos : Pos} (hg : Gl X "enumerate") (hm : X.mg "enumerate" = none) (hv : bootBuiltins "enumerate" = some (.type "enumerate")) (ha : PA X [e1] ta)
    (hs : starEach [e1] X.env = (false, eval e1 X.env) :: starEach [] X.env := by rfl) (hpl : (backTo pos (starEach [] X.env)).any (·.1) = false := by rfl) : PI X (.Tuple elts kk tpos) (.Call (.Name "enumerate" p) [e1] [] pos) (iEnum X.K ta) := by
  intro pins s σ H R I h
  refine Call_ (ld_blt I hg hm hv (PyProof.Rows.callWith_type1 (thn (ha pos pins s σ H _ I h) fun us s1 ⟨vs, H1, I1, r1, q1⟩ => ?_) hs hpl))
  obtain ⟨a, rfl, ⟨xs, hx⟩, q⟩ := q1
  obtain ⟨u, rfl, ra⟩ := vals1 r1
  cases (show u = Value.ref a from ra)
  obtain ⟨its1, rv1, p1, z1⟩ := I1.list hx
  have la : a < s1.heap.objs.size := by obtain ⟨o, e, _⟩ := p1.isList; exact Heap.lt_size e
  refine call_enumerate_list p1.isList fun h' g1 g2 g3 kk' => ?_
  refine wpAny_pyIter_enum g1 ?_
  refine ⟨s1.heap.objs.size + 1, [s1.heap.objs.size + 1, s1.heap.objs.size], _, Ite X.K a, H1, rfl, I1.kept (t' := s1.toks) kk', turn_enum _ _ a, ⟨?_, ⟨_, g1⟩, g2⟩, fun c hc => ?_, q⟩
  · exact Nat.succ_ne_self _
  · have hle : s1.heap.objs.size ≤ c := by
      simp only [List.mem_cons, List.not_mem_nil, or_false] at hc
      rcases hc with rfl | rfl <;> first | exact Nat.le_add_right _ _ | exact Nat.le_refl _
    exact I1.fpOk hle (I1.hok.fresh hle)
theorem for_enum {K : PySem.W.Frag} {a : Addr} {xs : List V} {g : TG} {tb : TS} {D : Ends} {σ : St} {H : Hp} (Pv : Nat → St → Hp → Prop) (h0 : Pv 0 σ H) (hl : ∀ i σ H, i ≤ xs.length → Pv i σ H → SqL K H a xs)
    (hs : ∀ i x σ H T, xs[i]? = some x → Pv i σ H → H T = none → g (.ref T) σ (upd H T (.tup [.int (i : Int), x])) fun σ2 H2 => tb { D with nx := Pv (i + 1), ct := Pv (i + 1), bk := D.nx } σ2 H2) (hd : ∀ σ H, Pv xs.length σ H → D.nx σ H) :
    ∃ W : Nat → Nat → St → Hp → Prop, (∃ m, W 0 m σ H) ∧ ∀ i m σ H, W i m σ H →
      ((Ite K a).stop i H ∧ D.nx σ H) ∨ ((Ite K a).go i H ∧ ∃ N : St → Hp → Prop, (∀ σ' H', N σ' H' → ∃ m', m' < m ∧ W (i + 1) m' σ' H') ∧ ∀ x H', (Ite K a).yld i H x H' → g x σ H' fun σ2 H2 => tb { D with nx := N, ct := N, bk := D.nx } σ2 H2) := by
  refine ⟨fun i m σ H => m = xs.length - i ∧ i ≤ xs.length ∧ Pv i σ H, ⟨_, rfl, Nat.zero_le _, h0⟩, ?_⟩
  rintro i m σ H ⟨rfl, hi, p⟩
  have qx := hl i σ H hi p
  by_cases hlt : i < xs.length
  · refine .inr ⟨⟨xs, xs[i], qx, by simp [hlt]⟩, Pv (i + 1), fun σ' H' p' => ⟨xs.length - (i + 1), by omega, rfl, hlt, p'⟩, fun v H' z => ?_⟩
    obtain ⟨T, x, rfl, hT, rfl, hh⟩ := z
    exact hs i x σ H T (hh xs qx) p hT
  · have e : i = xs.length := by omega
    subst e
    exact .inl ⟨⟨xs, qx, Nat.le_refl _⟩, hd σ H p⟩
theorem comp_enum {K : PySem.W.Frag} {a : Addr} {xs : List V} {nl : Nat} {fr : List Nat} {g : TG} {tt : TT} {te : TE} {σ : St} {D : Addr} {H1 : Hp} {Q : VK} (Pv : Nat → List V → Hp → Prop) (h0 : Pv 0 [] (upd H1 D (.lst []))) (hl : ∀ i zs H, Pv i zs H → H D = some (.lst zs)) (hx : ∀ i zs H, i ≤ xs.length → Pv i zs H → SqL K H a xs)
    (hs : ∀ i zs x H T, xs[i]? = some x → Pv i zs H → H T = none → ∀ (C : Nat → List V → Hp → Prop), (∀ zs H, Pv (i + 1) zs H → C (i + 1) zs H) → CompT nl fr g tt te σ D C i zs (.ref T) (upd H T (.tup [.int (i : Int), x]))) (hd : ∀ zs H, Pv xs.length zs H → Q (.ref D) H) :
    CompW (Ite K a) nl fr g tt te σ D H1 Q := by
  refine ⟨fun i m zs H => m = xs.length - i ∧ i ≤ xs.length ∧ Pv i zs H, ⟨_, rfl, Nat.zero_le _, h0⟩, ?_⟩
  rintro i m zs H ⟨rfl, hi, p⟩
  refine ⟨hl i zs H p, ?_⟩
  have qx := hx i zs H hi p
  by_cases hlt : i < xs.length
  · refine .inr ⟨⟨xs, xs[i], qx, by simp [hlt]⟩, fun v H' z => ?_⟩
    obtain ⟨T, x, rfl, hT, rfl, hh⟩ := z
    exact hs i zs x H T (hh xs qx) p hT (fun j zs Hz => ∃ m', m' < xs.length - i ∧ m' = xs.length - j ∧ j ≤ xs.length ∧ Pv j zs Hz) fun zs Hz z => ⟨xs.length - (i + 1), by omega, rfl, hlt, z⟩
  · have e : i = xs.length := by omega
    subst e
    exact .inl ⟨⟨xs, qx, Nat.le_refl _⟩, hd zs H p⟩
end
end L2

set_option Elab.async false
set_option linter.all false
namespace L2
open PySem PySem.Spec PyProof.Rows
end L2

set_option Elab.async false
set_option linter.all false
set_option maxRecDepth 100000
set_option maxHeartbeats 4000000
namespace Shp
open PySem L2
end Shp

set_option Elab.async false
set_option linter.all false
set_option maxRecDepth 100000
set_option maxHeartbeats 4000000
namespace Shp
open PySem L2
end Shp

set_option linter.all false
namespace Mq
abbrev Mat := Nat → Nat → Rat
end Mq

set_option linter.all false
namespace Mq
section
variable {m : Nat} {A E : Mat} {r col : Nat} {d : Rat} {c : Nat → Nat}
end
end Mq

set_option linter.all false
namespace Mq
end Mq

set_option Elab.async false
set_option linter.all false
set_option maxRecDepth 100000
set_option maxHeartbeats 4000000
namespace Shp
open PySem L2
end Shp
namespace L2
open PySem
end L2

set_option linter.all false
set_option maxHeartbeats 1000000
namespace Mq
end Mq

set_option Elab.async false
set_option linter.all false
set_option maxRecDepth 100000
set_option maxHeartbeats 2000000
namespace PySem
open Sem (wp)
section
variable {prog : Program} {w : World} {A : Around} {E : Value → Shared → Prop} {h : Heap} {g : Array GenState} {d : Drawn} {t : Nat} {os : OsState}
variable {nm q : Str} {C N f : Addr} {bs bm bmB : List Value} {hdct : Bool} {sn : List Str} {sub : List Value} {ab : Bool} {col : Option Bool} {dd : Option Addr} {k0 k1 k2 k3 k5 : Option Value} {B Bn newId nid initId inN : String} {bmN : List Value}
abbrev newExcHeap (h : Heap) (C : Addr) (rest : List Value) : Heap := (h.push { cls := .type "tuple", data := .seq rest.toArray }).push { cls := .ref C, data := .fields #[.ref h.objs.size, .none, .none, .none, .bool false, .none] }
end
section
variable {M : Model} {A : Around} {E : Value → Shared → Prop} {env : Env}
variable {nm q : Str} {C N : Addr} {bs bm : List Value} {hdct : Bool} {sn : List Str} {sub : List Value} {ab : Bool} {col : Option Bool} {dd : Option Addr} {k0 k1 k2 k3 k5 : Option Value} {newId : String}
end
section
variable {prog : Program} {w : World} {A : Around} {E : Value → Shared → Prop} {s : Shared} {env : Env}
variable {nm q : Str} {C N f : Addr} {bs bm bmB : List Value} {hdct : Bool} {sn : List Str} {sub : List Value} {ab : Bool} {col : Option Bool} {dd : Option Addr} {k0 k1 k2 k3 k5 : Option Value} {B Bn newId nid initId inN : String} {bmN : List Value}
end
end PySem

set_option Elab.async false
set_option linter.all false
set_option maxRecDepth 100000
set_option maxHeartbeats 2000000
namespace L2
open PySem PySem.Spec PyProof.Rows
section
variable {X : Cx} {pins : List (Addr × Obj)} {σ : List (Option V)} {H : Hp} {s : Shared}
end
section
variable {X : Cx} {pins : List (Addr × Obj)} {σ : List (Option V)} {H : Hp} {s : Shared} {k : Nat} {f C C0 : Addr} {fd : FuncData} {ps : List Str} {sp : Sp}
end
end L2

set_option Elab.async false
set_option linter.all false
set_option maxRecDepth 100000
set_option maxHeartbeats 2000000
namespace L2
open PySem PySem.Spec PyProof.Rows
section
variable {X : Cx} {C C0 f : Addr}
end
section
variable {prog : Program} {w : World} {A : Around} {E : Value → Shared → Prop} {s : Shared} {K : PySem.W.Frag} {x C C0 f : Addr} {name : Str} {v : Value} {vs : Array Value}
end
section
variable {X : Cx} {o value : Expr} {nm : Str} {pos pos' : Pos} {ta tv : TE}
end
section
variable {X : Cx} {o : Expr} {nm : Str} {pos : Pos} {ta : TE}
end
end L2

set_option Elab.async false
set_option linter.all false
set_option maxRecDepth 100000
set_option maxHeartbeats 4000000
namespace Shp
open PySem L2
end Shp
namespace L2
open PySem
end L2

set_option linter.all false
set_option maxHeartbeats 2000000
namespace Mq
end Mq

set_option Elab.async false
set_option linter.all false
set_option maxRecDepth 100000
set_option maxHeartbeats 4000000
namespace L2
open PySem
end L2
namespace Mq
end Mq
namespace Shp
open PySem L2
end Shp

set_option linter.all false
set_option maxHeartbeats 1000000
namespace Mq
end Mq

set_option Elab.async false
set_option linter.all false
set_option maxRecDepth 100000
set_option maxHeartbeats 4000000
namespace Shp
open PySem L2
section
variable {X : List (List Mq.Q2)} {qs : List Mq.Q2}
end
end Shp

set_option linter.all false
set_option maxHeartbeats 1000000
namespace Mq
section
variable {m : Nat} {A E : Mat} {r col : Nat} {d : Rat} {c : Nat → Nat} {n : Nat}
end
end Mq

set_option Elab.async false
set_option linter.all false
set_option maxRecDepth 100000
set_option maxHeartbeats 4000000
namespace Shp
open PySem L2
abbrev bq (n m : Nat) : Nat := (n + 4) * (m + 1) + 7
end Shp

set_option Elab.async false
set_option linter.all false
set_option maxRecDepth 100000
set_option maxHeartbeats 4000000
namespace L2
open PySem PyProof.Rows
end L2

set_option Elab.async false
set_option linter.all false
set_option maxRecDepth 100000
set_option maxHeartbeats 2000000
namespace L2
open PySem PySem.Spec PyProof.Rows
section
variable {X : Cx} {k : Nat} {f C : Addr} {fd : FuncData} {ps : List Str} {sp : Sp} {dvs : List V} {ds : List Value} {x : Str} {p pos : Pos} {e : Expr} {es : List Expr} {t : TA}
end
theorem FnOk.weak {P : Program} {w : World} {K : PySem.W.Frag} {mg : Str → Option Value} {base : Heap} {CX : CXT} {k : Nat} {f : Addr} {fd : FuncData} {ps : List Str} {sp sp' : Sp} (F : FnOk P w K mg base CX k f fd ps sp) (h : ∀ vs H Q E, sp' vs H Q E → sp vs H Q E) : FnOk P w K mg base CX k f fd ps sp' :=
  ⟨fun vs H Q E q => F.len vs H Q E (h _ _ _ _ q), fun A outer s H args us vs Q E hr he hb hv hs => F.run A outer s H args us vs Q E hr he hb hv (h _ _ _ _ hs)⟩
abbrev PtOk (m i j : Int) : Prop := 0 ≤ i ∧ i < m ∧ 0 ≤ j ∧ j < m
end L2

set_option Elab.async false
set_option linter.all false
set_option maxRecDepth 100000
set_option maxHeartbeats 2000000
namespace L2
open PySem PySem.Spec PyProof.Rows
inductive Zv (K : PySem.W.Frag) (H : Hp) : V → Option Mq.Q2 → Prop where
  | fr {u : Addr} {p : Mq.Q2} (h : Fq K H u p) (l : Mq.Low p) : Zv K H (.ref u) (some p)
  | ty {v : V} {t : Value} (h : TyQ K H v t) (n : PySem.W.kitOne K t (.type "tuple") = some false) : Zv K H v none
  | len {u : Addr} {x y z : V} (h : SqT K H u [x, y, z]) : Zv K H (.ref u) none
  | n0 {u : Addr} {x y : V} {t : Value} (h : SqT K H u [x, y]) (ty : TyOf K H x t) (n : NotWhole t) : Zv K H (.ref u) none
  | n1 {u : Addr} {i : Int} {y : V} {t : Value} (h : SqT K H u [.int i, y]) (ty : TyOf K H y t) (n : NotWhole t) : Zv K H (.ref u) none
  | fb {u : Addr} {p : Mq.Q2} (h : Fq K H u p) (c : p.2 < 1 ∨ (1 ≤ p.2 ∧ Mq.gc p.1 p.2 ≠ 1)) : Zv K H (.ref u) none
abbrev Bz (o : Option Mq.Q2) : Prop := ∀ p, o = some p → Mq.Bd 100 p
def spIsFV (K : PySem.W.Frag) : Sp := fun vs H Q _ => ∃ (v : V) (o : Option Mq.Q2), vs = [v] ∧ Zv K H v o ∧ Q (.bl o.isSome) H
inductive Robs (CK : Kd → Addr) (K : PySem.W.Frag) (H : Hp) : List V → List RD → Prop where
  | nil : Robs CK K H [] []
  | cons {x z : Addr} {k : Kd} {i j : Int} {p : Mq.Q2} {xs : List V} {ds : List RD} (h : Rw CK H x k (.int i) (.int j) (.ref z)) (f : Fq K H z p) (q : Robs CK K H xs ds) : Robs CK K H (.ref x :: xs) ((k, i, j, p) :: ds)
section
variable {CK : Kd → Addr} {K : PySem.W.Frag} {H H' : Hp}
theorem Robs.same (e : Same H H') : ∀ {xs : List V} {ds : List RD}, Robs CK K H xs ds → Robs CK K H' xs ds
  | _, _, .nil => .nil
  | _, _, .cons h f q => .cons (h.same e) (e.fq f) (Robs.same e q)
theorem Robs.length : ∀ {xs : List V} {ds : List RD}, Robs CK K H xs ds → xs.length = ds.length
  | _, _, .nil => rfl
  | _, _, .cons _ _ q => by simp [Robs.length q]
theorem Robs.app : ∀ {xs ys : List V} {ds es : List RD}, Robs CK K H xs ds → Robs CK K H ys es → Robs CK K H (xs ++ ys) (ds ++ es)
  | _, _, _, _, .nil, r => r
  | _, _, _, _, .cons h f q, r => .cons h f (Robs.app q r)
theorem Robs.at : ∀ {xs : List V} {ds : List RD} {q : Nat} {d : RD}, Robs CK K H xs ds → ds[q]? = some d → ∃ x z, xs[q]? = some (.ref x) ∧ Rw CK H x d.1 (.int d.2.1) (.int d.2.2.1) (.ref z) ∧ Fq K H z d.2.2.2
  | _, _, _, _, .nil, h => by simp at h
  | _, _, 0, _, .cons h f _, e => by simp at e; subst e; exact ⟨_, _, rfl, h, f⟩
  | _, _, i + 1, _, .cons _ _ q, e => by simpa using Robs.at q (by simpa using e)
theorem Robs.upd {l : Addr} {ys : List V} {o : HO} (hl : H l = some (.lst ys)) : ∀ {xs : List V} {ds : List RD}, Robs CK K H xs ds → Robs CK K (L2.upd H l o) xs ds
  | _, _, .nil => .nil
  | _, _, .cons (h := h) f q => by
    obtain ⟨dx, e⟩ := h
    exact .cons ⟨dx, by rw [upd_ne (ne_of e hl (fun z => by cases z))]; exact e⟩ (f.upd hl) (Robs.upd hl q)
end
def spRows (CN : Addr) (K : PySem.W.Frag) (CK : Kd → Addr) : Sp := fun vs H Q _ => ∃ (n l : Addr) (m : Int) (ds : List RD), vs = [.ref n] ∧ NetAt CN K H n l m ds ∧ ds.length ≤ 100 ∧ ∀ a xs H', Same H H' → H a = none → H' a = some (.lst xs) → Robs CK K H' xs ds → Q (.ref a) H'
end L2

set_option Elab.async false
set_option linter.all false
set_option maxRecDepth 100000
set_option maxHeartbeats 2000000
namespace L2
open PySem PySem.Spec PyProof.Rows
section
variable {X : Cx} {pins : List (Addr × Obj)} {σ : St} {H : Hp} {s : Shared} {a : Addr} {k : Key} {kvs : List (Key × V)} {u r : Value} {z : V} {A : Around} {E : Value → Shared → Prop}
end
section
variable {X : Cx} {o e f : Expr} {apos cpos : Pos} {td ty tx : TE}
end
section
variable {X : Cx} {o : Expr} {apos cpos pos p : Pos} {td : TE}
end
def tLRange (ta : TA) : TE := fun σ H Q => ta σ H fun vs H1 => ∃ n : Nat, vs = [.int (n : Int)] ∧ n ≤ 1000 ∧ ∀ l, H1 l = none → Q (.ref l) (upd H1 l (.lst ((List.range n).map fun (i : Nat) => V.int (i : Int))))
theorem vals_range : ∀ {n : Nat} {acc : List Value}, acc.length = n → (∀ (j : Nat) (v : Value), acc[j]? = some v → ∃ t, v = Value.int (j : Int) t) → Vals ((List.range n).map fun (i : Nat) => V.int (i : Int)) acc
  | 0, [], _, _ => .nil
  | n + 1, acc, hl, h => by
    have e : acc = acc.take n ++ [acc[n]'(by omega)] := by
      have h1 : acc.take (n + 1) = acc := List.take_of_length_le (by omega)
      have h2 : acc.take (n + 1) = acc.take n ++ [acc[n]'(by omega)] := by rw [List.take_add_one, List.getElem?_eq_getElem (by omega)]; rfl
      rw [h1] at h2; exact h2
    rw [List.range_succ, List.map_append, e]
    refine Vals.append (vals_range (by rw [List.length_take]; omega) fun j v hj => ?_) (.cons ?_ .nil)
    · have hjn : j < n := by
        have := (List.getElem?_eq_some_iff.mp hj).1
        rw [List.length_take] at this
        omega
      rw [List.getElem?_take, if_pos hjn] at hj
      exact h j v hj
    · obtain ⟨t, ht⟩ := h n _ (List.getElem?_eq_getElem (by omega))
      rw [ht]
      exact ⟨t, rfl⟩
section
variable {X : Cx} {a : Expr} {p p2 pos pos2 : Pos} {ta : TA}
theorem pe_listrange (hc : X.calm = true) (hgl : Gl X "list") (hml : X.mg "list" = none) (hg : Gl X "range") (hm : X.mg "range" = none) (ha : PA X [a] ta) (hs : starEach [a] X.env = [(false, eval a X.env)] := by rfl)
    (he : starEach [.Call (.Name "range" p2) [a] [] pos2] X.env = (false, eval (.Call (.Name "range" p2) [a] [] pos2) X.env) :: starEach [] X.env := by rfl) (hpl : (backTo pos (starEach [] X.env)).any (·.1) = false := by rfl) :
    PE X (.Call (.Name "list" p) [.Call (.Name "range" p2) [a] [] pos2] [] pos) (tLRange ta) := by
  intro pins s σ H Q I h
  refine wpAny_Call_Name_kw (ld_blt I hgl hml PyProof.Rows.boot_list ?_)
  refine PyProof.Rows.callWith_type1 ?_ he hpl
  rw [he]
  show wpAny _ _ (spliced ((false, eval (.Call (.Name "range" p2) [a] [] pos2) X.env) :: backTo pos (starEach [] X.env))) _ _ s
  refine Calls.spliced_cons ?_
  refine wpAny_Call_Name_kw (ld_blt I hg hm boot_range (PyProof.Rows.callWith_type1 (thn (ha pos2 pins s σ H _ I h) fun us s1 ⟨vs, H1, I1, r1, q1⟩ => ?_) hs rfl))
  obtain ⟨n, e, hn, q⟩ := q1
  subst e
  cases r1 with
  | cons r rr =>
    cases rr
    obtain ⟨t, rfl⟩ := r
    refine call_range_1 ?_
    refine Calls.spliced_nil ?_
    have I2 : ∀ (ob : Obj) (tk : Nat), Inv X pins σ H1 { s1 with heap := s1.heap.push ob, toks := tk } := fun ob tk => I1.kept (t' := tk) (fun b ob e => Heap.get?_push_of_some _ e)
    have hn24 : (n : Nat) ≤ 2 ^ 24 := by omega
    refine call_list_range (n := n) (I1.ok.hd hc) (IsRange.new ..) (small_one (by omega) (by omega) (by omega) (by omega)) (by rw [rangeSize_one]; split <;> omega) hn24 (fun h' tk acc' c' kp e items => ?_)
    have rl : Vals ((List.range n).map fun (i : Nat) => V.int (i : Int)) acc'.toList := vals_range (by rw [Array.length_toList]; exact items.1) (fun j v hj => by
      obtain ⟨t, ht⟩ := items.2 j v (by rw [← Array.getElem?_toList]; exact hj)
      exact ⟨t, by rw [ht]; congr 1; omega⟩)
    have hz : ((List.range n).map fun (i : Nat) => V.int (i : Int)).length ≤ sizeLine := by rw [List.length_map, List.length_range, sizeLine_eq]; omega
    exact ⟨.ref _, _, (I2 _ _).laid (t' := tk) kp (Nat.le_refl _) (show ObjOk X.prog X.w _ h' _ (.lst ((List.range n).map fun (i : Nat) => V.int (i : Int))) from ⟨hz, acc'.toList, c', rl, e⟩), rfl, q _ ((I2 _ _).hok.fresh (Nat.le_refl _))⟩
end
end L2

set_option Elab.async false
set_option linter.all false
set_option maxHeartbeats 1000000
namespace L2
open PySem PySem.Spec PyProof.Rows
def jn (ms : List Int) (s g : Nat) : List Int := ms.map fun x => if x = ms.getD g 0 then ms.getD s 0 else x
def mks0 (m : Nat) : List Int := (List.range m).map fun (i : Nat) => (i : Int)
end L2

set_option Elab.async false
set_option linter.all false
set_option maxRecDepth 100000
set_option maxHeartbeats 4000000
namespace L2
open PySem PyProof.Rows
section
variable {P : Program} {w : World} {A : Around} {E : Value → Shared → Prop} {s : Shared} {b : Bool}
section
variable {R : Result → Shared → Prop} {I : Addr} {fp wr : List Addr} {G : Array GenState → Array GenState → Prop} {n : Nat} {Pv : Nat → Value → Prop} {St : Nat → Shared → Prop}
theorem SetOf_eq {K : Type} [DecidableEq K] {knd : PySem.KeyKind P w K} {h : Heap} {a : Addr} {S S' : K → Bool} {n n' : Nat} (q : h.SetOf knd a S n) (e : S = S') (en : n = n') : h.SetOf knd a S' n' := by subst e en; exact q
end
end
end L2

set_option Elab.async false
set_option linter.all false
set_option maxRecDepth 100000
set_option maxHeartbeats 4000000
namespace L2
open PySem PyProof.Rows
abbrev emp (g : Bool) : Obj := { cls := .type "set", dict := none, data := .set #[] 0 (.fresh 0 0 g) }
section
variable {P : Program} {w : World} {A : Around} {E : Value → Shared → Prop} {s : Shared} {b : Bool}
end
end L2

set_option Elab.async false
set_option linter.all false
set_option maxRecDepth 100000
set_option maxHeartbeats 4000000
namespace L2
open PySem PyProof.Rows
theorem set_boot : bootBuiltins "set" = some (.type "set") := by decide +kernel
section
variable {X : Cx}
end
end L2

set_option Elab.async false
set_option linter.all false
set_option maxRecDepth 100000
set_option maxHeartbeats 2000000
namespace PySem.SeqAt
open AutoSeq1 (wpAny_loadPart')
open MeetsSeq MeetsSeq2 MeetsSeq3
def RcLtAt (y x : Value) : Prop := ∀ (prog : Program) (w : World) (A : Around) (s : Shared) (E : Value → Shared → Prop) (Q : Value → Shared → Prop), Q (.bool true) s → wpAny (model prog w) A (richCompare .Lt y x) Q E s
theorem lt_loopAt (l b : Addr) (items items2 : Array Value) (n n2 : Nat) (dd dd2 : Option Addr) (sl sl2 : Array (Option Value)) (j : Nat) (hj1 : j < items.size) (hj2 : j < items2.size) (hlt : RcLtAt items[j] items2[j]) (k : Nat) :
    ∀ i : Nat, j - i = k → i ≤ j → Meets (Builtin.«list.__eq__.loop» ⟨[.ref l, .ref b, rawInt i, rawInt 0], []⟩)
      (fun A R s => s.heap.get? l = some { cls := .type "list", dict := dd, data := .seq items n, slots := sl } ∧ s.heap.get? b = some { cls := .type "list", dict := dd2, data := .seq items2 n2, slots := sl2 } ∧
        (∀ m (h1 : m < items.size) (h2 : m < items2.size), m ≤ j → EqAt A.in1 s items[m] items2[m] (decide (m < j))) ∧
        R (.ok (.ret (.bool true))) s) := by
  induction k with
  | zero =>
    intro i hk hij prog w A R s h
    obtain rfl : i = j := by omega
    obtain ⟨hp, g, d, tk, os⟩ := s; obtain ⟨hl, hb, he, h⟩ := h
    wp_walk using wpAny_loadPart' hl, wpAny_loadPart' hb
    have hi1 : items[((i : Nat) : Int).toNat]? = some items[i] := by simp [hj1]
    have hi2 : items2[((i : Nat) : Int).toNat]? = some items2[i] := by simp [hj2]
    rw [hi1, hi2]
    refine wpAny_bind (he i hj1 hj2 (Nat.le_refl _) prog w _ _ ?_)
    rw [decide_eq_false (Nat.lt_irrefl i)]
    wp_walk using wpAny_loadPart' hl, wpAny_loadPart' hb
    rw [hi1, hi2]
    refine wpAny_bind (hlt prog w _ _ _ _ ?_)
    wp_walk
    exact h
  | succ k ih =>
    intro i hk hij prog w A R s h
    obtain ⟨hp, g, d, tk, os⟩ := s; obtain ⟨hl, hb, he, h⟩ := h
    wp_walk using wpAny_loadPart' hl, wpAny_loadPart' hb
    have hlt1 : i < items.size := by omega
    have hlt2 : i < items2.size := by omega
    have hi1 : items[((i : Nat) : Int).toNat]? = some items[i] := by simp [hlt1]
    have hi2 : items2[((i : Nat) : Int).toNat]? = some items2[i] := by simp [hlt2]
    have hc : ((i : Int) + 1) = ((i + 1 : Nat) : Int) := by push_cast; rfl
    rw [hi1, hi2]
    refine wpAny_bind (he i hlt1 hlt2 hij prog w _ _ ?_)
    rw [decide_eq_true (show i < j by omega)]
    wp_walk
    rw [hc]
    exact ⟨plainId_quiet plain_eq_loop _, codeAny_builtin entry_eq_loop (by
      rw [Around.under_plainId plain_eq_loop _]
      exact ih (i + 1) (by omega) (by omega) prog w A R _ ⟨hl, hb, he, h⟩)⟩
theorem list_ltAt (l b : Addr) (items items2 : Array Value) (n n2 : Nat) (dd dd2 : Option Addr) (sl sl2 : Array (Option Value)) (j : Nat) (hj1 : j < items.size) (hj2 : j < items2.size) (hlt : RcLtAt items[j] items2[j]) :
    Meets (Builtin.«list.__lt__» ⟨[.ref l, .ref b], []⟩)
      (fun A R s => s.heap.get? l = some { cls := .type "list", dict := dd, data := .seq items n, slots := sl } ∧ s.heap.get? b = some { cls := .type "list", dict := dd2, data := .seq items2 n2, slots := sl2 } ∧
        (∀ m (h1 : m < items.size) (h2 : m < items2.size), m ≤ j → EqAt A.in1 s items[m] items2[m] (decide (m < j))) ∧
        R (.ok (.ret (.bool true))) s) := by
  intro prog w A R s h
  obtain ⟨hp, g, d, tk, os⟩ := s; obtain ⟨hl, hb, he, h⟩ := h
  have f3 := AutoSeq1.sub_list_list
  wp_walk using wpAny_loadPart' hl, wpAny_loadPart' hb
  exact ⟨plainId_quiet plain_eq_loop _, codeAny_builtin entry_eq_loop (by
    rw [Around.under_plainId plain_eq_loop _]
    exact lt_loopAt l b items items2 n n2 dd dd2 sl sl2 j hj1 hj2 hlt _ 0 rfl (Nat.zero_le _) prog w A R _ ⟨hl, hb, he, h⟩)⟩
end PySem.SeqAt
namespace L2
open PySem PySem.Spec PyProof.Rows
variable {X : Cx}
def rLtL (K : PySem.W.Frag) : R2 := fun x y H Q => ∃ (a b : Addr) (ns ms : List Int) (j : Nat) (p q : Int), x = .ref a ∧ y = .ref b ∧ SqL K H a (ns.map V.int) ∧ SqL K H b (ms.map V.int) ∧ ns[j]? = some p ∧ ms[j]? = some q ∧ (∀ i, i < j → ns[i]? = ms[i]?) ∧ p < q ∧ Q (.bl true) H
theorem vint {ns : List Int} {its : List Value} (rv : Vals (ns.map V.int) its) {i : Nat} {p : Int} (h : ns[i]? = some p) : ∃ t, its[i]? = some (.int p t) := by
  obtain ⟨u, hu, ru⟩ := rv.get (show (ns.map V.int)[i]? = some (.int p) by rw [List.getElem?_map, h]; rfl)
  obtain ⟨t, rfl⟩ := (show ∃ t, u = Value.int p t from ru)
  exact ⟨t, hu⟩
theorem op_ltL (hu : X.A.units < cLine) : OpR X (compareOp .Lt) (rLtL X.K) := by
  intro pins s σ H x y v u Q I rx ry h
  obtain ⟨a, b, ns, ms, j, p, q, rfl, rfl, ha, hb, hp, hq, he, hlt, hQ⟩ := h
  cases rx
  cases ry
  obtain ⟨its, rv, pl, hz⟩ := I.list ha
  obtain ⟨jts, rw', pl2, hz2⟩ := I.list hb
  obtain ⟨t, et⟩ := vint rv hp
  obtain ⟨t2, et2⟩ := vint rw' hq
  have hj1 : j < its.toArray.size := by simpa using (List.getElem?_eq_some_iff.mp et).1
  have hj2 : j < jts.toArray.size := by simpa using (List.getElem?_eq_some_iff.mp et2).1
  have g1 : its.toArray[j] = .int p t := by have := (List.getElem?_eq_some_iff.mp et).2; simpa using this
  have g2 : jts.toArray[j] = .int q t2 := by have := (List.getElem?_eq_some_iff.mp et2).2; simpa using this
  have hl : PySem.SeqAt.RcLtAt its.toArray[j] jts.toArray[j] := by
    rw [g1, g2]
    intro prog w A s E Q hq
    refine (show wpAny (model prog w) A (compareOp .Lt (.int p t) (.int q t2)) Q E s from lt_int ?_)
    rw [decide_eq_true hlt]
    exact hq
  obtain ⟨⟨cls, dd, data, sl⟩, ho, hc, n, hd⟩ := id pl.isList
  obtain ⟨⟨cls2, dd2, data2, sl2⟩, ho2, hc2, n2, hd2⟩ := id pl2.isList
  simp only at hc hd hc2 hd2
  subst hc hd hc2 hd2
  show wpAny (model X.prog X.w) X.A (richCompare .Lt (.ref a) (.ref b)) (EP X pins σ Q) X.xe s
  refine richCompare_meets_room (op := .Lt) ⟨_, ho, rfl⟩ ⟨_, ho2, rfl⟩ F.slot_list_lt F.entry_list_lt (F.args_list_lt_2 _ _) (PySem.SeqAt.list_ltAt a b its.toArray jts.toArray n n2 dd dd2 sl sl2 j hj1 hj2 hl) ⟨ho, ho2, fun m h1 h2 hm => ?_, ⟨(fun x => nomatch x), .bl true, H, I, rfl, hQ⟩⟩ hu
  by_cases c : m < j
  · have hm1 : m < ns.length := by have := (List.getElem?_eq_some_iff.mp hp).1; omega
    have e1 := List.getElem?_eq_getElem hm1
    have e2 := (he m c).symm.trans e1
    obtain ⟨t3, e3⟩ := vint rv e1
    obtain ⟨t4, e4⟩ := vint rw' e2
    have g3 : its.toArray[m] = .int ns[m] t3 := by have := (List.getElem?_eq_some_iff.mp e3).2; simpa using this
    have g4 : jts.toArray[m] = .int ns[m] t4 := by have := (List.getElem?_eq_some_iff.mp e4).2; simpa using this
    rw [g3, g4, decide_eq_true c]
    have := (PySem.MeetsSeq.EqGives.int ns[m] ns[m] t3 t4).at X.A.in1 s
    simpa using this
  · obtain rfl : m = j := by omega
    rw [g1, g2, decide_eq_false c]
    have := (PySem.MeetsSeq.EqGives.int p q t t2).at X.A.in1 s
    rwa [show (p == q) = false by simp; omega] at this
def rLtB (K : PySem.W.Frag) : R2 := fun x y H Q => (rI0 fun i j => .bl (decide (i < j))) x y H Q ∨ rLtL K x y H Q
theorem op_ltB (hu : X.A.units < cLine) : OpR X (compareOp .Lt) (rLtB X.K) := fun pins s σ H x y v u Q I rx ry h => by
  rcases h with h | h
  · exact op_lt pins s σ H x y v u Q I rx ry h
  · exact op_ltL hu pins s σ H x y v u Q I rx ry h
end L2

set_option Elab.async false
set_option linter.all false
set_option maxRecDepth 100000
set_option maxHeartbeats 4000000
namespace L2
open PySem PyProof.Rows
def dlS (acc : List Int) (x : Int) : List Int := if x ∈ acc then acc else acc ++ [x]
def dl (ns : List Int) : List Int := ns.foldl dlS []
theorem dl_snoc (ns : List Int) (x : Int) : dl (ns ++ [x]) = if x ∈ dl ns then dl ns else dl ns ++ [x] := by
  unfold dl
  rw [List.foldl_append]; rfl
theorem snoc_ind {P : List Int → Prop} (h0 : P []) (h1 : ∀ l x, P l → P (l ++ [x])) (l : List Int) : P l := by
  have : ∀ n (l : List Int), l.length = n → P l := by
    intro n
    induction n with
    | zero => intro l h; rw [List.length_eq_zero_iff.mp h]; exact h0
    | succ n ih =>
      intro l h
      have hn : l ≠ [] := by intro z; rw [z] at h; cases h
      rw [← List.dropLast_concat_getLast hn]
      exact h1 _ _ (ih _ (by rw [List.length_dropLast, h]; rfl))
  exact this _ l rfl
theorem dl_mem (ns : List Int) : ∀ x, x ∈ dl ns ↔ x ∈ ns := by
  refine snoc_ind (P := fun ns => ∀ x, x ∈ dl ns ↔ x ∈ ns) (fun x => Iff.rfl) (fun l y ih x => ?_) ns
  rw [dl_snoc, List.mem_append]
  split
  · rename_i h
    rw [ih]
    refine ⟨.inl, fun z => z.elim id fun z => ?_⟩
    have : x = y := by simpa using z
    rw [this]; exact (ih y).mp h
  · rw [List.mem_append, ih]
theorem dl_nodup (ns : List Int) : (dl ns).Nodup := by
  refine snoc_ind (P := fun ns => (dl ns).Nodup) List.nodup_nil (fun l y ih => ?_) ns
  rw [dl_snoc]
  split
  · exact ih
  · rename_i h
    refine List.nodup_append.mpr ⟨ih, by simp, fun a ha b hb z => ?_⟩
    have : b = y := by simpa using hb
    exact h (by rw [← this, ← z]; exact ha)
theorem dl_le (ns : List Int) : (dl ns).length ≤ ns.length := by
  refine snoc_ind (P := fun ns => (dl ns).length ≤ ns.length) (Nat.le_refl _) (fun l y ih => ?_) ns
  rw [dl_snoc, List.length_append]
  split
  · omega
  · rw [List.length_append]; omega
section
variable {P : Program} {w : World} {A : Around} {E : Value → Shared → Prop} {s : Shared}
section
variable {R : Result → Shared → Prop} {I : Addr} {fp wr : List Addr} {G : Array GenState → Array GenState → Prop} {n : Nat} {Pv : Nat → Value → Prop} {St : Nat → Shared → Prop}
theorem upd_int (W : WalksS P w A.in1 I fp wr G n Pv St) (T : Addr) (hT : T ∉ fp) {ns : List Int} (hn : n = ns.length) (hn9 : ns.length ≤ 1000) (hv : ∀ i v, Pv i v → ∃ z t, ns[i]? = some z ∧ v = .int z t) : ∀ (k i : Nat) (s : Shared), n - i = k → i ≤ n → St i s → s.heap.SetOf (intKind P w) T (fun z => decide (z ∈ ns.take i)) (dl (ns.take i)).length →
      (∀ s', Moved (T :: wr) G s s' → s'.heap.SetOf (intKind P w) T (fun z => decide (z ∈ ns.take n)) (dl (ns.take n)).length → R (.ok (.ret .none)) s') → codeAny (model P w) A (.builtin "set.update.loop" ⟨[.ref T, .ref I], []⟩) R s := by
  have hTw : T ∉ wr := fun h => hT (W.sub _ h)
  have up : ∀ x ∈ wr, x ∈ T :: wr := fun x hx => List.mem_cons_of_mem _ hx
  intro k
  induction k with
  | zero =>
    intro i s hk hi st hS hR
    obtain rfl : i = n := by omega
    refine codeAny_builtin PyProof.Rows.F.entry_set_update_loop ?_
    rw [Around.under_plainId PyProof.Rows.F.plain_set_update_loop _]
    refine wpAny_bind (m := pyNext (.ref I)) (W.done s _ _ st fun s' mv => ?_)
    refine wpAny_pure (hR s' (mv.mono up) ?_)
    obtain ⟨o, es, ep, t, ho, q⟩ := hS
    exact ⟨o, es, ep, t, mv.heap T _ hTw ho, q⟩
  | succ k ih =>
    intro i s hk hi st hS hR
    have lt : i < n := by omega
    refine codeAny_builtin PyProof.Rows.F.entry_set_update_loop ?_
    rw [Around.under_plainId PyProof.Rows.F.plain_set_update_loop _]
    refine wpAny_bind (m := pyNext (.ref I)) (W.item i s _ _ lt st fun v s' hp st' mv => ?_)
    obtain ⟨z, tz, hz, rfl⟩ := hv i v hp
    have hS1 : s'.heap.SetOf (intKind P w) T (fun z => decide (z ∈ ns.take i)) (dl (ns.take i)).length := by
      obtain ⟨o, es, ep, t, ho, q⟩ := hS
      exact ⟨o, es, ep, t, mv.heap T _ hTw ho, q⟩
    refine wpAny_bind (m := holding [Value.int z tz] (setAdd T (.int z tz))) (wpAny_holding ?_)
    unfold setAdd
    refine wpAny_holding (wpAny_bind ((intKind P w).pyHash (k := z) (intKind_is _ _ _ _) ?_))
    refine wpAny_setAddHashed_of (knd := intKind P w) (k := z) (s := { s' with toks := s'.toks + 1 }) (intKind_is _ _ _ _) rfl hS1 (by have := dl_le (ns.take i); rw [List.length_take] at this; unfold scanBound; omega) fun h' sb hS2 => ?_
    have et : ns.take (i + 1) = ns.take i ++ [z] := by rw [List.take_add_one, hz]; rfl
    have hS3 : h'.SetOf (intKind P w) T (fun z => decide (z ∈ ns.take (i + 1))) (dl (ns.take (i + 1))).length := by
      refine SetOf_eq hS2 (by funext u; rw [et]; simp) ?_
      rw [et, dl_snoc]
      by_cases h0 : z ∈ ns.take i
      · rw [if_pos (by simpa using h0), if_pos ((dl_mem _ z).mpr h0)]
      · rw [if_neg (by simpa using h0), if_neg (fun y => h0 ((dl_mem _ z).mp y)), List.length_append]; rfl
    refine wpAny_pure ⟨plainId_quiet PyProof.Rows.F.plain_set_update_loop _, ih (i + 1) _ (by omega) lt (W.frame _ s' _ _ st' (Nat.le_succ _) fun x hx o e => ?_) hS3 fun s2 mv2 q => ?_⟩
    · rw [sb.2 x (fun z => hT (by rw [← z]; exact hx))]; exact e
    · refine hR s2 (Moved.trans W.gtrans ((mv.mono up).then_heap (Nat.le_succ _) fun x o hx e => ?_) mv2) q
      rw [sb.2 x (fun z => hx (by rw [z]; exact List.mem_cons_self))]; exact e
end
end
section
variable {P : Program} {w : World} {A : Around} {E : Value → Shared → Prop} {s : Shared} 
def IntS (P : Program) (w : World) (ns : List Int) (s : Shared) (h' : Heap) : Prop :=
  h'.SetOf (intKind P w) s.heap.objs.size (fun z => decide (z ∈ ns)) (dl ns).length ∧ ∀ x o, x < s.heap.objs.size → s.heap.get? x = some o → h'.get? x = some o
theorem call_setI {l : Addr} {ns : List Int} {its : Array Value} {Q : Value → Shared → Prop} (hh : A.handled = none) (hl : s.heap.IsList l its) (hn9 : ns.length ≤ 1000) (hsz : its.size = ns.length) (hi : ∀ (i : Nat) (v : Value), its[i]? = some v → ∃ z t, ns[i]? = some z ∧ v = .int z t)
    (h : ∀ (h' : Heap) (tk : Nat), IntS P w ns s h' → Q (.ref s.heap.objs.size) { s with heap := h', toks := tk }) : wpAny (model P w) A (call (.type "set") [.ref l]) Q E s := by
  obtain ⟨c, tl, mro⟩ := PySem.F.called_set.mro
  have made := PySem.F.called_set.made
  have sub := PySem.F.called_set.sub
  have nt := PySem.F.called_set.notType
  have cc := PySem.F.called_set.canCreate
  have tc := PySem.F.typeCall_set_1 (.ref l)
  refine wpAny_call (codeAny_of_tree (show wpAny _ _ (callAny (.type "set") _) _ _ _ from wpAny_pure ⟨Code.quiet_builtin _ (by decide +kernel), codeAny_builtin PySem.F.entry_type_call ?_⟩))
  rw [Around.under_plain (weight_type_call_type "set" [.ref l] []) rfl]
  repeat (any_goals (first | assumption | wp_step))
  refine codeAny_mono (code_set_new_1 (.ref l) (E := E) (Q₁ := fun x t => ∃ g : Bool, x = .ref s.heap.objs.size ∧ t = { s with heap := s.heap.push (emp g) }) fun g => ⟨g, rfl, rfl⟩) fun r t hr => ?_
  cases r with
  | error e => exact hr
  | ok fl =>
    cases fl with
    | ret x =>
      obtain ⟨g, rfl, rfl⟩ := hr
      have hS : (s.heap.push (emp g)).get? s.heap.objs.size = some (emp g) := Heap.get?_push_size _ rfl
      have hT : Shared.TypeIs { s with heap := s.heap.push (emp g) } (.ref s.heap.objs.size) "set" := ⟨_, hS, rfl⟩
      have li := PySem.F.called_set.init.lookup
      have bi := PySem.F.called_set.init.bind (.ref s.heap.objs.size)
      repeat (any_goals (first | assumption | wp_step))
      refine codeAny_mono (codeAny_call_builtin (R := wants (fun r t => r = .none ∧ ∃ h' tk, t = { s with heap := h', toks := tk } ∧ IntS P w ns s h') E) PySem.F.called_set.init.plain PySem.F.entry_set_init (check_set_init_1 hT ?_)) fun r t hr => ?_
      · obtain ⟨ol, hol, hc, m, hd⟩ := hl
        obtain ⟨cls, dict, data, sls⟩ := ol
        simp only at hc hd
        subst hc hd
        have hol' : (s.heap.push (emp g)).get? l = some ⟨.type "list", dict, .seq its m, sls⟩ := Heap.get?_push_of_some _ hol
        have n1 := PySem.F.sub_list_set
        have n2 := PySem.F.sub_list_frozenset
        have n3 : (Value.type "list" == Value.type "dict") = false := rfl
        have hl1 : (s.heap.push (emp g)).IsList l its := ⟨_, hol', rfl, m, rfl⟩
        unfold Builtin.«set.__init__» noKeywords Builtin.Frozenset.updateFrom
        generalize hPI : pyIter = PI
        wp_walk
        subst hPI
        refine wpAny_pyIter_list hl1 (wpAny_bind (wpAny_runValue ?_))
        have lts : l < s.heap.objs.size := Heap.lt_size hol
        have h3 : A.in1.in1.in1.handled = none := by simp [hh]
        have sz : (s.heap.push (emp g)).objs.size = s.heap.objs.size + 1 := Heap.size_push ..
        have ne1 : l ≠ (s.heap.push (emp g)).objs.size := by rw [sz]; exact Nat.ne_of_lt (Nat.lt_succ_of_lt lts)
        have ne2 : s.heap.objs.size ∉ [(s.heap.push (emp g)).objs.size, l] := by rw [sz]; simp only [List.mem_cons, List.not_mem_nil, or_false, not_or]; exact ⟨Nat.ne_of_lt (Nat.lt_succ_self _), Nat.ne_of_gt lts⟩
        refine upd_int ((Walks.list h3 _ l ne1 its).toS) s.heap.objs.size ne2 (ns := ns) hsz hn9 hi (its.size - 0) 0 _ rfl (Nat.zero_le _) ⟨⟨_, Heap.get?_push_size _ rfl, rfl, rfl⟩, hl1.push _⟩ ?s0 ?sR
        case s0 =>
          exact SetOf_eq ((setObjOf_fresh (knd := intKind P w) g).setOf (Heap.get?_push_of_some _ hS) (by unfold scanBound; omega)) rfl rfl
        case sR =>
          intro s' mv hS'
          obtain ⟨h', g', d', tk', os'⟩ := s'
          have eg : g' = s.gens := mv.gens
          have ed : d' = s.drawn := mv.drawn
          have eo : os' = s.os := mv.os
          subst eg ed eo
          refine wpAny_pure (show wpAny _ _ (ret Value.none) _ _ _ from wpAny_pure ⟨rfl, h', tk', rfl, SetOf_eq hS' (by rw [hsz, List.take_length]) (by rw [hsz, List.take_length]), fun x o hx e => ?_⟩)
          refine mv.heap x o ?_ (Heap.get?_push_of_some _ (Heap.get?_push_of_some _ e))
          rw [sz]
          simp only [List.mem_cons, List.not_mem_nil, or_false, not_or]
          exact ⟨Nat.ne_of_lt hx, Nat.ne_of_lt (Nat.lt_succ_of_lt hx)⟩
      · cases r with
        | error e => exact hr
        | ok fl =>
          cases fl with
          | ret r =>
            obtain ⟨rfl, h', tk, rfl, q⟩ := hr
            repeat (any_goals (first | assumption | wp_step))
            exact h _ _ q
          | _ => exact hr.elim
    | _ => exact hr.elim
end
section
variable {X : Cx}
def tLenSetI (K : PySem.W.Frag) (ta : TE) : TE := fun σ H Q => tCons ta tNil σ H fun vs H1 => ∃ p ns, vs = [.ref p] ∧ SqL K H1 p (ns.map V.int) ∧ ns.length ≤ 1000 ∧ Q (.int ((dl ns).length : Nat)) H1
theorem pe_lensetI {e : Expr} {ta : TE} {p p2 pos pos2 : Pos} (hc : X.calm = true) (hgl : Gl X "len") (hml : X.mg "len" = none) (hgs : Gl X "set") (hms : X.mg "set" = none) (ha : PE X e ta)
    (hs : starEach [e] X.env = (false, eval e X.env) :: starEach [] X.env := by rfl) (hs2 : starEach [.Call (.Name "set" p2) [e] [] pos2] X.env = (false, eval (.Call (.Name "set" p2) [e] [] pos2) X.env) :: starEach [] X.env := by rfl) :
    PE X (.Call (.Name "len" p) [.Call (.Name "set" p2) [e] [] pos2] [] pos) (tLenSetI X.K ta) := by
  intro pins s σ H Q I h
  refine wpAny_Call_Name_kw (ld_blt I hgl hml PySem.boot_len (PyProof.Rows.callWith_builtin1 ?_ hs2 rfl))
  rw [hs2]
  show wpAny _ _ (spliced ((false, eval (.Call (.Name "set" p2) [e] [] pos2) X.env) :: backTo pos (starEach [] X.env))) _ _ s
  refine Calls.spliced_cons (wpAny_Call_Name_kw (ld_blt I hgs hms set_boot (PyProof.Rows.callWith_type1 ?_ hs rfl)))
  refine thn (pa_cons ha pa_nil hs pos2 pins s σ H _ I h) fun us s1 ⟨vs, H1, I1, r1, pq, ns, e1, hq, hn9, q⟩ => ?_
  cases e1
  obtain ⟨u, rfl, rx⟩ := vals1 r1
  cases rx
  obtain ⟨its, rv, pl, hz⟩ := I1.list hq
  have hlen : its.toArray.size = ns.length := by rw [List.size_toArray, ← rv.length, List.length_map]
  refine call_setI (ns := ns) (I1.ok.hd hc) pl.isList hn9 hlen (fun i v hv => ?_) fun h' tk ⟨⟨o, es, ep, t, ho, ex, hd, _, _, hbd, hf, hn⟩, kp⟩ => ?_
  · have hv' : its[i]? = some v := by simpa using hv
    have hi : i < its.length := (List.getElem?_eq_some_iff.mp hv').1
    have hi' : i < ns.length := by rw [← hlen]; simpa using hi
    obtain ⟨t, ht⟩ := vint rv (List.getElem?_eq_getElem hi')
    rw [hv'] at ht
    cases ht
    exact ⟨_, t, List.getElem?_eq_getElem hi', rfl⟩
  · refine Calls.spliced_nil ?_
    have le := dl_le ns
    refine call_len_set ho ex hd hf (by rw [hn]; omega) ?_
    rw [hn]
    exact ⟨.int ((dl ns).length : Nat), H1, I1.kept (t' := _) fun x o e => kp x o (Heap.lt_size e) e, ⟨_, rfl⟩, q⟩
theorem pe_lensetIK {K : PySem.W.Frag} (h : X.K = K) {e : Expr} {ta : TE} {p p2 pos pos2 : Pos} (hc : X.calm = true) (hgl : Gl X "len") (hml : X.mg "len" = none) (hgs : Gl X "set") (hms : X.mg "set" = none) (ha : PE X e ta)
    (hs : starEach [e] X.env = (false, eval e X.env) :: starEach [] X.env := by rfl) (hs2 : starEach [.Call (.Name "set" p2) [e] [] pos2] X.env = (false, eval (.Call (.Name "set" p2) [e] [] pos2) X.env) :: starEach [] X.env := by rfl) :
    PE X (.Call (.Name "len" p) [.Call (.Name "set" p2) [e] [] pos2] [] pos) (tLenSetI K ta) := by subst h; exact pe_lensetI hc hgl hml hgs hms ha hs hs2
end
end L2

set_option Elab.async false
set_option linter.all false
set_option maxRecDepth 100000
set_option maxHeartbeats 2000000
namespace L2
section
variable (sg : Nat → Nat × Nat)
def okJ (M : List Int) (n : Nat) : Bool := decide (M.getD (sg n).1 0 ≠ M.getD (sg n).2 0)
def jnN (M : List Int) (n : Nat) : List Int := jn M (sg n).1 (sg n).2
def behind (n : Nat) (ns : List Nat) : Bool := match ns.getLast? with
  | none => true
  | some b => decide (b < n)
def exts (ps : List Nat) (x : List Nat × List Int) : List (List Nat × List Int) := (ps.filter fun n => behind n x.1 && okJ sg x.2 n).map fun n => (x.1 ++ [n], jnN sg x.2 n)
def frst (ps : List Nat) (m : Nat) : Nat → List (List Nat × List Int)
  | 0 => [([], mks0 m)]
  | t + 1 => (frst ps m t).flatMap (exts sg ps)
def jf (m : Nat) (ns : List Nat) : List Int := ns.foldl (jnN sg) (mks0 m)
def cnt (c : Nat) (P : List Int → Bool) : List Nat → List Int → Nat
  | [], M => if decide ((dl M).length = c) && P M then 1 else 0
  | n :: q, M => cnt c P q M + if okJ sg M n then cnt c P q (jnN sg M n) else 0
def wst (W : List (List Int)) (n : Nat) : List (List Int) := W ++ (W.filter fun M => okJ sg M n).map fun M => jnN sg M n
def wys (q : List Nat) (W : List (List Int)) : List (List Int) := q.foldl (wst sg) W
def ext (P : List Int → Bool) : Nat → List Nat → List Int → Nat
  | 0, _, M => if P M then 1 else 0
  | _ + 1, [], _ => 0
  | t + 1, n :: q, M => (if okJ sg M n then ext P t q (jnN sg M n) else 0) + ext P (t + 1) q M
end
variable {sg : Nat → Nat × Nat} {c : Nat} {P : List Int → Bool}
theorem len_filter_sum {α : Type} (p : α → Bool) : ∀ l : List α, (l.filter p).length = (l.map fun x => if p x then 1 else 0).sum
  | [] => rfl
  | x :: l => by
    rw [List.map_cons, List.sum_cons, ← len_filter_sum p l]
    by_cases h : p x = true
    · rw [List.filter_cons_of_pos h, if_pos h, List.length_cons]; omega
    · rw [List.filter_cons_of_neg h, if_neg h]; omega
theorem ways_cnt : ∀ (q : List Nat) (W : List (List Int)), ((wys sg q W).filter fun M => decide ((dl M).length = c) && P M).length = (W.map (cnt sg c P q)).sum
  | [], W => len_filter_sum _ W
  | n :: q, W => by
    show ((wys sg q (wst sg W n)).filter _).length = _
    rw [ways_cnt q]
    unfold wst
    rw [List.map_append, List.sum_append, List.map_map]
    induction W with
    | nil => rfl
    | cons M W ih =>
      simp only [List.map_cons, List.sum_cons]
      by_cases h : okJ sg M n = true
      · rw [List.filter_cons_of_pos (p := fun M => okJ sg M n) h, List.map_cons, List.sum_cons]
        show _ = (cnt sg c P q M + if okJ sg M n then cnt sg c P q (jnN sg M n) else 0) + _
        rw [if_pos h, ← ih]
        simp only [Function.comp]
        omega
      · rw [List.filter_cons_of_neg (p := fun M => okJ sg M n) h]
        show _ = (cnt sg c P q M + if okJ sg M n then cnt sg c P q (jnN sg M n) else 0) + _
        rw [if_neg h, ← ih]
        omega
theorem jn_len (M : List Int) (a b : Nat) : (jn M a b).length = M.length := by unfold jn; rw [List.length_map]
theorem getD_in {M : List Int} {a : Nat} (h : a < M.length) : M.getD a 0 ∈ M := by
  rw [List.getD_eq_getElem?_getD, List.getElem?_eq_getElem h]; exact List.getElem_mem h
theorem dl_jn {M : List Int} {a b : Nat} (ha : a < M.length) (hb : b < M.length) (h : M.getD a 0 ≠ M.getD b 0) : (dl (jn M a b)).length + 1 = (dl M).length := by
  have ma := getD_in ha
  have mb := getD_in hb
  have hp : (dl (jn M a b)).Perm ((dl M).erase (M.getD b 0)) := by
    refine (List.perm_ext_iff_of_nodup (dl_nodup _) ((dl_nodup M).erase _)).mpr fun x => ?_
    rw [dl_mem, (dl_nodup M).mem_erase_iff, dl_mem]
    unfold jn
    rw [List.mem_map]
    constructor
    · rintro ⟨y, hy, e⟩
      by_cases c : y = M.getD b 0
      · rw [if_pos c] at e; rw [← e]; exact ⟨h, ma⟩
      · rw [if_neg c] at e; rw [← e]; exact ⟨c, hy⟩
    · rintro ⟨h1, h2⟩
      exact ⟨x, h2, by rw [if_neg h1]⟩
  have := hp.length_eq
  have mem : M.getD b 0 ∈ dl M := (dl_mem M _).mpr mb
  rw [List.length_erase_of_mem mem] at this
  have := List.length_pos_of_mem mem
  omega
def SgOk (sg : Nat → Nat × Nat) (m : Nat) (q : List Nat) : Prop := ∀ n ∈ q, (sg n).1 < m ∧ (sg n).2 < m
theorem ok_dl {m : Nat} {M : List Int} {n : Nat} (hM : M.length = m) (h1 : (sg n).1 < m) (h2 : (sg n).2 < m) (h : okJ sg M n = true) : (dl (jnN sg M n)).length + 1 = (dl M).length := dl_jn (by omega) (by omega) (by simpa [okJ] using h)
theorem cnt_zero {m : Nat} : ∀ (q : List Nat) (M : List Int), SgOk sg m q → M.length = m → (dl M).length < c → cnt sg c P q M = 0
  | [], M, _, _, h => by
    show (if decide ((dl M).length = c) && P M then 1 else 0) = 0
    rw [decide_eq_false (by omega)]; rfl
  | n :: q, M, hs, hM, h => by
    show cnt sg c P q M + (if okJ sg M n then cnt sg c P q (jnN sg M n) else 0) = 0
    have hs' : SgOk sg m q := fun x hx => hs x (List.mem_cons_of_mem _ hx)
    rw [cnt_zero q M hs' hM h]
    by_cases k : okJ sg M n = true
    · have := ok_dl hM (hs n (by simp)).1 (hs n (by simp)).2 k
      rw [if_pos k, cnt_zero q _ hs' (by unfold jnN; rw [jn_len, hM]) (by omega)]
    · rw [if_neg k]
theorem ext_0 (q : List Nat) (M : List Int) : ext sg P 0 q M = if P M then 1 else 0 := by cases q <;> simp [ext]
theorem ext_cnt {m : Nat} : ∀ (q : List Nat) (M : List Int) (t : Nat), SgOk sg m q → M.length = m → (dl M).length = t + c → ext sg P t q M = cnt sg c P q M
  | [], M, 0, _, _, h => by
    show (if P M then 1 else 0) = if decide ((dl M).length = c) && P M then 1 else 0
    rw [decide_eq_true (show (dl M).length = c by omega), Bool.true_and]
  | [], M, t + 1, _, _, h => by
    show 0 = if decide ((dl M).length = c) && P M then 1 else 0
    rw [decide_eq_false (show ¬ (dl M).length = c by omega)]; rfl
  | n :: q, M, 0, hs, hM, h => by
    have hs' : SgOk sg m q := fun x hx => hs x (List.mem_cons_of_mem _ hx)
    have ih := ext_cnt q M 0 hs' hM h
    show ext sg P 0 (n :: q) M = cnt sg c P q M + if okJ sg M n then cnt sg c P q (jnN sg M n) else 0
    rw [ext_0, ← ext_0 (sg := sg) q M, ih]
    by_cases k : okJ sg M n = true
    · have := ok_dl hM (hs n (by simp)).1 (hs n (by simp)).2 k
      have z := cnt_zero (sg := sg) (c := c) (P := P) q (jnN sg M n) hs' (by unfold jnN; rw [jn_len, hM]) (by omega)
      rw [if_pos k, z, Nat.add_zero]
    · rw [if_neg k, Nat.add_zero]
  | n :: q, M, t + 1, hs, hM, h => by
    have hs' : SgOk sg m q := fun x hx => hs x (List.mem_cons_of_mem _ hx)
    show (if okJ sg M n then ext sg P t q (jnN sg M n) else 0) + ext sg P (t + 1) q M = cnt sg c P q M + if okJ sg M n then cnt sg c P q (jnN sg M n) else 0
    rw [ext_cnt q M (t + 1) hs' hM h]
    by_cases k : okJ sg M n = true
    · have := ok_dl hM (hs n (by simp)).1 (hs n (by simp)).2 k
      rw [if_pos k, if_pos k, ext_cnt q _ t hs' (by unfold jnN; rw [jn_len, hM]) (by omega)]
      omega
    · rw [if_neg k, if_neg k]; omega
theorem ext_sum {M : List Int} {t : Nat} : ∀ (q : List Nat), q.Pairwise (· < ·) → ext sg P (t + 1) q M = ((q.filter fun n => okJ sg M n).map fun n => ext sg P t (q.filter fun x => decide (n < x)) (jnN sg M n)).sum
  | [], _ => rfl
  | n :: q, hp => by
    obtain ⟨h1, h2⟩ := List.pairwise_cons.mp hp
    have e1 : (n :: q).filter (fun x => decide (n < x)) = q := by
      rw [List.filter_cons_of_neg (p := fun x => decide (n < x)) (by simp)]
      exact List.filter_eq_self.mpr fun x hx => by simpa using h1 x hx
    have e2 : ((q.filter fun n => okJ sg M n).map fun n' => ext sg P t ((n :: q).filter fun x => decide (n' < x)) (jnN sg M n')).sum = ((q.filter fun n => okJ sg M n).map fun n' => ext sg P t (q.filter fun x => decide (n' < x)) (jnN sg M n')).sum := by
      congr 1
      refine List.map_congr_left fun n' hn' => ?_
      have := h1 n' ((List.mem_filter.mp hn').1)
      rw [List.filter_cons_of_neg (p := fun x => decide (n' < x)) (by simp; omega)]
    show (if okJ sg M n then ext sg P t q (jnN sg M n) else 0) + ext sg P (t + 1) q M = _
    by_cases k : okJ sg M n = true
    · rw [List.filter_cons_of_pos (p := fun n => okJ sg M n) k, List.map_cons, List.sum_cons, e1, e2, if_pos k, ext_sum q h2]
    · rw [List.filter_cons_of_neg (p := fun n => okJ sg M n) k, e2, if_neg k, ext_sum q h2, Nat.zero_add]
theorem behind_snoc (n b : Nat) (ns : List Nat) : behind n (ns ++ [b]) = decide (b < n) := by unfold behind; rw [List.getLast?_concat]
theorem behind_up {n n' : Nat} {ns : List Nat} (h : behind n ns = true) (l : n < n') : behind n' ns = true := by
  unfold behind at *
  split
  · rfl
  · rename_i b e
    rw [e] at h
    have h : b < n := by simpa using h
    exact decide_eq_true (by omega)
def gx (sg : Nat → Nat × Nat) (P : List Int → Bool) (ps : List Nat) (t : Nat) (x : List Nat × List Int) : Nat := ext sg P t (ps.filter fun n => behind n x.1) x.2
theorem gx_sum {ps : List Nat} (hp : ps.Pairwise (· < ·)) (t : Nat) (x : List Nat × List Int) : gx sg P ps (t + 1) x = ((exts sg ps x).map (gx sg P ps t)).sum := by
  unfold gx exts
  rw [ext_sum _ (hp.filter _), List.map_map, List.filter_filter]
  have e : (ps.filter fun n => okJ sg x.2 n && behind n x.1) = ps.filter fun n => behind n x.1 && okJ sg x.2 n := by
    congr 1; funext n; rw [Bool.and_comm]
  rw [e]
  congr 1
  refine List.map_congr_left fun n hn => ?_
  have hb : behind n x.1 = true := by
    have := (List.mem_filter.mp hn).2
    rw [Bool.and_eq_true] at this
    exact this.1
  show ext sg P t _ _ = ext sg P t (ps.filter fun y => behind y (x.1 ++ [n])) (jnN sg x.2 n)
  congr 1
  rw [List.filter_filter]
  congr 1
  funext y
  rw [behind_snoc]
  by_cases l : n < y
  · rw [decide_eq_true l, behind_up hb l]; rfl
  · rw [decide_eq_false l]; rfl
theorem flat_sum {α β : Type} (f : α → List β) (g : β → Nat) : ∀ l : List α, ((l.flatMap f).map g).sum = (l.map fun x => ((f x).map g).sum).sum
  | [] => rfl
  | x :: l => by rw [List.flatMap_cons, List.map_append, List.sum_append, flat_sum f g l, List.map_cons, List.sum_cons]
theorem frs_cnt {ps : List Nat} (hp : ps.Pairwise (· < ·)) (m : Nat) : ∀ (t s : Nat), ((frst sg ps m (s + t)).filter fun x => P x.2).length = ((frst sg ps m s).map (gx sg P ps t)).sum
  | 0, s => by
    rw [Nat.add_zero, len_filter_sum]
    congr 1
    exact List.map_congr_left fun x _ => (ext_0 _ _).symm
  | t + 1, s => by
    rw [show s + (t + 1) = s + 1 + t by omega, frs_cnt hp m t (s + 1)]
    show (((frst sg ps m s).flatMap (exts sg ps)).map (gx sg P ps t)).sum = _
    rw [flat_sum]
    congr 1
    exact List.map_congr_left fun x _ => (gx_sum hp t x).symm
theorem dl_mks0 (m : Nat) : (dl (mks0 m)).length = m := by
  have h : ∀ n, dl ((List.range n).map fun (i : Nat) => (i : Int)) = (List.range n).map fun (i : Nat) => (i : Int) := fun n => by
    induction n with
    | zero => rfl
    | succ n ih =>
      rw [List.range_succ, List.map_append, List.map_cons, List.map_nil, dl_snoc, ih, if_neg]
      intro z
      obtain ⟨i, hi, e⟩ := List.mem_map.mp z
      have := List.mem_range.mp hi
      omega
  unfold mks0
  rw [h, List.length_map, List.length_range]
theorem mks0_len (m : Nat) : (mks0 m).length = m := by unfold mks0; simp
theorem forests_count {ps : List Nat} {m t : Nat} (hp : ps.Pairwise (· < ·)) (hs : SgOk sg m ps) (hm : m = t + c) : ((frst sg ps m t).filter fun x => P x.2).length = ((wys sg ps [mks0 m]).filter fun M => decide ((dl M).length = c) && P M).length := by
  have h := frs_cnt (sg := sg) (P := P) hp m t 0
  rw [Nat.zero_add] at h
  rw [h, ways_cnt]
  show ([([], mks0 m)].map (gx sg P ps t)).sum = _
  simp only [List.map_cons, List.map_nil, List.sum_cons, List.sum_nil, Nat.add_zero]
  show ext sg P t (ps.filter fun n => behind n []) (mks0 m) = _
  rw [show (ps.filter fun n => behind n []) = ps from List.filter_eq_self.mpr fun x _ => rfl]
  exact ext_cnt ps _ t hs (mks0_len m) (by rw [dl_mks0]; exact hm)
structure Fr (sg : Nat → Nat × Nat) (ps : List Nat) (m t : Nat) (x : List Nat × List Int) : Prop where
  l : x.1.length = t
  r : x.1.Pairwise (· < ·)
  i : ∀ n ∈ x.1, n ∈ ps
  e : x.2 = jf sg m x.1
  o : ∀ i n, x.1[i]? = some n → okJ sg (jf sg m (x.1.take i)) n = true
theorem jf_snoc (m : Nat) (ns : List Nat) (n : Nat) : jf sg m (ns ++ [n]) = jnN sg (jf sg m ns) n := by unfold jf; rw [List.foldl_append]; rfl
theorem jf_len (m : Nat) (ns : List Nat) : (jf sg m ns).length = m := by
  have : ∀ (ns : List Nat) (M : List Int), (ns.foldl (jnN sg) M).length = M.length := by
    intro ns
    induction ns with
    | nil => intro M; rfl
    | cons n ns ih => intro M; rw [List.foldl_cons, ih]; unfold jnN; rw [jn_len]
  unfold jf
  rw [this, mks0_len]
theorem rise_snoc {ns : List Nat} {n : Nat} (h : ns.Pairwise (· < ·)) (b : behind n ns = true) : (ns ++ [n]).Pairwise (· < ·) := by
  refine List.pairwise_append.mpr ⟨h, List.pairwise_singleton _ _, fun a ha y hy => ?_⟩
  have ey : y = n := by simpa using hy
  subst ey
  unfold behind at b
  cases e : ns.getLast? with
  | none => rw [List.getLast?_eq_none_iff.mp e] at ha; cases ha
  | some z =>
    rw [e] at b
    have b : z < y := by simpa using b
    obtain ⟨pre, rfl⟩ : ∃ pre, ns = pre ++ [z] := by
      have := List.getLast?_eq_some_iff.mp e
      exact this
    rcases List.mem_append.mp ha with q | q
    · have := (List.pairwise_append.mp h).2.2 a q z (by simp)
      omega
    · have : a = z := by simpa using q
      omega
theorem frs_ok {ps : List Nat} {m : Nat} : ∀ {t : Nat} {x : List Nat × List Int}, x ∈ frst sg ps m t → Fr sg ps m t x
  | 0, x, h => by
    have : x = ([], mks0 m) := by simpa [frst] using h
    subst this
    exact ⟨rfl, List.Pairwise.nil, (fun n hn => by cases hn), rfl, (fun i n h => by simp at h)⟩
  | t + 1, x, h => by
    obtain ⟨y, hy, hx⟩ := List.mem_flatMap.mp (show x ∈ (frst sg ps m t).flatMap (exts sg ps) from h)
    obtain ⟨n, hn, rfl⟩ := List.mem_map.mp hx
    have F := frs_ok hy
    obtain ⟨h1, h2⟩ := List.mem_filter.mp hn
    rw [Bool.and_eq_true] at h2
    refine ⟨by rw [List.length_append, F.l]; rfl, rise_snoc F.r h2.1, fun z hz => ?_, ?_, fun i z hz => ?_⟩
    · rcases List.mem_append.mp hz with q | q
      · exact F.i z q
      · have : z = n := by simpa using q
        rw [this]; exact h1
    · rw [jf_snoc, ← F.e]
    · have hz : (y.1 ++ [n])[i]? = some z := hz
      show okJ sg (jf sg m ((y.1 ++ [n]).take i)) z = true
      by_cases c : i < y.1.length
      · rw [List.getElem?_append_left c] at hz
        rw [List.take_append_of_le_length (by omega)]
        exact F.o i z hz
      · have hi : i = y.1.length := by
          have := (List.getElem?_eq_some_iff.mp hz).1
          rw [List.length_append] at this
          simp only [List.length_cons, List.length_nil] at this
          omega
        subst hi
        rw [List.getElem?_append_right (Nat.le_refl _), Nat.sub_self] at hz
        cases hz
        rw [List.take_left, ← F.e]
        exact h2.2
def Lx (a b : List Nat) : Prop := ∃ (j p q : Nat), a[j]? = some p ∧ b[j]? = some q ∧ (∀ i, i < j → a[i]? = b[i]?) ∧ p < q
theorem Lx.snoc {a b : List Nat} (h : Lx a b) (x y : Nat) : Lx (a ++ [x]) (b ++ [y]) := by
  obtain ⟨j, p, q, h1, h2, h3, h4⟩ := h
  have l1 := (List.getElem?_eq_some_iff.mp h1).1
  have l2 := (List.getElem?_eq_some_iff.mp h2).1
  exact ⟨j, p, q, by rw [List.getElem?_append_left l1]; exact h1, by rw [List.getElem?_append_left l2]; exact h2, fun i hi => by rw [List.getElem?_append_left (by omega), List.getElem?_append_left (by omega)]; exact h3 i hi, h4⟩
theorem Lx.last {a : List Nat} {x y : Nat} (h : x < y) : Lx (a ++ [x]) (a ++ [y]) := ⟨a.length, x, y, by rw [List.getElem?_append_right (Nat.le_refl _), Nat.sub_self]; rfl, by rw [List.getElem?_append_right (Nat.le_refl _), Nat.sub_self]; rfl, fun i hi => by rw [List.getElem?_append_left hi, List.getElem?_append_left hi], h⟩
theorem frs_lx {ps : List Nat} (hp : ps.Pairwise (· < ·)) {m : Nat} : ∀ t : Nat, (frst sg ps m t).Pairwise fun x y => Lx x.1 y.1
  | 0 => List.pairwise_singleton _ _
  | t + 1 => by
    show ((frst sg ps m t).flatMap (exts sg ps)).Pairwise _
    refine List.pairwise_flatMap.mpr ⟨fun x _ => ?_, (frs_lx hp t).imp fun {x y} h a ha b hb => ?_⟩
    · unfold exts
      exact List.pairwise_map.mpr ((hp.filter _).imp fun h => Lx.last h)
    · obtain ⟨n, _, rfl⟩ := List.mem_map.mp ha
      obtain ⟨n', _, rfl⟩ := List.mem_map.mp hb
      exact h.snoc _ _
end L2

set_option Elab.async false
set_option linter.all false
set_option maxHeartbeats 1000000
namespace Mq
end Mq
namespace L2
open PySem PySem.Spec PyProof.Rows
abbrev RE := RD × Mq.Q2
section
variable {CK : Kd → Addr} {K : PySem.W.Frag} {H H' : Hp}
end
section
variable {m n : Nat} {hp : List Mq.Q2} {d : RD} {e : RE}
end
end L2

set_option Elab.async false
set_option linter.all false
set_option maxRecDepth 100000
set_option maxHeartbeats 4000000
namespace K64
open PySem L2
def top (i : Nat) : Stmt := PySem.Challenge.pw_ohmyard_k64_partings_listed.main.body.getD i (.Pass ⟨0, 0, 0, 0⟩)
section
variable {P : Program} {w : World} {K : PySem.W.Frag} {mg : Str → Option Value} {base : Heap} {f g1 g2 g3 g4 g5 g6 g7 g8 : Addr} {fd gd1 gd2 gd3 gd4 gd5 gd6 gd7 gd8 : FuncData} {CX : CXT}
abbrev sWhole : Stmt := top 10
theorem scWhole : FnScope ["thing"] ["thing"] (defScope sWhole) := ⟨rfl, rfl, rfl, by decide +kernel, rfl, by decide +kernel, by decide +kernel⟩
theorem ok_whole {dV : Value} (F : FunD K "is_whole" "is_whole" sWhole dV f fd) (b : Bl mg) : FnOk P w K mg base CX 1 f fd ["thing"] (spWhole K) := by
  refine F.ok scWhole (fun vs H Q E h => ?_) (fun cdv A outer s H vs Q E hr h => ?_)
  · obtain ⟨x, rfl, _⟩ := h
    rfl
  obtain ⟨x, rfl, h⟩ := h
  refine ⟨_, pss_one (ps_ret (pe_and (pe_isiQ (i := 0) rfl (Or.inl rfl) b.isi b.int rfl rfl PyProof.Rows.boot_int) (pe_one (pe_not (pe_isiQ (i := 0) rfl (Or.inl rfl) b.isi b.bool rfl rfl PyProof.Rows.boot_bool))))), ?_⟩
  rcases h with ⟨i, rfl, q⟩ | ⟨t, ty, nw, q⟩
  · exact ⟨_, _, _, rfl, .of (.int i), rfl, _, rfl, iteT ⟨_, _, false, rfl, .of (.int i), (by with_unfolding_all rfl), _, rfl, q⟩⟩
  · rcases nw with rfl | rfl | rfl | rfl | rfl
    · exact ⟨_, _, true, rfl, .of ty, (by with_unfolding_all rfl), _, rfl, iteT ⟨_, _, _, rfl, .of ty, rfl, _, rfl, q⟩⟩
    all_goals exact ⟨_, _, false, rfl, .of ty, (by with_unfolding_all rfl), _, rfl, iteF q⟩
abbrev sGc : Stmt := top 12
theorem scGc : FnScope ["one", "other", "rest"] ["one", "other"] (defScope sGc) := ⟨rfl, rfl, rfl, by decide +kernel, rfl, by decide +kernel, by decide +kernel⟩
theorem ok_gc {dV : Value} (F : FunD K "greatest_common" "greatest_common" sGc dV f fd) (b : Bl mg) : FnOk P w K mg base CX 1 f fd ["one", "other"] spGc := by
  refine F.ok scGc (fun vs H Q E h => ?_) (fun cdv A outer s H vs Q E hr h => ?_)
  · obtain ⟨x, y, rfl, _⟩ := h
    rfl
  obtain ⟨x, y, rfl, q⟩ := h
  refine ⟨_, pss_cons (ps_while PassesOwn.never (pt_cmpR op_ne (pv 1) pe_int (nomark _)) (pss_cons (ps_set (i := 2) scGc.nd rfl (Or.inl rfl) (pe_op op_modN (pv 0) (pv 1)))
    (pss_cons (ps_set (i := 0) scGc.nd rfl (Or.inl rfl) (pv 1)) (pss_one (ps_set (i := 1) scGc.nd rfl (Or.inl rfl) (pv 2))))))
    (pss_one (ps_ret (pe_callB call_abs rfl b.abs PyProof.Rows.boot_abs (pa_cons (pv 0) pa_nil)))), ?_⟩
  refine while_by (fun σ H' => H' = H ∧ ∃ u v z, σ = [some (.int u), some (.int v), z] ∧ Mq.gc u v = Mq.gc x y) (fun σ _ => match σ with | [_, some (.int v), _] => v.natAbs | _ => 0) ⟨rfl, x, y, none, rfl, rfl⟩ ?_ ?_
  · rintro σ H' ⟨rfl, u, v, z, rfl, e⟩
    refine ⟨_, rfl, rfl, _, rfl, ?_⟩
    refine ite2 (fun c => ?_) (fun c => ?_)
    · have hv : v ≠ 0 := by intro q; subst q; simp at c
      refine ⟨_, rfl, _, rfl, _, _, rfl, rfl, hv, _, rfl, _, rfl, ⟨rfl, v, Int.fmod u v, _, rfl, (Mq.gc_step u v).trans e⟩, Mq.fmod_less hv⟩
    · have hv : v = 0 := by
        simp at c
        exact c
      subst hv
      refine ⟨_, rfl, _, rfl, ?_⟩
      rw [← Mq.gc_zero, e]
      exact q
  · rintro σ H Q Q' m ⟨v, h1, h2, k, h3, h4⟩
    exact ⟨v, h1, h2, k, h3, m _ _ h4⟩
abbrev sUnder : Stmt := top 13
theorem scUnder : FnScope ["one", "other"] ["one", "other"] (defScope sUnder) := ⟨rfl, rfl, rfl, by decide +kernel, rfl, by decide +kernel, by decide +kernel⟩
theorem ok_under {dV : Value} (F : FunD K "under" "under" sUnder dV f fd) : FnOk P w K mg base CX 1 f fd ["one", "other"] (spUnder K) := by
  refine F.ok scUnder (fun vs H Q E h => ?_) (fun cdv A outer s H vs Q E hr h => ?_)
  · obtain ⟨a, b, p, q, n, m, rfl, _⟩ := h
    rfl
  obtain ⟨a, b, p, q, n, m, rfl, ha, hb, bp, bq, hn, z⟩ := h
  refine ⟨_, pss_one (ps_ret (pe_cmpR op_lt (pe_op op_mulB (pe_ix ix_tup (pv 0) pe_int (fun _ _ => rfl)) (pe_ix ix_tup (pv 1) pe_int (fun _ _ => rfl))) (pe_op op_mulB (pe_ix ix_tup (pv 1) pe_int (fun _ _ => rfl)) (pe_ix ix_tup (pv 0) pe_int (fun _ _ => rfl))) (nomark _))), ?_⟩
  exact rd_ix0 rfl ha (rd_ix1 rfl hb (rd_mulB bp.a bq.b (by omega) (by omega) (rd_ix0 rfl hb (rd_ix1 rfl ha (rd_mulB bq.a bp.b (by omega) (by omega) ⟨_, _, rfl, rfl, z⟩)))))
variable {CR : Addr} {CK : Kd → Addr} {fW fJ fT fS : Kd → Addr} {fdW fdJ fdT fdS : Kd → FuncData}
abbrev sRInit : Stmt := inClass (top 17) 0
theorem scRInit : FnScope ["self", "start", "goal", "size"] ["self", "start", "goal", "size"] (defScope sRInit) := ⟨rfl, rfl, rfl, by decide +kernel, rfl, by decide +kernel, by decide +kernel⟩
theorem ok_rinit {dV : Value} (F : FunD K "__init__" "Row.__init__" sRInit dV f fd) (T : RT K mg CR CK) : FnOk P w K mg base CX 1 f fd ["self", "start", "goal", "size"] (spRInit CK) := by
  refine F.ok scRInit (fun vs H Q E h => ?_) (fun cdv A outer s H vs Q E hr h => ?_)
  · obtain ⟨x, dx, k, s, g, z, rfl, _⟩ := h
    rfl
  obtain ⟨x, dx, k, s, g, z, rfl, hx, q⟩ := h
  refine ⟨_, (pss_cons (ps_fld (pv 0) (pv 1) rfl) (pss_cons (ps_fld (pv 0) (pv 2) rfl) (pss_one (ps_fld (pv 0) (pv 3) rfl)))), ?_⟩
  have l1 := length_putF ("start" : Str) s []
  have l2 := length_putF ("goal" : Str) g (putF "start" s [])
  simp only [List.length_nil] at l1
  refine ⟨_, rfl, _, rfl, x, CK k, dx, [], rfl, hx, T.cl k, T.nS k, (by show 0 < 1000; decide), ?_⟩
  refine ⟨_, rfl, _, rfl, x, CK k, dx, _, rfl, upd_same, T.cl k, T.nG k, by omega, ?_⟩
  refine ⟨_, rfl, _, rfl, x, CK k, dx, _, rfl, upd_same, T.cl k, T.nZ k, by omega, ?_⟩
  rw [upd_upd, upd_upd]
  exact q
abbrev sWord_pc : Stmt := inClass (top 18) 0
theorem scWord_pc : FnScope ["self"] ["self"] (defScope sWord_pc) := ⟨rfl, rfl, rfl, by decide +kernel, rfl, by decide +kernel, by decide +kernel⟩
theorem ok_word_pc {dV : Value} (F : FunD K "word" "Piece.word" sWord_pc dV f fd) : FnOk P w K mg base CX 1 f fd ["self"] (spWord .pc) := by
  refine F.ok scWord_pc (fun vs H Q E h => ?_) (fun cdv A outer s H vs Q E hr h => ?_)
  · obtain ⟨x, rfl, _⟩ := h
    rfl
  obtain ⟨x, rfl, q⟩ := h
  exact ⟨_, (pss_one (ps_ret pe_str)), q⟩
abbrev sWord_pu : Stmt := inClass (top 19) 0
theorem scWord_pu : FnScope ["self"] ["self"] (defScope sWord_pu) := ⟨rfl, rfl, rfl, by decide +kernel, rfl, by decide +kernel, by decide +kernel⟩
theorem ok_word_pu {dV : Value} (F : FunD K "word" "Push.word" sWord_pu dV f fd) : FnOk P w K mg base CX 1 f fd ["self"] (spWord .pu) := by
  refine F.ok scWord_pu (fun vs H Q E h => ?_) (fun cdv A outer s H vs Q E hr h => ?_)
  · obtain ⟨x, rfl, _⟩ := h
    rfl
  obtain ⟨x, rfl, q⟩ := h
  exact ⟨_, (pss_one (ps_ret pe_str)), q⟩
abbrev sWord_ho : Stmt := inClass (top 20) 0
theorem scWord_ho : FnScope ["self"] ["self"] (defScope sWord_ho) := ⟨rfl, rfl, rfl, by decide +kernel, rfl, by decide +kernel, by decide +kernel⟩
theorem ok_word_ho {dV : Value} (F : FunD K "word" "Hold.word" sWord_ho dV f fd) : FnOk P w K mg base CX 1 f fd ["self"] (spWord .ho) := by
  refine F.ok scWord_ho (fun vs H Q E h => ?_) (fun cdv A outer s H vs Q E hr h => ?_)
  · obtain ⟨x, rfl, _⟩ := h
    rfl
  obtain ⟨x, rfl, q⟩ := h
  exact ⟨_, (pss_one (ps_ret pe_str)), q⟩
abbrev sRTold : Stmt := inClass (top 17) 1
theorem scRTold : FnScope ["self"] ["self"] (defScope sRTold) := ⟨rfl, rfl, rfl, by decide +kernel, rfl, by decide +kernel, by decide +kernel⟩
theorem ok_rtold {dV : Value} (F : FunD K "told" "Row.told" sRTold dV f fd) (T : RT K mg CR CK)
    (GW : ∀ k, FnOk P w K mg base CX0 1 (fW k) (fdW k) ["self"] (spWord k)) (bW : ∀ k, Binds K (fdW k) ["self"] []) (mW : ∀ k, Meth K (CK k) "word" (fW k)) : FnOk P w K mg base CX 2 f fd ["self"] (spRTold CK) := by
  refine F.ok scRTold (fun vs H Q E h => ?_) (fun cdv A outer s H vs Q E hr h => ?_)
  · obtain ⟨x, k, s, g, z, rfl, _⟩ := h
    rfl
  obtain ⟨x, k, s, g, z, rfl, ⟨dx, hx⟩, q⟩ := h
  refine ⟨_, (pss_one (ps_ret (pe_tup (pa_cons (pe_methD0 (pv 0) T.cl mW GW hr bW .nil pass0) (pa_cons (pe_fld (pv 0) rfl) (pa_cons (pe_fld (pv 0) rfl) (pa_cons (pe_fld (pv 0) rfl) pa_nil))))))), ?_⟩
  refine ⟨_, rfl, k, x, dx, _, rfl, hx, (rflds_no _ _ _ (by decide +kernel) (by decide +kernel) (by decide +kernel)), _, rfl, ?_⟩
  refine ⟨_, rfl, x, CK k, dx, _, _, rfl, hx, T.cl k, T.nS k, rflds_start _ _ _, ?_⟩
  refine ⟨_, rfl, x, CK k, dx, _, _, rfl, hx, T.cl k, T.nG k, rflds_goal _ _ _, ?_⟩
  refine ⟨_, rfl, x, CK k, dx, _, _, rfl, hx, T.cl k, T.nZ k, rflds_size _ _ _, ?_⟩
  exact ⟨by show 4 ≤ sizeLine; decide, q⟩
abbrev sRowOf : Stmt := top 21
theorem scRowOf : FnScope ["told", "word"] ["told"] (defScope sRowOf) := ⟨rfl, rfl, rfl, by decide +kernel, rfl, by decide +kernel, by decide +kernel⟩
theorem ok_rowof {dV : Value} {gI : Addr} {gdI : FuncData} (F : FunD K "row_of" "row_of" sRowOf dV f fd) (T : RT K mg CR CK) (b : Bl mg) (ms : mg "str" = none)
    (GI : FnOk P w K mg base CX0 1 gI gdI ["self", "start", "goal", "size"] (spRInit CK)) (bI : Binds K gdI ["self", "start", "goal", "size"] []) (MK : ∀ k, Mk K (CK k) gI) : FnOk P w K mg base CX 3 f fd ["told"] (spRowOfG K CK) := by
  refine F.ok scRowOf (fun vs H Q E h => ?_) (fun cdv A outer s H vs Q E hr h => ?_)
  · obtain ⟨t, v, s, g, z, rfl, _⟩ := h
    rfl
  obtain ⟨t, v, s, g, z, rfl, hT, k, rfl, q⟩ := h
  refine ⟨_, (pss_cons (ps_set (i := 1) scRowOf.nd rfl (Or.inl rfl) (pe_ix ix_tup (pv 0) pe_int (fun _ _ => rfl)))
    (pss_cons (ps_if (PW.pt (pw_and (pt_val (pe_isiQ (i := 1) rfl (Or.inl rfl) b.isi ms rfl rfl PyProof.Rows.boot_str)) (pw_and1 (pt_cmpR op_eq (pv 1) pe_str (nomark _))))) (pss_one (ps_ret (pe_make (MK .pc) GI hr rfl (T.mK .pc) bI .nil pass0 (pa_cons (pe_ix ix_tup (pv 0) pe_int (fun _ _ => rfl)) (pa_cons (pe_ix ix_tup (pv 0) pe_int (fun _ _ => rfl)) (pa_cons (pe_ix ix_tup (pv 0) pe_int (fun _ _ => rfl)) pa_nil)))))) pss_nil)
    (pss_cons (ps_if (PW.pt (pw_and (pt_val (pe_isiQ (i := 1) rfl (Or.inl rfl) b.isi ms rfl rfl PyProof.Rows.boot_str)) (pw_and1 (pt_cmpR op_eq (pv 1) pe_str (nomark _))))) (pss_one (ps_ret (pe_make (MK .pu) GI hr rfl (T.mK .pu) bI .nil pass0 (pa_cons (pe_ix ix_tup (pv 0) pe_int (fun _ _ => rfl)) (pa_cons (pe_ix ix_tup (pv 0) pe_int (fun _ _ => rfl)) (pa_cons (pe_ix ix_tup (pv 0) pe_int (fun _ _ => rfl)) pa_nil)))))) pss_nil)
    (pss_cons (ps_if (PW.pt (pw_and (pt_val (pe_isiQ (i := 1) rfl (Or.inl rfl) b.isi ms rfl rfl PyProof.Rows.boot_str)) (pw_and1 (pt_cmpR op_eq (pv 1) pe_str (nomark _))))) (pss_one (ps_ret (pe_make (MK .ho) GI hr rfl (T.mK .ho) bI .nil pass0 (pa_cons (pe_ix ix_tup (pv 0) pe_int (fun _ _ => rfl)) (pa_cons (pe_ix ix_tup (pv 0) pe_int (fun _ _ => rfl)) (pa_cons (pe_ix ix_tup (pv 0) pe_int (fun _ _ => rfl)) pa_nil)))))) pss_nil)
    (pss_one ps_never))))), ?_⟩
  cases k
  · refine cut2 (fun _ _ => False) (fun X _ => ?_) (fun _ _ h => h.elim)
    refine ⟨_, rfl, t, _, 0, _, rfl, rfl, hT, rfl, ?_⟩
    exact ⟨_, _, true, rfl, .of (.str _), rfl, _, rfl, iteT ⟨_, rfl, rfl, _, rfl, ifT (dec_wd .pc .pc) ⟨_, rfl, t, _, 1, s, rfl, rfl, hT, rfl, _, rfl, t, _, 2, g, rfl, rfl, hT, rfl, _, rfl, t, _, 3, z, rfl, rfl, hT, rfl, fun x dx h1 h2 ne => ⟨x, dx, .pc, s, g, z, rfl, upd_same, rfl, by rw [upd_upd]; exact q x _ (Rw.new h1 h2 ne) h1 ⟨dx, upd_same⟩⟩⟩⟩⟩
  · refine cut3 (fun _ _ => False) (fun X _ => ?_) (fun _ _ h => h.elim)
    refine ⟨_, rfl, t, _, 0, _, rfl, rfl, hT, rfl, ?_⟩
    exact ⟨_, _, true, rfl, .of (.str _), rfl, _, rfl, iteT ⟨_, rfl, rfl, _, rfl, ifF (dec_wd .pu .pc) (⟨_, _, true, rfl, .of (.str _), rfl, _, rfl, iteT ⟨_, rfl, rfl, _, rfl, ifT (dec_wd .pu .pu) ⟨_, rfl, t, _, 1, s, rfl, rfl, hT, rfl, _, rfl, t, _, 2, g, rfl, rfl, hT, rfl, _, rfl, t, _, 3, z, rfl, rfl, hT, rfl, fun x dx h1 h2 ne => ⟨x, dx, .pu, s, g, z, rfl, upd_same, rfl, by rw [upd_upd]; exact q x _ (Rw.new h1 h2 ne) h1 ⟨dx, upd_same⟩⟩⟩⟩⟩)⟩⟩
  · refine cut4 (fun _ _ => False) (fun X _ => ?_) (fun _ _ h => h.elim)
    refine ⟨_, rfl, t, _, 0, _, rfl, rfl, hT, rfl, ?_⟩
    exact ⟨_, _, true, rfl, .of (.str _), rfl, _, rfl, iteT ⟨_, rfl, rfl, _, rfl, ifF (dec_wd .ho .pc) (⟨_, _, true, rfl, .of (.str _), rfl, _, rfl, iteT ⟨_, rfl, rfl, _, rfl, ifF (dec_wd .ho .pu) (⟨_, _, true, rfl, .of (.str _), rfl, _, rfl, iteT ⟨_, rfl, rfl, _, rfl, ifT (dec_wd .ho .ho) ⟨_, rfl, t, _, 1, s, rfl, rfl, hT, rfl, _, rfl, t, _, 2, g, rfl, rfl, hT, rfl, _, rfl, t, _, 3, z, rfl, rfl, hT, rfl, fun x dx h1 h2 ne => ⟨x, dx, .ho, s, g, z, rfl, upd_same, rfl, by rw [upd_upd]; exact q x _ (Rw.new h1 h2 ne) h1 ⟨dx, upd_same⟩⟩⟩⟩⟩)⟩⟩)⟩⟩
abbrev sIsF : Stmt := top 11
theorem scIsF : FnScope ["thing"] ["thing"] (defScope sIsF) := ⟨rfl, rfl, rfl, by decide +kernel, rfl, by decide +kernel, by decide +kernel⟩
theorem ok_isf {dV : Value} (F : FunD K "is_fraction" "is_fraction" sIsF dV f fd)
    (b : Bl mg) (ml : mg "len" = none) (mt : mg "tuple" = none)
    (G1 : FnOk P w K mg base CX0 1 g1 gd1 ["thing"] (spWhole K)) (b1 : Binds K gd1 ["thing"] []) (k1 : PySem.W.keepIn K (.ref g1) = true) (m1 : mg "is_whole" = some (.ref g1))
    (G2 : FnOk P w K mg base CX0 1 g2 gd2 ["one", "other"] spGc) (b2 : Binds K gd2 ["one", "other"] []) (k2 : PySem.W.keepIn K (.ref g2) = true) (m2 : mg "greatest_common" = some (.ref g2)) :
    FnOk P w K mg base CX 2 f fd ["thing"] (spIsFV K) := by
  refine F.ok scIsF (fun vs H Q E h => ?_) (fun cdv A outer s H vs Q E hr h => ?_)
  · obtain ⟨v, o, rfl, hz, q⟩ := h
    rfl
  obtain ⟨v, o, rfl, hz, q⟩ := h
  refine ⟨_, (pss_cons (ps_if (PW.pt (pw_or (pt_not (pt_val (pe_isiQ (i := 0) rfl (Or.inl rfl) b.isi mt rfl rfl PyProof.Rows.boot_tuple))) (pw_or1 (pt_cmpR op_ne (pe_callB call_len_seq rfl ml PySem.boot_len (pa_cons (pv 0) pa_nil)) pe_int (nomark _))))) (pss_one (ps_ret pe_bl)) pss_nil)
    (pss_cons (ps_if (PW.pt (pw_or (pt_not (pt_val (pe_call G1 hr rfl m1 k1 b1 .nil pass0 (pa_cons (pe_ix ix_tup (pv 0) pe_int (fun _ _ => rfl)) pa_nil)))) (pw_or1 (pt_not (pt_val (pe_call G1 hr rfl m1 k1 b1 .nil pass0 (pa_cons (pe_ix ix_tup (pv 0) pe_int (fun _ _ => rfl)) pa_nil))))))) (pss_one (ps_ret pe_bl)) pss_nil)
    (pss_one (ps_ret (pe_and (pe_cmpR op_ge (pe_ix ix_tup (pv 0) pe_int (fun _ _ => rfl)) pe_int (nomark _)) (pe_one (pe_cmpR op_eq (pe_call G2 hr rfl m2 k2 b2 .nil pass0 (pa_cons (pe_ix ix_tup (pv 0) pe_int (fun _ _ => rfl)) (pa_cons (pe_ix ix_tup (pv 0) pe_int (fun _ _ => rfl)) pa_nil))) pe_int (nomark _)))))))), ?_⟩
  cases hz with
  | fr fa hp =>
    refine ⟨_, _, true, rfl, .tup fa, rfl, _, rfl, iteF ⟨_, rfl, _, _, rfl, .inr fa, rfl, _, rfl, iteF ?_⟩⟩
    refine rd_ix0 rfl fa ⟨_, rfl, .inl ⟨_, rfl, _, rfl, iteF (rd_ix1 rfl fa ⟨_, rfl, .inl ⟨_, rfl, _, rfl, iteF ?_⟩⟩)⟩⟩
    have h1 := hp.pos
    refine rd_ix1 rfl fa ⟨_, _, rfl, rfl, _, rfl, ifT (decide_eq_true (by omega)) (rd_ix0 rfl fa (rd_ix1 rfl fa ⟨_, _, rfl, rfl, ?_⟩))⟩
    rw [hp.one]
    exact q
  | ty h n => exact ⟨_, _, false, rfl, h, n, _, rfl, iteT q⟩
  | len h => exact ⟨_, _, true, rfl, .tup h, rfl, _, rfl, iteF ⟨_, rfl, _, _, rfl, .inr h, rfl, _, rfl, iteT q⟩⟩
  | n0 h ty n =>
    refine ⟨_, _, true, rfl, .tup h, rfl, _, rfl, iteF ⟨_, rfl, _, _, rfl, .inr h, rfl, _, rfl, iteF ?_⟩⟩
    exact ⟨_, rfl, _, _, 0, _, rfl, rfl, h, rfl, _, rfl, .inr ⟨_, ty, n, _, rfl, iteT q⟩⟩
  | n1 h ty n =>
    refine ⟨_, _, true, rfl, .tup h, rfl, _, rfl, iteF ⟨_, rfl, _, _, rfl, .inr h, rfl, _, rfl, iteF ?_⟩⟩
    exact ⟨_, rfl, _, _, 0, _, rfl, rfl, h, rfl, _, rfl, .inl ⟨_, rfl, _, rfl, iteF ⟨_, rfl, _, _, 1, _, rfl, rfl, h, rfl, _, rfl, .inr ⟨_, ty, n, _, rfl, iteT q⟩⟩⟩⟩
  | fb fa c =>
    refine ⟨_, _, true, rfl, .tup fa, rfl, _, rfl, iteF ⟨_, rfl, _, _, rfl, .inr fa, rfl, _, rfl, iteF ?_⟩⟩
    refine rd_ix0 rfl fa ⟨_, rfl, .inl ⟨_, rfl, _, rfl, iteF (rd_ix1 rfl fa ⟨_, rfl, .inl ⟨_, rfl, _, rfl, iteF ?_⟩⟩)⟩⟩
    rcases c with c | ⟨c, d⟩
    · exact rd_ix1 rfl fa ⟨_, _, rfl, rfl, _, rfl, ifF (decide_eq_false (by omega)) q⟩
    · refine rd_ix1 rfl fa ⟨_, _, rfl, rfl, _, rfl, ifT (decide_eq_true c) (rd_ix0 rfl fa (rd_ix1 rfl fa ⟨_, _, rfl, rfl, ?_⟩))⟩
      rw [decide_eq_false (fun e => d (by injection e))]
      exact q
abbrev sPS : Stmt := top 22
theorem scPS : FnScope ["thing"] ["thing"] (defScope sPS) := ⟨rfl, rfl, rfl, by decide +kernel, rfl, by decide +kernel, by decide +kernel⟩
theorem ok_ps {dV : Value} (F : FunD K "is_piece_size" "is_piece_size" sPS dV f fd)
    {aN : Addr} (fN : ∀ H, Fq K H aN (0, 1)) (mNO : mg "NOUGHT" = some (.ref aN))
    (G1 : FnOk P w K mg base CX0 2 g1 gd1 ["thing"] (spIsF K)) (b1 : Binds K gd1 ["thing"] []) (k1 : PySem.W.keepIn K (.ref g1) = true) (m1 : mg "is_fraction" = some (.ref g1))
    (G2 : FnOk P w K mg base CX0 1 g2 gd2 ["one", "other"] (spUnder K)) (b2 : Binds K gd2 ["one", "other"] []) (k2 : PySem.W.keepIn K (.ref g2) = true) (m2 : mg "under" = some (.ref g2)) :
    FnOk P w K mg base CX 3 f fd ["thing"] (spPS K) := by
  refine F.ok scPS (fun vs H Q E h => ?_) (fun cdv A outer s H vs Q E hr h => ?_)
  · obtain ⟨a, p, n, rfl, fa, hp, h0, hb, hn, q⟩ := h
    rfl
  obtain ⟨a, p, n, rfl, fa, hp, h0, hb, hn, q⟩ := h
  have r1 := hr.mono (show 1 ≤ 2 by omega)
  refine ⟨_, (pss_one (ps_ret (pe_and (pe_call G1 hr rfl m1 k1 b1 .nil pass0 (pa_cons (pv 0) pa_nil)) (pe_one (pe_call G2 r1 rfl m2 k2 b2 .nil pass0 (pa_cons (pe_glob (v := .ref aN) rfl mNO rfl) (pa_cons (pv 0) pa_nil))))))), ?_⟩
  refine ⟨_, rfl, a, p, rfl, fa, hp, _, rfl, iteT ⟨_, rfl, aN, a, _, p, 1, n, rfl, fN _, fa, ⟨show (0 : Nat) < 2 ^ 1 by decide, show (1 : Nat) < 2 ^ 1 by decide⟩, hb, by omega, ?_⟩⟩
  rw [decide_eq_true (show (0 : Int) * p.2 < p.1 * 1 by omega)]
  exact q
abbrev sNB : Stmt := top 27
theorem scNB : FnScope ["thing", "bound"] ["thing", "bound"] (defScope sNB) := ⟨rfl, rfl, rfl, by decide +kernel, rfl, by decide +kernel, by decide +kernel⟩
theorem ok_nb {dV : Value} (F : FunD K "is_number_below" "is_number_below" sNB dV f fd)
    (G1 : FnOk P w K mg base CX0 1 g1 gd1 ["thing"] (spWhole K)) (b1 : Binds K gd1 ["thing"] []) (k1 : PySem.W.keepIn K (.ref g1) = true) (m1 : mg "is_whole" = some (.ref g1)) :
    FnOk P w K mg base CX 2 f fd ["thing", "bound"] spNB := by
  refine F.ok scNB (fun vs H Q E h => ?_) (fun cdv A outer s H vs Q E hr h => ?_)
  · obtain ⟨i, b', rfl, h0, h1, q⟩ := h
    rfl
  obtain ⟨i, b', rfl, h0, h1, q⟩ := h
  refine ⟨_, (pss_one (ps_ret (pe_and (pe_call G1 hr rfl m1 k1 b1 .nil pass0 (pa_cons (pv 0) pa_nil)) (pe_and (pe_cmpR op_ge (pv 0) pe_int (nomark _)) (pe_one (pe_cmpR op_lt (pv 0) (pv 1) (nomark _))))))), ?_⟩
  refine ⟨_, rfl, _, rfl, .inl ⟨i, rfl, _, rfl, iteT ⟨_, rfl, _, _, rfl, rfl, _, rfl, ifT (decide_eq_true h0) ⟨_, rfl, _, rfl, _, _, rfl, rfl, ?_⟩⟩⟩⟩
  show Q (.bl (decide (i < b'))) H
  rw [decide_eq_true h1]
  exact q
abbrev sRS : Stmt := top 29
theorem scRS : FnScope ["word", "size"] ["word", "size"] (defScope sRS) := ⟨rfl, rfl, rfl, by decide +kernel, rfl, by decide +kernel, by decide +kernel⟩
theorem ok_rs {dV : Value} (F : FunD K "refuse_size" "refuse_size" sRS dV f fd)
    (G1 : FnOk P w K mg base CX0 2 g1 gd1 ["thing"] (spIsF K)) (b1 : Binds K gd1 ["thing"] []) (k1 : PySem.W.keepIn K (.ref g1) = true) (m1 : mg "is_fraction" = some (.ref g1))
    (G2 : FnOk P w K mg base CX0 3 g2 gd2 ["thing"] (spPS K)) (b2 : Binds K gd2 ["thing"] []) (k2 : PySem.W.keepIn K (.ref g2) = true) (m2 : mg "is_piece_size" = some (.ref g2)) :
    FnOk P w K mg base CX 4 f fd ["word", "size"] (spRS K) := by
  refine F.ok scRS (fun vs H Q E h => ?_) (fun cdv A outer s H vs Q E hr h => ?_)
  · obtain ⟨k, z, p, rfl, fz, hp, h0, hb, q⟩ := h
    rfl
  obtain ⟨k, z, p, rfl, fz, hp, h0, hb, q⟩ := h
  have r2 := hr.mono (show 2 ≤ 3 by omega)
  refine ⟨_, (pss_cons (ps_if (pt_not (pt_val (pe_call G1 r2 rfl m1 k1 b1 .nil pass0 (pa_cons (pv 1) pa_nil)))) (pss_one ps_never) pss_nil)
    (pss_one (ps_if (PW.pt (pw_and (pt_cmpR op_eq (pv 0) pe_str (nomark _)) (pw_and1 (pt_not (pt_val (pe_call G2 hr rfl m2 k2 b2 .nil pass0 (pa_cons (pv 1) pa_nil))))))) (pss_one ps_never) pss_nil))), ?_⟩
  refine ⟨_, rfl, z, p, rfl, fz, hp, _, rfl, iteF ?_⟩
  cases k
  · exact ⟨_, rfl, rfl, _, rfl, ifT (dec_wd .pc .pc) ⟨_, rfl, z, p, 100, rfl, fz, hp, h0 rfl, hb, by omega, _, rfl, iteF q⟩⟩
  · exact ⟨_, rfl, rfl, _, rfl, ifF (dec_wd .pu .pc) (iteF q)⟩
  · exact ⟨_, rfl, rfl, _, rfl, ifF (dec_wd .ho .pc) (iteF q)⟩
theorem nd_point_many : (["point", "many"] : List Str).Nodup := by decide +kernel
def spRP (K : PySem.W.Frag) : Sp := fun vs H Q _ => ∃ (l : Addr) (i j m : Int), vs = [.ref l, .int m] ∧ SqL K H l [.int i, .int j] ∧ 0 ≤ i ∧ i < m ∧ 0 ≤ j ∧ j < m ∧ ∀ H', Same H H' → Q .non H'
abbrev sRP : Stmt := top 28
theorem scRP : FnScope ["some", "many"] ["some", "many"] (defScope sRP) := ⟨rfl, rfl, rfl, by decide +kernel, rfl, by decide +kernel, by decide +kernel⟩
theorem ok_rp {dV : Value} (F : FunD K "refuse_points" "refuse_points" sRP dV f fd)
    (ma : mg "all" = none)
    (G1 : FnOk P w K mg base CX0 2 g1 gd1 ["thing", "bound"] spNB) (b1 : Binds K gd1 ["thing", "bound"] []) (k1 : PySem.W.keepIn K (.ref g1) = true) (m1 : mg "is_number_below" = some (.ref g1)) :
    FnOk P w K mg base CX 3 f fd ["some", "many"] (spRP K) := by
  refine F.ok scRP (fun vs H Q E h => ?_) (fun cdv A outer s H vs Q E hr h => ?_)
  · obtain ⟨l, i, j, m, rfl, hl, i0, i1, j0, j1, q⟩ := h
    rfl
  obtain ⟨l, i, j, m, rfl, hl, i0, i1, j0, j1, q⟩ := h
  refine ⟨_, (pss_one (ps_if (pt_not (pt_val (pe_callB (call_all rfl) rfl ma PyProof.Rows.boot_all (pa_cons (pe_comp (nl := 1) (fr := [1]) (Nc := ["point", "many"]) (cl := [("many", s.heap.objs.size + 1)]) rfl ⟨rfl, rfl, by decide +kernel, by decide +kernel, fun x c h => h, has_of rfl, rfl, fun i n h => match i, h with | 0, h => by cases h; exact ⟨1, rfl, rfl, rfl, rfl, .inl rfl⟩ | k + 1, h => by rw [show 1 + (k + 1) = k + 2 by omega] at h; cases h⟩
        (pi_list (pv 0)) (fun C s3 H3 fp pins => (pg_name (i := 0) nd_point_many rfl (Or.inl rfl))) (fun C s3 H3 fp pins => pif_nil)
        (fun C s3 H3 fp pins => (pe_call G1 hr rfl m1 k1 b1 .nil pass0 (pa_cons (pv 0) (pa_cons (pv 1) pa_nil))))) pa_nil)))) (pss_one ps_never) pss_nil)), ?_⟩
  refine ⟨_, rfl, l, rfl, ⟨_, hl⟩, fun D hD => ?_⟩
  have sD := same_new hD (.lst [])
  refine comp_list (xs := [.int i, .int j]) (fun k zs H' => Same H H' ∧ H' D = some (.lst zs) ∧ zs = (List.replicate k true).map V.bl) ⟨sD, upd_same, rfl⟩ (fun k zs H' h => h.2.1) (fun k zs H' _ h => h.1.seq hl) ?_ ?_
  · rintro k zs x H1 hx ⟨s1, e1, rfl⟩ C hC
    have hk : k < 2 := (List.getElem?_eq_some_iff.mp hx).1
    obtain ⟨y, rfl, y0, y1⟩ : ∃ y, x = .int y ∧ 0 ≤ y ∧ y < m := by
      rcases List.mem_cons.mp (List.mem_of_getElem? hx) with z | z
      · exact ⟨i, z, i0, i1⟩
      · exact ⟨j, by simpa using z, j0, j1⟩
    refine ⟨keep1.1, keep1.2, iteT ?_⟩
    refine ⟨_, rfl, _, rfl, y, m, rfl, y0, y1, e1, small1000 (by rw [List.length_map, List.length_replicate]; omega), hC _ _ ⟨s1.change hD, upd_same, ?_⟩⟩
    rw [List.replicate_succ', List.map_append]; rfl
  · rintro zs H1 ⟨s1, e1, rfl⟩
    refine ⟨D, _, rfl, SqL.of e1, _, rfl, ifF ?_ ?_⟩
    · simp
    · exact q _ s1
abbrev sNInit : Stmt := inClass (top 26) 0
theorem scNInit : FnScope ["self", "many"] ["self", "many"] (defScope sNInit) := ⟨rfl, rfl, rfl, by decide +kernel, rfl, by decide +kernel, by decide +kernel⟩
theorem ok_ninit {dV : Value} {CN : Addr} (F : FunD K "__init__" "Net.__init__" sNInit dV f fd) (NTx : NT K mg CN)
    {tM : Tok} (mMP : mg "MOST_POINTS" = some (.int 20 tM))
    (G1 : FnOk P w K mg base CX0 1 g1 gd1 ["thing"] (spWhole K)) (b1 : Binds K gd1 ["thing"] []) (k1 : PySem.W.keepIn K (.ref g1) = true) (m1 : mg "is_whole" = some (.ref g1)) : FnOk P w K mg base CX 2 f fd ["self", "many"] (spNInit CN) := by
  refine F.ok scNInit (fun vs H Q E h => ?_) (fun cdv A outer s H vs Q E hr h => ?_)
  · obtain ⟨n, dx, m, rfl, hn, h1, h20, q⟩ := h
    rfl
  obtain ⟨n, dx, m, rfl, hn, h1, h20, q⟩ := h
  refine ⟨_, (pss_cons (ps_if (PW.pt (pw_or (pt_not (pt_val (pe_call G1 hr rfl m1 k1 b1 .nil pass0 (pa_cons (pv 1) pa_nil)))) (pw_or (pt_cmpR op_lt (pv 1) pe_int (nomark _)) (pw_or1 (pt_cmpR op_gt (pv 1) (pe_glob (v := .int 20) rfl mMP ⟨_, rfl⟩) (nomark _)))))) (pss_one ps_never) pss_nil)
    (pss_cons (ps_fld (pv 0) (pv 1) rfl)
    (pss_one (ps_fld (pv 0) (pe_lst pa_nil) rfl)))), ?_⟩
  refine ⟨_, rfl, _, rfl, .inl ⟨m, rfl, _, rfl, iteF ⟨_, rfl, _, _, rfl, rfl, _, rfl, ifF (decide_eq_false (by omega)) ⟨_, rfl, _, _, rfl, rfl, _, rfl, ifF (decide_eq_false (by omega)) ?_⟩⟩⟩⟩
  refine ⟨_, rfl, _, rfl, n, CN, dx, [], rfl, hn, NTx.cl, NTx.nP, (by show 0 < 1000; decide), ?_⟩
  refine ⟨by show 0 ≤ sizeLine; decide, fun l hl => ?_⟩
  have nl : n ≠ l := fun z => by subst z; rw [upd_same] at hl; cases hl
  have hl0 : H l = none := by rw [upd_ne (Ne.symm nl)] at hl; exact hl
  have l1 := length_putF ("point_count" : Str) (.int m) []
  simp only [List.length_nil] at l1
  refine ⟨_, rfl, n, CN, dx, putF "point_count" (.int m) [], rfl, by rw [upd_ne nl]; exact upd_same, NTx.cl, NTx.nK, by omega, ?_⟩
  refine q l _ hl0 (fun b o e hb => ?_) upd_same (by rw [upd_ne (Ne.symm nl)]; exact upd_same)
  rw [upd_ne hb, upd_ne (ne_of_none e hl0), upd_ne hb]
  exact e
abbrev sMany : Stmt := inClass (top 26) 1
theorem scMany : FnScope ["self"] ["self"] (defScope sMany) := ⟨rfl, rfl, rfl, by decide +kernel, rfl, by decide +kernel, by decide +kernel⟩
theorem ok_many {dV : Value} {CN : Addr} (F : FunD K "many" "Net.many" sMany dV f fd) (NTx : NT K mg CN) : FnOk P w K mg base CX 1 f fd ["self"] (spMany CN K) := by
  refine F.ok scMany (fun vs H Q E h => ?_) (fun cdv A outer s H vs Q E hr h => ?_)
  · obtain ⟨n, l, m, ds, rfl, ⟨⟨dx, hn⟩, ts, hl, hr'⟩, q⟩ := h
    rfl
  obtain ⟨n, l, m, ds, rfl, ⟨⟨dx, hn⟩, ts, hl, hr'⟩, q⟩ := h
  exact ⟨_, (pss_one (ps_ret (pe_fld (pv 0) rfl))), _, rfl, n, CN, dx, _, _, rfl, hn, NTx.cl, NTx.nP, nflds_pc _ _, q⟩
abbrev sNTold : Stmt := inClass (top 26) 6
abbrev sAdd : Stmt := inClass (top 26) 3
theorem scAdd : FnScope ["self", "row", "told"] ["self", "row"] (defScope sAdd) := ⟨rfl, rfl, rfl, by decide +kernel, rfl, by decide +kernel, by decide +kernel⟩
theorem ok_add {dV : Value} {CN : Addr} (F : FunD K "add" "Net.add" sAdd dV f fd) (NTx : NT K mg CN)
    {tR : Tok} (mMR : mg "MOST_ROWS" = some (.int 40 tR)) (ml : mg "len" = none) {gT : Addr} {gdT : FuncData} (T : RT K mg CR CK) (GT : FnOk P w K mg base CX0 2 gT gdT ["self"] (spRTold CK)) (bT : Binds K gdT ["self"] []) (mT : ∀ k, Meth K (CK k) "told" gT)
    (G1 : FnOk P w K mg base CX0 3 g1 gd1 ["some", "many"] (spRP K)) (b1 : Binds K gd1 ["some", "many"] []) (k1 : PySem.W.keepIn K (.ref g1) = true) (m1 : mg "refuse_points" = some (.ref g1))
    (G2 : FnOk P w K mg base CX0 4 g2 gd2 ["word", "size"] (spRS K)) (b2 : Binds K gd2 ["word", "size"] []) (k2 : PySem.W.keepIn K (.ref g2) = true) (m2 : mg "refuse_size" = some (.ref g2)) : FnOk P w K mg base CX 5 f fd ["self", "row"] (spAdd CN K CK) := by
  refine F.ok scAdd (fun vs H Q E h => ?_) (fun cdv A outer s H vs Q E hr h => ?_)
  · obtain ⟨n, l, x, z, m, ds, k, i, j, p, rfl, ⟨⟨dx, hn⟩, ts, hl, hR⟩, rw, fz, ⟨i0, i1, j0, j1, lp, h0, bp⟩, h40, q⟩ := h
    rfl
  obtain ⟨n, l, x, z, m, ds, k, i, j, p, rfl, ⟨⟨dx, hn⟩, ts, hl, hR⟩, rw, fz, ⟨i0, i1, j0, j1, lp, h0, bp⟩, h40, q⟩ := h
  have r2 := hr.mono (show 2 ≤ 4 by omega)
  have r3 := hr.mono (show 3 ≤ 4 by omega)
  refine ⟨_, (pss_cons (ps_set (i := 2) scAdd.nd rfl (Or.inl rfl) (pe_methD0 (f := fun _ => gT) (fd := fun _ => gdT) (sp := fun _ => spRTold CK) (pv 1) T.cl mT (fun _ => GT) r2 (fun _ => bT) .nil pass0))
    (pss_cons (ps_expr (pe_call G1 r3 rfl m1 k1 b1 .nil pass0 (pa_cons (pe_lst (pa_cons (pe_ix ix_tup (pv 2) pe_int (fun _ _ => rfl)) (pa_cons (pe_ix ix_tup (pv 2) pe_int (fun _ _ => rfl)) pa_nil))) (pa_cons (pe_fld (pv 0) rfl) pa_nil))))
    (pss_cons (ps_expr (pe_call G2 hr rfl m2 k2 b2 .nil pass0 (pa_cons (pe_ix ix_tup (pv 2) pe_int (fun _ _ => rfl)) (pa_cons (pe_ix ix_tup (pv 2) pe_int (fun _ _ => rfl)) pa_nil))))
    (pss_cons (ps_if (pt_cmpR op_ge (pe_callB call_len_seq rfl ml PySem.boot_len (pa_cons (pe_fld (pv 0) rfl) pa_nil)) (pe_glob (v := .int 40) rfl mMR ⟨_, rfl⟩) (nomark _)) (pss_one ps_never) pss_nil)
    (pss_cons (ps_expr (pe_bm PySem.F.plainAttrs_list PySem.F.slot_list_append PySem.F.type_list_append mt_append (pe_fld (pv 0) rfl) (pa_cons (pv 2) pa_nil)))
    (pss_one (ps_ret (pe_op op_sub (pe_callB call_len_seq rfl ml PySem.boot_len (pa_cons (pe_fld (pv 0) rfl) pa_nil)) pe_int)))))))), ?_⟩
  obtain ⟨dr, hx⟩ := id rw
  have len := hR.length
  refine ⟨_, rfl, k, x, dr, _, rfl, hx, (rflds_no _ _ _ (by decide +kernel) (by decide +kernel) (by decide +kernel)), x, k, _, _, _, rfl, rw, fun t ht => ?_⟩
  have st := same_new ht (.tup [.str k.wd, .int i, .int j, .ref z])
  have et : SqT K (upd H t (.tup [.str k.wd, .int i, .int j, .ref z])) t [.str k.wd, .int i, .int j, .ref z] := SqT.of upd_same
  generalize upd H t (.tup [.str k.wd, .int i, .int j, .ref z]) = H1a at st et ⊢
  have hn1 := st _ _ hn
  have hl1 := st _ _ hl
  refine ⟨_, rfl, t, _, 1, _, rfl, rfl, et, rfl, _, rfl, t, _, 2, _, rfl, rfl, et, rfl, by show 2 ≤ sizeLine; decide, fun lq hlq => ?_⟩
  have sq := same_new hlq (.lst [.int i, .int j])
  have eq : upd H1a lq (.lst [.int i, .int j]) lq = some (.lst [.int i, .int j]) := upd_same
  generalize upd H1a lq (.lst [.int i, .int j]) = H1b at sq eq ⊢
  have hnb := sq _ _ hn1
  refine ⟨_, rfl, n, CN, dx, _, _, rfl, hnb, NTx.cl, NTx.nP, nflds_pc _ _, lq, i, j, m, rfl, SqL.of eq, i0, i1, j0, j1, fun H1 sc => ?_⟩
  have sqc := sq.trans sc
  have st := st.trans sqc
  have et := sqc.seqT et
  have hn1 := sqc _ _ hn1
  have hl1 := sqc _ _ hl1
  refine ⟨_, rfl, t, _, 0, _, rfl, rfl, et, rfl, _, rfl, t, _, 3, _, rfl, rfl, et, rfl, k, z, p, rfl, st.fq fz, lp, h0, bp, ?_⟩
  refine ⟨_, rfl, n, CN, dx, _, _, rfl, hn1, NTx.cl, NTx.nK, nflds_kept _ _, l, ts, rfl, .inl (SqL.of hl1), _, _, rfl, rfl, _, rfl, ifF (decide_eq_false (by omega)) ?_⟩
  refine ⟨_, rfl, n, CN, dx, _, _, rfl, hn1, NTx.cl, NTx.nK, nflds_kept _ _, .inl ⟨rfl, _, SqL.of hl1⟩, _, rfl, l, ts, .ref t, rfl, rfl, hl1, small1000 (by omega), ?_⟩
  have nn : n ≠ l := ne_of hn1 hl1 (fun z => by cases z)
  have hn2 : upd H1 l (.lst (ts ++ [.ref t])) n = some (.ins CN dx (nflds m l)) := by rw [upd_ne nn]; exact hn1
  have hl2 : upd H1 l (.lst (ts ++ [.ref t])) l = some (.lst (ts ++ [.ref t])) := upd_same
  refine ⟨_, rfl, n, CN, dx, _, _, rfl, hn2, NTx.cl, NTx.nK, nflds_kept _ _, l, _, rfl, .inl (SqL.of hl2), _, _, rfl, rfl, ?_⟩
  show Q (.int (((ts ++ [V.ref t]).length : Int) - 1)) _
  rw [List.length_append, List.length_singleton, len, show (((ds.length + 1 : Nat) : Int) - 1) = (ds.length : Int) by omega]
  refine q _ (st.x.write) ⟨⟨dx, hn2⟩, _, hl2, Rts.upd hl1 ((hR.same st).app (.cons et (st.fq fz) .nil))⟩
theorem nd_told : (["told"] : List Str).Nodup := by decide +kernel
abbrev sRows : Stmt := inClass (top 26) 5
theorem scRows : FnScope ["self"] ["self"] (defScope sRows) := ⟨rfl, rfl, rfl, by decide +kernel, rfl, by decide +kernel, by decide +kernel⟩
theorem ok_rows {dV : Value} {CN : Addr} (F : FunD K "rows" "Net.rows" sRows dV f fd) (NTx : NT K mg CN)
    (G1 : FnOk P w K mg base CX0 3 g1 gd1 ["told"] (spRowOfG K CK)) (b1 : Binds K gd1 ["told"] []) (k1 : PySem.W.keepIn K (.ref g1) = true) (m1 : mg "row_of" = some (.ref g1)) : FnOk P w K mg base CX 4 f fd ["self"] (spRows CN K CK) := by
  refine F.ok scRows (fun vs H Q E h => ?_) (fun cdv A outer s H vs Q E hr h => ?_)
  · obtain ⟨n, l, m, ds, rfl, ⟨⟨dx, hn⟩, ts, hl, hR⟩, h100, q⟩ := h
    rfl
  obtain ⟨n, l, m, ds, rfl, ⟨⟨dx, hn⟩, ts, hl, hR⟩, h100, q⟩ := h
  refine ⟨_, (pss_one (ps_ret (pe_comp (nl := 1) (fr := []) (Nc := ["told"]) (cl := []) rfl ⟨rfl, rfl, by decide +kernel, by decide +kernel, fun x c h => (by cases h), has_of rfl, rfl, fun i n h => (by simp at h)⟩
        (pi_list (pe_fld (pv 0) rfl)) (fun C s3 H3 fp pins => (pg_name (i := 0) nd_told rfl (Or.inl rfl))) (fun C s3 H3 fp pins => pif_nil)
        (fun C s3 H3 fp pins => (pe_call G1 hr rfl m1 k1 b1 .nil pass0 (pa_cons (pv 0) pa_nil)))))), ?_⟩
  have len := hR.length
  refine ⟨_, rfl, n, CN, dx, _, _, rfl, hn, NTx.cl, NTx.nK, nflds_kept _ _, l, rfl, ⟨_, SqL.of hl⟩, fun D hD => ?_⟩
  have sD := same_new hD (.lst [])
  refine comp_list (xs := ts) (fun i zs H' => Same H H' ∧ H' D = some (.lst zs) ∧ Robs CK K H' zs (ds.take i)) ⟨sD, upd_same, .nil⟩ (fun i zs H' h => h.2.1) (fun i zs H' _ h => h.1.seq (SqL.of hl)) ?_ ?_
  · rintro i zs x H1 hx ⟨s1, e1, R1⟩ C hC
    have hi : i < ds.length := by
      have := (List.getElem?_eq_some_iff.mp hx).1
      omega
    obtain ⟨⟨k, u, v, p⟩, hd⟩ : ∃ d, ds[i]? = some d := ⟨_, List.getElem?_eq_getElem hi⟩
    obtain ⟨t, z, et, ht, fz⟩ := hR.at hd
    have ex : x = .ref t := by rw [et] at hx; exact (Option.some.inj hx).symm
    subst ex
    have lz := R1.length
    rw [List.length_take] at lz
    refine ⟨keep1.1, keep1.2, iteT ?_⟩
    refine ⟨_, rfl, t, _, _, _, _, rfl, s1.seqT ht, k, rfl, fun y H2 s2 ny rw => ?_⟩
    have e2 := s2 _ _ e1
    refine ⟨e2, small1000 (by omega), hC _ _ ⟨(s1.trans s2).change hD, upd_same, ?_⟩⟩
    rw [List.take_add_one, hd]
    exact Robs.upd e2 ((R1.same s2).app (.cons rw ((s1.trans s2).fq fz) .nil))
  · rintro zs H1 ⟨s1, e1, R1⟩
    rw [len, List.take_length] at R1
    exact q D zs H1 s1 hD e1 R1
theorem isf_good {g : Addr} {gd : FuncData} (F : FnOk P w K mg base CX0 2 g gd ["thing"] (spIsFV K)) : FnOk P w K mg base CX0 2 g gd ["thing"] (spIsF K) :=
  F.weak fun vs H Q E h => by
    obtain ⟨a, p, rfl, f, l, q⟩ := h
    exact ⟨_, some p, rfl, .fr f l, q⟩
theorem sub_nil {ec : List (Str × Addr)} : ∀ (x : Str) (c : Addr), ([] : List (Str × Addr)).lookup x = some c → ec.lookup x = some c := fun _ _ h => by cases h
theorem sub_cons {ec cl : List (Str × Addr)} {a : Str} {d : Addr} (h : ec.lookup a = some d) (r : ∀ x c, cl.lookup x = some c → ec.lookup x = some c) : ∀ x c, ((a, d) :: cl).lookup x = some c → ec.lookup x = some c := fun x c e => by
  rw [List.lookup_cons] at e
  cases q : x == a with
  | true => rw [q] at e; rw [eq_of_beq q, h]; exact e
  | false => rw [q] at e; exact r x c e
theorem ix_tupK {X : Cx} {K : PySem.W.Frag} (h : X.K = K) : IxR X (rIxT K) := by subst h; exact ix_tup
theorem ix_listK {X : Cx} {K : PySem.W.Frag} (h : X.K = K) : IxR X (rIxL K) := by subst h; exact ix_list
def spJoined (K : PySem.W.Frag) (CK : Kd → Addr) : Sp := fun vs H Q _ => ∃ (a x : Addr) (ms : List Int) (k : Kd) (s g : Nat) (z : V), vs = [.ref a, .ref x] ∧ SqL K H a (ms.map V.int) ∧ Rw CK H x k (.int (s : Int)) (.int (g : Int)) z ∧ s < ms.length ∧ g < ms.length ∧ ms.length ≤ 100 ∧ ∀ l H', Same H H' → H l = none → H' l = some (.lst ((jn ms s g).map V.int)) → Q (.ref l) H'
theorem nd_mark_lost_kept : (["mark", "lost", "kept"] : List Str).Nodup := by decide +kernel
abbrev sJoined : Stmt := top 15
theorem scJoined : FnScope ["marks", "row", "kept", "lost"] ["marks", "row"] (defScope sJoined) := ⟨rfl, rfl, rfl, by decide +kernel, rfl, by decide +kernel, by decide +kernel⟩
theorem ok_joined {dV : Value} (F : FunD K "joined" "joined" sJoined dV f fd)
    (T : RT K mg CR CK) :
    FnOk P w K mg base CX 1 f fd ["marks", "row"] (spJoined K CK) := by
  refine F.ok scJoined (fun vs H Q E h => ?_) (fun cdv A outer s H vs Q E hr h => ?_)
  · obtain ⟨a, x, ms, k, s0, g0, z, rfl, hS, rw, hs, hg, h100, q⟩ := h
    rfl
  obtain ⟨a, x, ms, k, s0, g0, z, rfl, hS, rw, hs, hg, h100, q⟩ := h
  refine ⟨_, (pss_cons (ps_set (i := 2) scJoined.nd rfl (Or.inr rfl) (pe_ix ix_list (pv 0) (pe_fld (pv 1) rfl) (fun _ _ => rfl)))
    (pss_cons (ps_set (i := 3) scJoined.nd rfl (Or.inr rfl) (pe_ix ix_list (pv 0) (pe_fld (pv 1) rfl) (fun _ _ => rfl)))
    (pss_one (ps_ret (pe_comp (nl := 1) (fr := [3, 2]) (Nc := ["mark", "lost", "kept"]) (cl := [("lost", s.heap.objs.size + 2), ("kept", s.heap.objs.size + 1)]) rfl ⟨rfl, rfl, by decide +kernel, by decide +kernel, (sub_cons rfl (sub_cons rfl (sub_nil))), has_of rfl, rfl, fun i n h => match i, h with | 0, h => by cases h; exact ⟨3, rfl, rfl, rfl, rfl, .inl rfl⟩ | 1, h => by cases h; exact ⟨2, rfl, rfl, rfl, rfl, .inl rfl⟩ | k + 2, h => by rw [show 1 + (k + 2) = k + 3 by omega] at h; cases h⟩
        (pi_list (pv 0)) (fun C s3 H3 fp pins => (pg_name (i := 0) nd_mark_lost_kept rfl (Or.inl rfl))) (fun C s3 H3 fp pins => pif_nil)
        (fun C s3 H3 fp pins => (pe_ifExp (pt_cmpR op_eq (pv 0) (pv 1) (nomark _)) (pv 2) (pv 0)))))))), ?_⟩
  obtain ⟨dx, hx⟩ := id rw
  have gi : ∀ {j : Nat}, j < ms.length → atI (ms.map V.int) (j : Int) = some (.int (ms.getD j 0)) := fun h => atI_nat (by rw [List.getElem?_map, List.getElem?_eq_getElem h, List.getD_eq_getElem?_getD, List.getElem?_eq_getElem h]; rfl)
  refine ⟨_, rfl, _, rfl, x, CK _, _, _, _, rfl, hx, T.cl _, T.nS _, rflds_start _ _ _, a, _, _, _, rfl, rfl, hS, gi hs, ?_⟩
  refine ⟨_, rfl, _, rfl, x, CK _, _, _, _, rfl, hx, T.cl _, T.nG _, rflds_goal _ _ _, a, _, _, _, rfl, rfl, hS, gi hg, ?_⟩
  refine ⟨_, rfl, a, rfl, ⟨_, hS⟩, fun D hD => ?_⟩
  have sD := same_new hD (.lst [])
  refine comp_list (xs := ms.map V.int) (fun i zs H' => Same H H' ∧ H' D = some (.lst zs) ∧ zs = ((jn ms s0 g0).take i).map V.int) ⟨sD, upd_same, rfl⟩ (fun i zs H' h => h.2.1) (fun i zs H' _ h => h.1.seq hS) ?_ ?_
  · rintro i zs x H1 hx' ⟨s1, e1, rfl⟩ C hC
    rw [List.getElem?_map] at hx'
    obtain ⟨c, hc, rfl⟩ := Option.map_eq_some_iff.mp hx'
    have hi : i < ms.length := (List.getElem?_eq_some_iff.mp hc).1
    have ej : (jn ms s0 g0)[i]? = some (if c = ms.getD g0 0 then ms.getD s0 0 else c) := by unfold jn; rw [List.getElem?_map, hc]; rfl
    have lj : (jn ms s0 g0).length = ms.length := by unfold jn; rw [List.length_map]
    refine ⟨keep1.1, keep1.2, iteT ?_⟩
    refine ⟨_, rfl, _, rfl, rfl, _, rfl, ?_⟩
    by_cases h : c = ms.getD g0 0
    · rw [if_pos h] at ej
      refine ifT (decide_eq_true (by rw [h])) ⟨_, rfl, e1, small1000 (by rw [List.length_map, List.length_take]; omega), hC _ _ ⟨s1.change hD, upd_same, ?_⟩⟩
      rw [List.take_add_one, ej, List.map_append]; rfl
    · rw [if_neg h] at ej
      refine ifF (decide_eq_false (fun z => h (by injection z))) ⟨_, rfl, e1, small1000 (by rw [List.length_map, List.length_take]; omega), hC _ _ ⟨s1.change hD, upd_same, ?_⟩⟩
      rw [List.take_add_one, ej, List.map_append]; rfl
  · rintro zs H1 ⟨s1, e1, rfl⟩
    have lj : (jn ms s0 g0).length = ms.length := by unfold jn; rw [List.length_map]
    rw [List.length_map, ← lj, List.take_length] at e1
    exact q D H1 s1 hD e1
def NoHo (ds : List RD) : Prop := ∀ d ∈ ds, d.1 ≠ .ho
def spRHo (CN : Addr) (K : PySem.W.Frag) : Sp := fun vs H Q _ => ∃ (n l : Addr) (m : Int) (ds : List RD), vs = [.ref n] ∧ NetAt CN K H n l m ds ∧ ds.length ≤ 100 ∧ NoHo ds ∧ ∀ H', Same H H' → Q .non H'
abbrev sRHo : Stmt := top 30
theorem scRHo : FnScope ["net", "number", "row"] ["net"] (defScope sRHo) := ⟨rfl, rfl, rfl, by decide +kernel, rfl, by decide +kernel, by decide +kernel⟩
theorem ok_rho {dV : Value} (F : FunD K "refuse_holds" "refuse_holds" sRHo dV f fd)
    {CN : Addr} (men : mg "enumerate" = none) (NTx : NT K mg CN) (T : RT K mg CR CK)
    (GW : ∀ k, FnOk P w K mg base CX0 1 (fW k) (fdW k) ["self"] (spWord k)) (bW : ∀ k, Binds K (fdW k) ["self"] []) (mW : ∀ k, Meth K (CK k) "word" (fW k))
    {gRo : Addr} {gdRo : FuncData} (GRo : FnOk P w K mg base CX0 4 gRo gdRo ["self"] (spRows CN K CK)) (bRo : Binds K gdRo ["self"] []) (mRo : Meth K CN "rows" gRo) :
    FnOk P w K mg base CX 5 f fd ["net"] (spRHo CN K) := by
  refine F.ok scRHo (fun vs H Q E h => ?_) (fun cdv A outer s H vs Q E hr h => ?_)
  · obtain ⟨n, l, m, ds, rfl, nt, h100, nh, q⟩ := h
    rfl
  obtain ⟨n, l, m, ds, rfl, nt, h100, nh, q⟩ := h
  have r1 := hr.mono (show 1 ≤ 4 by omega)
  refine ⟨_, (pss_one (ps_for PassesOwn.never rfl (pi_enum rfl men rfl (pa_cons (pe_meth0 (pv 0) NTx.cl mRo GRo hr bRo .nil pass0) pa_nil)) (pg_tup rfl (pgs_cons (pg_name (i := 1) scRHo.nd rfl (Or.inl rfl)) (pgs_cons (pg_name (i := 2) scRHo.nd rfl (Or.inl rfl)) pgs_nil)))
      (pss_one (ps_if (pt_cmpR op_eq (pe_methD0 (pv 2) T.cl mW GW r1 bW .nil pass0) pe_str (nomark _)) (pss_one ps_never) pss_nil)))), ?_⟩
  obtain ⟨dx, hn⟩ := nt.ob
  refine ⟨_, rfl, n, dx, _, rfl, hn, nflds_no _ _ (by decide +kernel) (by decide +kernel), n, l, _, ds, rfl, nt, h100, fun a xs H1 s1 na ea Rb => ?_⟩
  have lxs := Rb.length
  refine ⟨a, rfl, ⟨_, SqL.of ea⟩, ?_⟩
  refine for_enum (xs := xs) (fun i σ H' => Same H1 H' ∧ ∃ z1 z2, σ = [some (.ref n), z1, z2]) ⟨Same.refl _, none, none, rfl⟩ (fun i σ H' _ h => h.1.seq (SqL.of ea)) ?_ ?_
  · rintro i x σ H2 T2 hx ⟨s2, z1, z2, rfl⟩ hT
    have hi : i < ds.length := by
      have := (List.getElem?_eq_some_iff.mp hx).1
      omega
    obtain ⟨⟨k, u, v, p⟩, hd⟩ : ∃ d, ds[i]? = some d := ⟨_, List.getElem?_eq_getElem hi⟩
    obtain ⟨y, z', ey, rw, fz⟩ := Rb.at hd
    have ex : x = .ref y := by rw [ey] at hx; exact (Option.some.inj hx).symm
    subst ex
    have sT := same_new hT (.tup [.int (i : Int), .ref y])
    refine ⟨T2, _, rfl, SqT.of upd_same, rfl, _, _, rfl, _, _, rfl, rfl, ?_⟩
    generalize upd H2 T2 (.tup [.int (i : Int), .ref y]) = H3 at sT ⊢
    obtain ⟨dr, hy⟩ := id (rw.same (s2.trans sT))
    refine ⟨_, rfl, k, y, dr, _, rfl, hy, (rflds_no _ _ _ (by decide +kernel) (by decide +kernel) (by decide +kernel)), _, rfl, rfl, _, rfl, ?_⟩
    have hk : k ≠ .ho := nh _ (List.mem_of_getElem? hd)
    exact L2.ifF (by show decide (V.str k.wd = V.str Kd.ho.wd) = false; rw [dec_wd]; exact decide_eq_false hk) ⟨s2.trans sT, _, _, rfl⟩
  · rintro σ H2 ⟨s2, z1, z2, rfl⟩
    exact q _ (s1.trans s2)
end
end K64

set_option Elab.async false
set_option linter.all false
set_option maxHeartbeats 1000000
namespace L2
open PySem PySem.Spec PyProof.Rows
section
variable {H0 H H' : Hp} {kvs : List (Key × V)} {G : List (Int × List Int)} {as : List Addr}
end
structure Ils (H0 H : Hp) (us : List V) (X : List (List Int)) : Prop where
  l : us.length = X.length
  r : ∀ (i : Nat) (x : V) (ps : List Int), us[i]? = some x → X[i]? = some ps → ∃ a : Addr, x = .ref a ∧ H0 a = none ∧ H a = some (.lst (ps.map V.int))
theorem Ils.from0 {H0 H0' H : Hp} {us : List V} {X : List (List Int)} (f : Ils H0 H us X) (h : ∀ a, H0 a = none → H0' a = none) : Ils H0' H us X := ⟨f.l, fun i x ps h1 h2 => let ⟨a, e, n, r⟩ := f.r i x ps h1 h2; ⟨a, e, h a n, r⟩⟩
end L2

set_option Elab.async false
set_option linter.all false
set_option maxHeartbeats 1000000
namespace L2
open PySem PySem.Spec PyProof.Rows
theorem Ils.snoc {H0 H : Hp} {us : List V} {X : List (List Int)} {a : Addr} {ps : List Int} (f : Ils H0 H us X) (n : H0 a = none) (h : H a = some (.lst (ps.map V.int))) : Ils H0 H (us ++ [.ref a]) (X ++ [ps]) := by
  refine ⟨by rw [List.length_append, List.length_append, f.l]; rfl, fun i x qs h1 h2 => ?_⟩
  have l := f.l
  by_cases c : i < us.length
  · rw [List.getElem?_append_left c] at h1
    rw [List.getElem?_append_left (by omega)] at h2
    exact f.r i x qs h1 h2
  · have hi : i = us.length := by
      have := (List.getElem?_eq_some_iff.mp h1).1
      rw [List.length_append] at this
      simp only [List.length_cons, List.length_nil] at this
      omega
    subst hi
    rw [List.getElem?_append_right (Nat.le_refl _), Nat.sub_self] at h1
    rw [List.getElem?_append_right (by omega), show us.length - X.length = 0 by omega] at h2
    cases h1
    cases h2
    exact ⟨a, rfl, n, h⟩
end L2

set_option Elab.async false
set_option linter.all false
set_option maxRecDepth 100000
set_option maxHeartbeats 2000000
namespace L2
open PySem PySem.Spec PyProof.Rows
def zi (ns : List Nat) : List Int := ns.map fun (n : Nat) => (n : Int)
theorem zi_len (ns : List Nat) : (zi ns).length = ns.length := by unfold zi; simp
theorem zi_get {ns : List Nat} {i n : Nat} (h : ns[i]? = some n) : (zi ns)[i]? = some (n : Int) := by unfold zi; rw [List.getElem?_map, h]; rfl
theorem zi_snoc (ns : List Nat) (n : Nat) : zi (ns ++ [n]) = zi ns ++ [(n : Int)] := by unfold zi; simp
def isP (ds : List RD) (i : Nat) : Bool := match ds[i]? with
  | some d => decide (d.1 = .pc)
  | none => false
def pcs (ds : List RD) : List Nat := (List.range ds.length).filter (isP ds)
def sgF (ds : List RD) (n : Nat) : Nat × Nat := match ds[n]? with
  | some d => (d.2.1.toNat, d.2.2.1.toNat)
  | none => (0, 0)
theorem isP_some {ds : List RD} {i : Nat} {d : RD} (h : ds[i]? = some d) : isP ds i = decide (d.1 = .pc) := by unfold isP; rw [h]
theorem sgF_some {ds : List RD} {i : Nat} {d : RD} (h : ds[i]? = some d) : sgF ds i = (d.2.1.toNat, d.2.2.1.toNat) := by unfold sgF; rw [h]
theorem pcs_rise (ds : List RD) : (pcs ds).Pairwise (· < ·) := List.Pairwise.filter _ List.pairwise_lt_range
theorem pcs_mem {ds : List RD} {n : Nat} (h : n ∈ pcs ds) : ∃ d, ds[n]? = some d ∧ d.1 = .pc := by
  obtain ⟨h1, h2⟩ := List.mem_filter.mp h
  have hn := List.mem_range.mp h1
  have e := List.getElem?_eq_getElem hn
  rw [isP_some e] at h2
  exact ⟨_, e, by simpa using h2⟩
theorem pcs_sg {ds : List RD} {m : Nat} (pt : ∀ d ∈ ds, PtOk (m : Int) d.2.1 d.2.2.1) : SgOk (sgF ds) m (pcs ds) := fun n hn => by
  obtain ⟨d, e, _⟩ := pcs_mem hn
  obtain ⟨a, b, c, d'⟩ := pt d (List.mem_of_getElem? e)
  rw [sgF_some e]
  exact ⟨show d.2.1.toNat < m by omega, show d.2.2.1.toNat < m by omega⟩
theorem pcs_len (ds : List RD) : (pcs ds).length ≤ ds.length := by
  unfold pcs
  refine Nat.le_trans (List.length_filter_le _ _) ?_
  simp
structure FsH (K : PySem.W.Frag) (H0 : Hp) (D : Addr) (H : Hp) (zs : List V) (F : List (List Nat × List Int)) : Prop where
  l : zs.length = F.length
  r : ∀ (i : Nat) (x : V) (f : List Nat × List Int), zs[i]? = some x → F[i]? = some f → ∃ (t a b : Addr), x = .ref t ∧ SqT K H t [.ref a, .ref b] ∧ H a = some (.lst ((zi f.1).map V.int)) ∧ H b = some (.lst (f.2.map V.int)) ∧ H0 a = none ∧ a ≠ D ∧ b ≠ D
theorem FsH.nil {K : PySem.W.Frag} {H0 H : Hp} {D : Addr} : FsH K H0 D H [] [] := ⟨rfl, fun i x f h => by simp at h⟩
theorem FsH.same {K : PySem.W.Frag} {H0 H H' : Hp} {D : Addr} {zs : List V} {F : List (List Nat × List Int)} (s : Same H H') (h : FsH K H0 D H zs F) : FsH K H0 D H' zs F := ⟨h.l, fun i x f h1 h2 => let ⟨t, a, b, e, e1, e2, e3, n⟩ := h.r i x f h1 h2; ⟨t, a, b, e, s.seqT e1, s _ _ e2, s _ _ e3, n⟩⟩
theorem FsH.from0 {K : PySem.W.Frag} {H0 H0' H : Hp} {D : Addr} {zs : List V} {F : List (List Nat × List Int)} (f : FsH K H0 D H zs F) (h : ∀ a, H0 a = none → H0' a = none) : FsH K H0' D H zs F := ⟨f.l, fun i x f' h1 h2 => let ⟨t, a, b, e, e1, e2, e3, n, m⟩ := f.r i x f' h1 h2; ⟨t, a, b, e, e1, e2, e3, h a n, m⟩⟩
theorem FsH.upd {K : PySem.W.Frag} {H0 H : Hp} {D : Addr} {zs : List V} {F : List (List Nat × List Int)} {ys : List V} {o : HO} (f : FsH K H0 D H zs F) (hD : H D = some (.lst ys)) : FsH K H0 D (upd H D o) zs F := ⟨f.l, fun i x f' h1 h2 => by
  obtain ⟨t, a, b, e, e1, e2, e3, n, na, nb⟩ := f.r i x f' h1 h2
  exact ⟨t, a, b, e, SqT.upd e1 hD, by rw [upd_ne na]; exact e2, by rw [upd_ne nb]; exact e3, n, na, nb⟩⟩
theorem FsH.snoc {K : PySem.W.Frag} {H0 H : Hp} {D : Addr} {zs : List V} {F : List (List Nat × List Int)} {t a b : Addr} {f' : List Nat × List Int} (f : FsH K H0 D H zs F) (ht : SqT K H t [.ref a, .ref b]) (ha : H a = some (.lst ((zi f'.1).map V.int))) (hb : H b = some (.lst (f'.2.map V.int))) (n : H0 a = none) (na : a ≠ D) (nb : b ≠ D) : FsH K H0 D H (zs ++ [.ref t]) (F ++ [f']) := by
  refine ⟨by rw [List.length_append, List.length_append, f.l]; rfl, fun i x g h1 h2 => ?_⟩
  have l := f.l
  by_cases c : i < zs.length
  · rw [List.getElem?_append_left c] at h1
    rw [List.getElem?_append_left (by omega)] at h2
    exact f.r i x g h1 h2
  · have hi : i = zs.length := by
      have := (List.getElem?_eq_some_iff.mp h1).1
      rw [List.length_append] at this
      simp only [List.length_cons, List.length_nil] at this
      omega
    subst hi
    rw [List.getElem?_append_right (Nat.le_refl _), Nat.sub_self] at h1
    rw [List.getElem?_append_right (by omega), show zs.length - F.length = 0 by omega] at h2
    cases h1
    cases h2
    exact ⟨t, a, b, rfl, ht, ha, hb, n, na, nb⟩
theorem frst_len (sg : Nat → Nat × Nat) (ps : List Nat) (m : Nat) : ∀ t, (frst sg ps m t).length ≤ ps.length ^ t
  | 0 => Nat.le_refl 1
  | t + 1 => by
    show ((frst sg ps m t).flatMap (exts sg ps)).length ≤ _
    have h : ∀ l : List (List Nat × List Int), (l.flatMap (exts sg ps)).length ≤ l.length * ps.length := by
      intro l
      induction l with
      | nil => simp
      | cons x l ih =>
        rw [List.flatMap_cons, List.length_append, List.length_cons, Nat.succ_mul]
        have : (exts sg ps x).length ≤ ps.length := by unfold exts; rw [List.length_map]; exact List.length_filter_le _ _
        omega
    refine Nat.le_trans (h _) ?_
    rw [Nat.pow_succ]
    exact Nat.mul_le_mul_right _ (frst_len sg ps m t)
end L2

set_option Elab.async false
set_option linter.all false
set_option maxRecDepth 100000
set_option maxHeartbeats 4000000
namespace K64
open PySem L2 Shp
section
variable {P : Program} {w : World} {K : PySem.W.Frag} {mg : Str → Option Value} {base : Heap} {f g1 g2 g3 g4 g5 g6 g7 g8 : Addr} {fd gd1 gd2 gd3 gd4 gd5 gd6 gd7 gd8 : FuncData} {CX : CXT}
variable {CR : Addr} {CK : Kd → Addr} {fW fJ fT fS : Kd → Addr} {fdW fdJ fdT fdS : Kd → FuncData}
def spPNum (CN : Addr) (K : PySem.W.Frag) : Sp := fun vs H Q _ => ∃ (n l : Addr) (m : Int) (ds : List RD), vs = [.ref n] ∧ NetAt CN K H n l m ds ∧ ds.length ≤ 100 ∧ ∀ l' H', Same H H' → H l' = none → H' l' = some (.lst ((zi (pcs ds)).map V.int)) → Q (.ref l') H'
def pcsT (ds : List RD) (i : Nat) : List Nat := (List.range i).filter (isP ds)
theorem pcsT_yes {ds : List RD} {i : Nat} (h : isP ds i = true) : pcsT ds (i + 1) = pcsT ds i ++ [i] := by unfold pcsT; rw [List.range_succ, List.filter_append, List.filter_cons_of_pos h]; rfl
theorem pcsT_no {ds : List RD} {i : Nat} (h : ¬ isP ds i = true) : pcsT ds (i + 1) = pcsT ds i := by unfold pcsT; rw [List.range_succ, List.filter_append, List.filter_cons_of_neg h, List.filter_nil, List.append_nil]
theorem pcsT_len (ds : List RD) (i : Nat) : (pcsT ds i).length ≤ i := by unfold pcsT; refine Nat.le_trans (List.length_filter_le _ _) ?_; simp
def spBehind (K : PySem.W.Frag) : Sp := fun vs H Q _ => ∃ (n : Nat) (a : Addr) (ns : List Nat), vs = [.int (n : Int), .ref a] ∧ SqL K H a ((zi ns).map V.int) ∧ Q (.bl (behind n ns)) H
theorem nd_number_row : (["number", "row"] : List Str).Nodup := by decide +kernel
abbrev sPNum : Stmt := top 35
theorem scPNum : FnScope ["net"] ["net"] (defScope sPNum) := ⟨rfl, rfl, rfl, by decide +kernel, rfl, by decide +kernel, by decide +kernel⟩
theorem ok_pnum {dV : Value} (F : FunD K "piece_numbers" "piece_numbers" sPNum dV f fd)
    {CN : Addr} (men : mg "enumerate" = none) (NTx : NT K mg CN) (T : RT K mg CR CK)
    (GW : ∀ k, FnOk P w K mg base CX0 1 (fW k) (fdW k) ["self"] (spWord k)) (bW : ∀ k, Binds K (fdW k) ["self"] []) (mW : ∀ k, Meth K (CK k) "word" (fW k))
    {gRo : Addr} {gdRo : FuncData} (GRo : FnOk P w K mg base CX0 4 gRo gdRo ["self"] (spRows CN K CK)) (bRo : Binds K gdRo ["self"] []) (mRo : Meth K CN "rows" gRo) :
    FnOk P w K mg base CX 5 f fd ["net"] (spPNum CN K) := by
  refine F.ok scPNum (fun vs H Q E h => ?_) (fun cdv A outer s H vs Q E hr h => ?_)
  · obtain ⟨n, l, m, ds, rfl, nt, h100, q⟩ := h
    rfl
  obtain ⟨n, l, m, ds, rfl, nt, h100, q⟩ := h
  have r1 := hr.mono (show 1 ≤ 4 by omega)
  refine ⟨_, (pss_one (ps_ret (pe_comp (nl := 2) (fr := []) (Nc := ["number", "row"]) (cl := []) (g := (gTup K 2 (gCons (gName 0) (gCons (gName 1) gNil)))) rfl ⟨rfl, rfl, by decide +kernel, by decide +kernel, fun x c h => (by cases h), has_of rfl, rfl, fun i n h => (by simp at h)⟩
        (pi_enum rfl men rfl (pa_cons (pe_meth0 (pv 0) NTx.cl mRo GRo hr bRo .nil pass0) pa_nil)) (fun C s3 H3 fp pins => (pg_tup rfl (pgs_cons (pg_name (i := 0) nd_number_row rfl (Or.inl rfl)) (pgs_cons (pg_name (i := 1) nd_number_row rfl (Or.inl rfl)) pgs_nil)))) (fun C s3 H3 fp pins => (pif_one (pt_cmpR op_eq (pe_methD0 (pv 1) T.cl mW GW r1 bW .nil pass0) pe_str (nomark _))))
        (fun C s3 H3 fp pins => (pv 0))))), ?_⟩
  obtain ⟨dx, hn⟩ := nt.ob
  refine ⟨_, rfl, n, dx, _, rfl, hn, nflds_no _ _ (by decide +kernel) (by decide +kernel), n, l, _, ds, rfl, nt, h100, fun a xs H1 s1 na ea Rb => ?_⟩
  have lxs := Rb.length
  refine ⟨a, rfl, ⟨_, SqL.of ea⟩, fun D hD => ?_⟩
  have sD := same_new hD (.lst [])
  refine comp_enum (xs := xs) (fun i zs H' => Same H1 H' ∧ H' D = some (.lst zs) ∧ zs = (zi (pcsT ds i)).map V.int) ⟨sD, upd_same, rfl⟩ (fun i zs H' h => h.2.1) (fun i zs H' _ h => h.1.seq (SqL.of ea)) ?_ ?_
  · rintro i zs x H2 T2 hx ⟨s2, e2, ez⟩ hT C hC
    have hi : i < ds.length := by
      have := (List.getElem?_eq_some_iff.mp hx).1
      omega
    obtain ⟨⟨k, u, v, p⟩, hd⟩ : ∃ d, ds[i]? = some d := ⟨_, List.getElem?_eq_getElem hi⟩
    obtain ⟨y, z', ey, rw, fz⟩ := Rb.at hd
    have ex : x = .ref y := by rw [ey] at hx; exact (Option.some.inj hx).symm
    subst ex
    have ip := isP_some hd
    have lz : zs.length ≤ 100 := by rw [ez, List.length_map, zi_len]; have := pcsT_len ds i; omega
    have sT := same_new hT (.tup [.int (i : Int), .ref y])
    refine ⟨T2, _, rfl, SqT.of upd_same, rfl, _, _, rfl, _, _, rfl, rfl, keep2.1, keep2.2, ?_⟩
    generalize upd H2 T2 (.tup [.int (i : Int), .ref y]) = H3 at sT ⊢
    obtain ⟨dr, hy⟩ := id (rw.same (s2.trans sT))
    have e3 := sT _ _ e2
    refine ⟨_, rfl, k, y, dr, _, rfl, hy, (rflds_no _ _ _ (by decide +kernel) (by decide +kernel) (by decide +kernel)), _, rfl, rfl, _, rfl, ?_⟩
    by_cases hk : k = .pc
    · refine L2.ifT (by show decide (V.str k.wd = V.str Kd.pc.wd) = true; rw [dec_wd]; exact decide_eq_true hk) ⟨_, rfl, e3, small1000 (by omega), hC _ _ ⟨(s2.trans sT).change hD, upd_same, ?_⟩⟩
      rw [ez, pcsT_yes (by rw [ip]; exact decide_eq_true hk), zi_snoc, List.map_append]; rfl
    · refine L2.ifF (by show decide (V.str k.wd = V.str Kd.pc.wd) = false; rw [dec_wd]; exact decide_eq_false hk) (hC _ _ ⟨s2.trans sT, e3, ?_⟩)
      rw [ez, pcsT_no (by rw [ip, decide_eq_false hk]; decide)]
  · rintro zs H2 ⟨s2, e2, ez⟩
    rw [lxs] at ez
    exact q D H2 (s1.trans s2) (s1.free hD) (by rw [e2, ez]; rfl)
abbrev sBeh : Stmt := top 38
theorem scBeh : FnScope ["number", "numbers"] ["number", "numbers"] (defScope sBeh) := ⟨rfl, rfl, rfl, by decide +kernel, rfl, by decide +kernel, by decide +kernel⟩
theorem ok_beh {dV : Value} (F : FunD K "is_behind" "is_behind" sBeh dV f fd)
    (ml : mg "len" = none) :
    FnOk P w K mg base CX 1 f fd ["number", "numbers"] (spBehind K) := by
  refine F.ok scBeh (fun vs H Q E h => ?_) (fun cdv A outer s H vs Q E hr h => ?_)
  · obtain ⟨n, a, ns, rfl, hS, q⟩ := h
    rfl
  obtain ⟨n, a, ns, rfl, hS, q⟩ := h
  refine ⟨_, (pss_one (ps_ret (pe_or (pe_cmpR op_eq (pe_callB call_len_seq rfl ml PySem.boot_len (pa_cons (pv 1) pa_nil)) pe_int (nomark _)) (pe_one (pe_cmpR op_gt (pv 0) (pe_ix ix_list (pv 1) (pe_un un_neg pe_int) (fun _ _ => rfl)) (nomark _)))))), ?_⟩
  refine ⟨_, rfl, a, _, rfl, .inl hS, rfl, _, rfl, ?_⟩
  cases e : ns.getLast? with
  | none =>
    have e0 : ns = [] := List.getLast?_eq_none_iff.mp e
    subst e0
    exact L2.ifT rfl q
  | some b =>
    obtain ⟨pre, rfl⟩ := List.getLast?_eq_some_iff.mp e
    rw [behind_snoc] at q
    refine L2.ifF (by rw [List.length_map, zi_len, List.length_append]; simp; omega) ?_
    refine ⟨_, rfl, _, rfl, _, rfl, a, _, -1, .int (b : Int), rfl, rfl, hS, ?_, _, _, rfl, rfl, ?_⟩
    · rw [zi_snoc, List.map_append]; exact atI_last _ _
    · have eq : decide ((b : Int) < (n : Int)) = decide (b < n) := by simp
      rw [← eq] at q
      exact q
end
end K64

set_option Elab.async false
set_option linter.all false
set_option maxRecDepth 100000
set_option maxHeartbeats 4000000
namespace K64
open PySem L2 Shp
section
variable {P : Program} {w : World} {K : PySem.W.Frag} {mg : Str → Option Value} {base : Heap} {f g1 g2 g3 g4 g5 g6 g7 g8 : Addr} {fd gd1 gd2 gd3 gd4 gd5 gd6 gd7 gd8 : FuncData} {CX : CXT}
variable {CR : Addr} {CK : Kd → Addr} {fW fJ fT fS : Kd → Addr} {fdW fdJ fdT fdS : Kd → FuncData}
structure NtP (CN : Addr) (K : PySem.W.Frag) (H : Hp) (n l : Addr) (m : Nat) (ds : List RD) : Prop where
  nt : NetAt CN K H n l (m : Int) ds
  pt : ∀ d ∈ ds, PtOk (m : Int) d.2.1 d.2.2.1
  m1 : 1 ≤ m
  m2 : m ≤ 20
  h : ds.length ≤ 40
theorem NtP.same {CN : Addr} {K : PySem.W.Frag} {H H' : Hp} {n l : Addr} {m : Nat} {ds : List RD} (s : Same H H') (h : NtP CN K H n l m ds) : NtP CN K H' n l m ds := ⟨h.nt.same s, h.pt, h.m1, h.m2, h.h⟩
def spLarger (CN : Addr) (K : PySem.W.Frag) : Sp := fun vs H Q _ => ∃ (n l f D0 : Addr) (m : Nat) (ds : List RD) (zs : List V) (F : List (List Nat × List Int)) (H0 : Hp), vs = [.ref n, .ref f] ∧ NtP CN K H n l m ds ∧ SqL K H f zs ∧ FsH K H0 D0 H zs F ∧ (∀ x ∈ F, x.2.length = m ∧ x.1.length ≤ 50) ∧ F.length ≤ 100000 ∧ ∀ f' zs' H', Same H H' → H' f' = some (.lst zs') → FsH K H f' H' zs' (F.flatMap (exts (sgF ds) (pcs ds))) → Q (.ref f') H'
theorem small_l {n : Nat} (h : n ≤ 5000000) : n < sizeLine := by rw [sizeLine_eq]; omega
theorem flat_le {sg : Nat → Nat × Nat} {ps : List Nat} : ∀ l : List (List Nat × List Int), (l.flatMap (exts sg ps)).length ≤ l.length * ps.length
  | [] => by simp
  | x :: l => by
    rw [List.flatMap_cons, List.length_append, List.length_cons, Nat.succ_mul]
    have : (exts sg ps x).length ≤ ps.length := by unfold exts; rw [List.length_map]; exact List.length_filter_le _ _
    have := flat_le (sg := sg) (ps := ps) l
    omega
def extsT (sg : Nat → Nat × Nat) (ps : List Nat) (x : List Nat × List Int) (j : Nat) : List (List Nat × List Int) := exts sg (ps.take j) x
theorem extsT_yes {sg : Nat → Nat × Nat} {ps : List Nat} {x : List Nat × List Int} {j n : Nat} (hn : ps[j]? = some n) (h : (behind n x.1 && okJ sg x.2 n) = true) : extsT sg ps x (j + 1) = extsT sg ps x j ++ [(x.1 ++ [n], jnN sg x.2 n)] := by
  unfold extsT exts
  rw [List.take_add_one, hn]
  show ((ps.take j ++ [n]).filter _).map _ = _
  rw [List.filter_append, List.map_append, List.filter_cons_of_pos (p := fun n => behind n x.1 && okJ sg x.2 n) h]; rfl
theorem extsT_no {sg : Nat → Nat × Nat} {ps : List Nat} {x : List Nat × List Int} {j n : Nat} (hn : ps[j]? = some n) (h : ¬ (behind n x.1 && okJ sg x.2 n) = true) : extsT sg ps x (j + 1) = extsT sg ps x j := by
  unfold extsT exts
  rw [List.take_add_one, hn]
  show ((ps.take j ++ [n]).filter _).map _ = _
  rw [List.filter_append, List.map_append, List.filter_cons_of_neg (p := fun n => behind n x.1 && okJ sg x.2 n) h]; simp
abbrev sLar : Stmt := top 37
theorem scLar : FnScope ["net", "found", "rows", "pieces", "larger", "numbers", "marks", "number"] ["net", "found"] (defScope sLar) := ⟨rfl, rfl, rfl, by decide +kernel, rfl, by decide +kernel, by decide +kernel⟩
theorem ok_lar {dV : Value} (F : FunD K "larger_forests" "larger_forests" sLar dV f fd)
    {CN : Addr} (NTx : NT K mg CN) (T : RT K mg CR CK)
    {gRo : Addr} {gdRo : FuncData} (GRo : FnOk P w K mg base CX0 4 gRo gdRo ["self"] (spRows CN K CK)) (bRo : Binds K gdRo ["self"] []) (mRo : Meth K CN "rows" gRo)
    (G1 : FnOk P w K mg base CX0 5 g1 gd1 ["net"] (spPNum CN K)) (b1 : Binds K gd1 ["net"] []) (k1 : PySem.W.keepIn K (.ref g1) = true) (m1 : mg "piece_numbers" = some (.ref g1))
    (G2 : FnOk P w K mg base CX0 1 g2 gd2 ["number", "numbers"] (spBehind K)) (b2 : Binds K gd2 ["number", "numbers"] []) (k2 : PySem.W.keepIn K (.ref g2) = true) (m2 : mg "is_behind" = some (.ref g2))
    (G3 : FnOk P w K mg base CX0 1 g3 gd3 ["marks", "row"] (spJoined K CK)) (b3 : Binds K gd3 ["marks", "row"] []) (k3 : PySem.W.keepIn K (.ref g3) = true) (m3 : mg "joined" = some (.ref g3)) :
    FnOk P w K mg base CX 6 f fd ["net", "found"] (spLarger CN K) := by
  refine F.ok scLar (fun vs H Q E h => ?_) (fun cdv A outer s H vs Q E hr h => ?_)
  · obtain ⟨n, l, f, D0, m, ds, zs, F, H0, rfl, NP, hf, FH, hF, h5, q⟩ := h
    rfl
  obtain ⟨n, l, f, D0, m, ds, zs, F, H0, rfl, NP, hf, FH, hF, h5, q⟩ := h
  have r1 := hr.mono (show 1 ≤ 5 by omega)
  have r4 := hr.mono (show 4 ≤ 5 by omega)
  refine ⟨_, (pss_cons (ps_set (i := 2) scLar.nd rfl (Or.inl rfl) (pe_meth0 (pv 0) NTx.cl mRo GRo r4 bRo .nil pass0))
    (pss_cons (ps_set (i := 3) scLar.nd rfl (Or.inl rfl) (pe_call G1 hr rfl m1 k1 b1 .nil pass0 (pa_cons (pv 0) pa_nil)))
    (pss_cons (ps_set (i := 4) scLar.nd rfl (Or.inl rfl) (pe_lst pa_nil))
    (pss_cons (ps_for PassesOwn.never rfl (pi_list (pv 1)) (pg_tup rfl (pgs_cons (pg_name (i := 5) scLar.nd rfl (Or.inl rfl)) (pgs_cons (pg_name (i := 6) scLar.nd rfl (Or.inl rfl)) pgs_nil)))
      (pss_one (ps_for PassesOwn.never rfl (pi_list (pv 3)) (pg_name (i := 7) scLar.nd rfl (Or.inl rfl))
      (pss_one (ps_if (PW.pt (pw_and (pt_val (pe_call G2 r1 rfl m2 k2 b2 .nil pass0 (pa_cons (pv 7) (pa_cons (pv 5) pa_nil)))) (pw_and1 (pt_cmpR op_ne (pe_ix ix_list (pv 6) (pe_fld (pe_ix ix_list (pv 2) (pv 7) (fun _ _ => rfl)) rfl) (fun _ _ => rfl)) (pe_ix ix_list (pv 6) (pe_fld (pe_ix ix_list (pv 2) (pv 7) (fun _ _ => rfl)) rfl) (fun _ _ => rfl)) (nomark _))))) (pss_one (ps_expr (pe_bm PySem.F.plainAttrs_list PySem.F.slot_list_append PySem.F.type_list_append mt_append (pv 4) (pa_cons (pe_tup (pa_cons (pe_op op_cat (pv 5) (pe_lst (pa_cons (pv 7) pa_nil))) (pa_cons (pe_call G3 r1 rfl m3 k3 b3 .nil pass0 (pa_cons (pv 6) (pa_cons (pe_ix ix_list (pv 2) (pv 7) (fun _ _ => rfl)) pa_nil))) pa_nil))) pa_nil)))) pss_nil)))))
    (pss_one (ps_ret (pv 4))))))), ?_⟩
  obtain ⟨dx, hn⟩ := NP.nt.ob
  have h40 := NP.h
  have hm20 := NP.m2
  refine ⟨_, rfl, n, dx, _, rfl, hn, nflds_no _ _ (by decide +kernel) (by decide +kernel), n, l, _, ds, rfl, NP.nt, by omega, fun a xs H1 s1 na ea Rb => ?_⟩
  have lxs := Rb.length
  refine ⟨_, rfl, n, l, _, ds, rfl, NP.nt.same s1, by omega, fun pl H2 s2 nP eP => ?_⟩
  have s02 := s1.trans s2
  have pl40 : (pcs ds).length ≤ 40 := Nat.le_trans (pcs_len ds) h40
  have pr := pcs_sg NP.pt
  refine ⟨by show 0 ≤ sizeLine; decide, fun L hL => ?_⟩
  have s3 := same_new hL (.lst [])
  have eL : upd H2 L (.lst []) L = some (.lst []) := upd_same
  generalize upd H2 L (.lst []) = H3 at s3 eL ⊢
  have s03 := s02.trans s3
  have nL : H L = none := s02.free hL
  have fl := flat_le (sg := sgF ds) (ps := pcs ds)
  refine ⟨_, rfl, f, rfl, ⟨_, s03.seq hf⟩, ?_⟩
  refine for_list (xs := zs) (fun i σ H' => Same H H' ∧ Same H2 H' ∧ ∃ (zL : List V) (z5 z6 z7 : Option V), σ = [some (.ref n), some (.ref f), some (.ref a), some (.ref pl), some (.ref L), z5, z6, z7] ∧ H' L = some (.lst zL) ∧ FsH K H L H' zL ((F.take i).flatMap (exts (sgF ds) (pcs ds)))) ⟨s03, s3, [], none, none, none, rfl, eL, .nil⟩ (fun i σ H' _ h => h.1.seq hf) ?_ ?_
  · rintro i x σ H4 hx ⟨s4, s24, zL, z5, z6, z7, rfl, e4, F4⟩
    have hi : i < F.length := by have := (List.getElem?_eq_some_iff.mp hx).1; have := FH.l; omega
    obtain ⟨fo, hfo⟩ : ∃ fo, F[i]? = some fo := ⟨_, List.getElem?_eq_getElem hi⟩
    obtain ⟨tt, A, Bm, rfl, hT, hA, hB, _, _, _⟩ := FH.r i x fo hx hfo
    obtain ⟨lm, l50⟩ := hF fo (List.mem_of_getElem? hfo)
    have fi := fl (F.take i)
    rw [List.length_take] at fi
    have fi2 : min i F.length * (pcs ds).length ≤ 100000 * 40 := Nat.mul_le_mul (by omega) pl40
    refine ⟨tt, _, rfl, s4.seqT hT, rfl, _, _, rfl, _, _, rfl, rfl, ?_⟩
    refine ⟨_, rfl, pl, rfl, ⟨_, s24.seq (SqL.of eP)⟩, ?_⟩
    refine for_list (xs := (zi (pcs ds)).map V.int) (fun j σ H' => Same H H' ∧ Same H2 H' ∧ ∃ (zL : List V) (z7 : Option V), σ = [some (.ref n), some (.ref f), some (.ref a), some (.ref pl), some (.ref L), some (.ref A), some (.ref Bm), z7] ∧ H' L = some (.lst zL) ∧ FsH K H L H' zL ((F.take i).flatMap (exts (sgF ds) (pcs ds)) ++ extsT (sgF ds) (pcs ds) fo j)) ⟨s4, s24, zL, z7, rfl, e4, by show FsH K H L H4 zL (_ ++ []); rw [List.append_nil]; exact F4⟩ (fun j σ H' _ h => h.2.1.seq (SqL.of eP)) ?_ ?_
    · clear F4 e4 s4 s24 z5 z6 z7
      rintro j x σ H5 hx ⟨s5, s25, zL, z7, rfl, e5, F5⟩
      have hj : j < (pcs ds).length := by have := (List.getElem?_eq_some_iff.mp hx).1; rw [List.length_map, zi_len] at this; exact this
      obtain ⟨nb, hnb⟩ : ∃ nb, (pcs ds)[j]? = some nb := ⟨_, List.getElem?_eq_getElem hj⟩
      have ex : x = .int (nb : Int) := by rw [List.getElem?_map, zi_get hnb] at hx; cases hx; rfl
      subst ex
      obtain ⟨⟨k0, u, v, p⟩, hd, _⟩ := pcs_mem (List.mem_of_getElem? hnb)
      obtain ⟨i0, i1, j0, j1⟩ : PtOk (m : Int) u v := NP.pt _ (List.mem_of_getElem? hd)
      have esg := sgF_some hd
      obtain ⟨uN, rfl⟩ : ∃ uN : Nat, u = (uN : Int) := ⟨u.toNat, by omega⟩
      obtain ⟨vN, rfl⟩ : ∃ vN : Nat, v = (vN : Int) := ⟨v.toNat, by omega⟩
      have esg : sgF ds nb = (uN, vN) := esg
      obtain ⟨y, z', ey, rw0, fz⟩ := Rb.at hd
      have rw1 := rw0.same (s2.trans s25)
      obtain ⟨dr, hy⟩ := id rw1
      have ea5 := (s2.trans s25) _ _ ea
      have gi : ∀ {q : Nat}, q < fo.2.length → atI (fo.2.map V.int) (q : Int) = some (.int (fo.2.getD q 0)) := fun h => atI_nat (by rw [List.getElem?_map, List.getElem?_eq_getElem h, List.getD_eq_getElem?_getD, List.getElem?_eq_getElem h]; rfl)
      have lz5 := F5.l
      rw [List.length_append] at lz5
      have le5 : (extsT (sgF ds) (pcs ds) fo j).length ≤ 40 := by
        unfold extsT exts
        rw [List.length_map]
        refine Nat.le_trans (List.length_filter_le _ _) ?_
        rw [List.length_take]; omega
      have ok : okJ (sgF ds) fo.2 nb = decide (fo.2.getD uN 0 ≠ fo.2.getD vN 0) := by unfold okJ; rw [esg]
      refine ⟨_, rfl, _, rfl, nb, A, fo.1, rfl, SqL.of (s5 _ _ hA), ⟨_, rfl, ?_⟩⟩
      by_cases hb : behind nb fo.1 = true
      · refine L2.ifT hb ?_
        refine ⟨_, rfl, _, rfl, _, rfl, a, xs, _, _, rfl, rfl, SqL.of ea5, atI_nat ey, y, CK _, _, _, _, rfl, hy, T.cl _, T.nS _, rflds_start _ _ _, Bm, _, _, _, rfl, rfl, SqL.of (s5 _ _ hB), gi (show uN < fo.2.length by omega), ?_⟩
        refine ⟨_, rfl, _, rfl, _, rfl, a, xs, _, _, rfl, rfl, SqL.of ea5, atI_nat ey, y, CK _, _, _, _, rfl, hy, T.cl _, T.nG _, rflds_goal _ _ _, Bm, _, _, _, rfl, rfl, SqL.of (s5 _ _ hB), gi (show vN < fo.2.length by omega), rfl, _, rfl, ?_⟩
        by_cases ho : fo.2.getD uN 0 = fo.2.getD vN 0
        · refine L2.ifF (by rw [ho]; simp) ?_
          refine ⟨s5, s25, zL, _, rfl, e5, ?_⟩
          rw [extsT_no hnb (by rw [ok, decide_eq_false (fun z => z ho), Bool.and_false]; decide)]
          exact F5
        · refine L2.ifT (by rw [decide_eq_false (fun z => ho (by injection z))]; rfl) ?_
          refine ⟨_, rfl, .inl ⟨rfl, _, SqL.of e5⟩, _, rfl, _, rfl, (by show 1 ≤ sizeLine; decide), fun L1 hL1 => ?_⟩
          have s6 := same_new hL1 (.lst [.int (nb : Int)])
          have e6 : upd H5 L1 (.lst [.int (nb : Int)]) L1 = some (.lst [.int (nb : Int)]) := upd_same
          generalize upd H5 L1 (.lst [.int (nb : Int)]) = H6 at s6 e6 ⊢
          have hA6 := s6 _ _ (s5 _ _ hA)
          refine ⟨A, L1, _, _, rfl, rfl, hA6, e6, Nat.le_of_lt (small_l (by rw [List.length_map, zi_len]; simp only [List.length_cons, List.length_nil]; omega)), fun A2 hA2 => ?_⟩
          have eA : (zi fo.1).map V.int ++ [V.int (nb : Int)] = (zi (fo.1 ++ [nb])).map V.int := by rw [zi_snoc, List.map_append]; rfl
          rw [eA]
          have s7 := same_new hA2 (.lst ((zi (fo.1 ++ [nb])).map V.int))
          have e7 : upd H6 A2 (.lst ((zi (fo.1 ++ [nb])).map V.int)) A2 = some (.lst ((zi (fo.1 ++ [nb])).map V.int)) := upd_same
          generalize upd H6 A2 (.lst ((zi (fo.1 ++ [nb])).map V.int)) = H7 at s7 e7 ⊢
          have s57 := s6.trans s7
          refine ⟨_, rfl, _, rfl, _, rfl, a, xs, _, _, rfl, rfl, SqL.of (s57 _ _ ea5), atI_nat ey, Bm, y, fo.2, k0, uN, vN, .ref z', rfl, SqL.of ((s5.trans s57) _ _ hB), rw1.same s57, by omega, by omega, by omega, fun B2 H8 s8 n8 e8 => ⟨(by show 2 ≤ sizeLine; decide), fun t2 ht2 => ?_⟩⟩
          have s9 := same_new ht2 (.tup [.ref A2, .ref B2])
          have e9 : upd H8 t2 (.tup [.ref A2, .ref B2]) t2 = some (.tup [.ref A2, .ref B2]) := upd_same
          generalize upd H8 t2 (.tup [.ref A2, .ref B2]) = H9 at s9 e9 ⊢
          have s59 := s57.trans (s8.trans s9)
          have e59 := s59 _ _ e5
          refine ⟨L, zL, _, rfl, rfl, e59, small_l (by omega), ?_⟩
          have nA : A2 ≠ L := fun z => by rw [z, s6 _ _ e5] at hA2; cases hA2
          have nB : B2 ≠ L := fun z => by rw [z, s57 _ _ e5] at n8; cases n8
          have nA0 : H A2 = none := (s5.trans s6).free hA2
          refine ⟨(s5.trans s59).change nL, (s25.trans s59).change hL, _, _, rfl, upd_same, ?_⟩
          rw [extsT_yes hnb (by rw [hb, ok, decide_eq_true ho]; rfl), ← List.append_assoc]
          have ej : jnN (sgF ds) fo.2 nb = jn fo.2 uN vN := by unfold jnN; rw [esg]
          refine FsH.upd (FsH.snoc (F5.same s59) (SqT.of e9) ((s8.trans s9) _ _ e7) ?_ nA0 nA nB) e59
          show H9 B2 = some (.lst ((jnN (sgF ds) fo.2 nb).map V.int))
          rw [ej]
          exact s9 _ _ e8
      · refine L2.ifF (by simpa using hb) (iteF ?_)
        refine ⟨s5, s25, zL, _, rfl, e5, ?_⟩
        rw [extsT_no hnb (by rw [show behind nb fo.1 = false by simpa using hb, Bool.false_and]; decide)]
        exact F5
    · rintro σ H5 ⟨s5, s25, zL, z7, rfl, e5, F5⟩
      refine ⟨s5, s25, zL, _, _, _, rfl, e5, ?_⟩
      rw [List.length_map, zi_len] at F5
      unfold extsT at F5
      rw [List.take_length] at F5
      rw [List.take_add_one, hfo, List.flatMap_append]
      show FsH K H L H5 zL (_ ++ (exts _ _ fo ++ []))
      rw [List.append_nil]
      exact F5
  · rintro σ H4 ⟨s4, s24, zL, z5, z6, z7, rfl, e4, F4⟩
    rw [FH.l, List.take_length] at F4
    exact ⟨_, rfl, q L zL H4 s4 e4 F4⟩
end
end K64

set_option Elab.async false
set_option linter.all false
set_option maxRecDepth 100000
set_option maxHeartbeats 4000000
namespace K64
open PySem L2 Shp
section
variable {P : Program} {w : World} {K : PySem.W.Frag} {mg : Str → Option Value} {base : Heap} {f g1 g2 g3 g4 g5 g6 g7 g8 : Addr} {fd gd1 gd2 gd3 gd4 gd5 gd6 gd7 gd8 : FuncData} {CX : CXT}
variable {CR : Addr} {CK : Kd → Addr} {fW fJ fT fS : Kd → Addr} {fdW fdJ fdT fdS : Kd → FuncData}
def spForests (CN : Addr) (K : PySem.W.Frag) : Sp := fun vs H Q _ => ∃ (n l : Addr) (m t : Nat) (s : Int) (ds : List RD), vs = [.ref n, .int s] ∧ t = s.toNat ∧ -10 ≤ s ∧ s ≤ 4 ∧ NtP CN K H n l m ds ∧ (pcs ds).length ≤ 12 ∧ ∀ f' zs D H', Same H H' → H' f' = some (.lst zs) → FsH K H D H' zs (frst (sgF ds) (pcs ds) m t) → Q (.ref f') H'
theorem frst_le {sg : Nat → Nat × Nat} {ps : List Nat} {m t : Nat} (hp : ps.length ≤ 12) (ht : t ≤ 4) : (frst sg ps m t).length ≤ 20736 :=
  Nat.le_trans (frst_len sg ps m t) (Nat.le_trans (Nat.pow_le_pow_left hp t) (Nat.le_trans (Nat.pow_le_pow_right (by decide) ht) (by decide)))
abbrev sFors : Stmt := top 36
theorem scFors : FnScope ["net", "size", "found", "turn"] ["net", "size"] (defScope sFors) := ⟨rfl, rfl, rfl, by decide +kernel, rfl, by decide +kernel, by decide +kernel⟩
theorem ok_fors {dV : Value} (F : FunD K "forests" "forests" sFors dV f fd)
    {CN : Addr} (mli : mg "list" = none) (mr : mg "range" = none) (NTx : NT K mg CN)
    {gMa : Addr} {gdMa : FuncData} (GMa : FnOk P w K mg base CX0 1 gMa gdMa ["self"] (spMany CN K)) (bMa : Binds K gdMa ["self"] []) (mMa : Meth K CN "many" gMa)
    (G1 : FnOk P w K mg base CX0 6 g1 gd1 ["net", "found"] (spLarger CN K)) (b1 : Binds K gd1 ["net", "found"] []) (k1 : PySem.W.keepIn K (.ref g1) = true) (m1 : mg "larger_forests" = some (.ref g1)) :
    FnOk P w K mg base CX 7 f fd ["net", "size"] (spForests CN K) := by
  refine F.ok scFors (fun vs H Q E h => ?_) (fun cdv A outer s H vs Q E hr h => ?_)
  · obtain ⟨n, l, m, t, sz, ds, rfl, ht, s0, s4, NP, p12, q⟩ := h
    rfl
  obtain ⟨n, l, m, t, sz, ds, rfl, ht, s0, s4, NP, p12, q⟩ := h
  have r1 := hr.mono (show 1 ≤ 6 by omega)
  have hm20 := NP.m2
  obtain ⟨dx, hn⟩ := NP.nt.ob
  refine ⟨_, (pss_cons (ps_set (i := 2) scFors.nd rfl (Or.inl rfl) (pe_lst (pa_cons (pe_tup (pa_cons (pe_lst pa_nil) (pa_cons (pe_listrange rfl rfl mli rfl mr (pa_cons (pe_meth0 (pv 0) NTx.cl mMa GMa r1 bMa .nil pass0) pa_nil)) pa_nil))) pa_nil)))
    (pss_cons (ps_for PassesOwn.never rfl (pi_range1 rfl mr (pa_cons (pv 1) pa_nil)) (pg_name (i := 3) scFors.nd rfl (Or.inl rfl))
      (pss_one (ps_set (i := 2) scFors.nd rfl (Or.inl rfl) (pe_call G1 hr rfl m1 k1 b1 .nil pass0 (pa_cons (pv 0) (pa_cons (pv 2) pa_nil))))))
    (pss_one (ps_ret (pv 2))))), ?_⟩
  refine ⟨by show 0 ≤ sizeLine; decide, fun A hA => ?_⟩
  have s1 := same_new hA (.lst [])
  have e1 : upd H A (.lst []) A = some (.lst []) := upd_same
  generalize upd H A (.lst []) = H1 at s1 e1 ⊢
  refine ⟨_, rfl, n, dx, _, rfl, s1 _ _ hn, nflds_no _ _ (by decide +kernel) (by decide +kernel), n, l, _, ds, rfl, NP.nt.same s1, m, rfl, by omega, fun B hB => ?_⟩
  have s2 := same_new hB (.lst ((List.range m).map fun (i : Nat) => V.int (i : Int)))
  have e2 : upd H1 B (.lst ((List.range m).map fun (i : Nat) => V.int (i : Int))) B = some (.lst ((mks0 m).map V.int)) := by
    rw [upd_same]; show some (HO.lst _) = some (HO.lst ((mks0 m).map V.int)); unfold mks0; rw [List.map_map]; rfl
  generalize upd H1 B (.lst ((List.range m).map fun (i : Nat) => V.int (i : Int))) = H2 at s2 e2 ⊢
  refine ⟨(by show 2 ≤ sizeLine; decide), fun tt htt => ?_⟩
  have s3 := same_new htt (.tup [.ref A, .ref B])
  have e3 : upd H2 tt (.tup [.ref A, .ref B]) tt = some (.tup [.ref A, .ref B]) := upd_same
  generalize upd H2 tt (.tup [.ref A, .ref B]) = H3 at s3 e3 ⊢
  refine ⟨(by show 1 ≤ sizeLine; decide), fun L hL => ?_⟩
  have s4' := same_new hL (.lst [.ref tt])
  have e4 : upd H3 L (.lst [.ref tt]) L = some (.lst [.ref tt]) := upd_same
  generalize upd H3 L (.lst [.ref tt]) = H4 at s4' e4 ⊢
  have s04 := s1.trans (s2.trans (s3.trans s4'))
  have nAL : A ≠ L := fun z => by rw [← z, (s2.trans s3) _ _ e1] at hL; cases hL
  have nBL : B ≠ L := fun z => by rw [← z, s3 _ _ e2] at hL; cases hL
  have F0 : FsH K H L H4 [.ref tt] (frst (sgF ds) (pcs ds) m 0) := FsH.snoc (F := []) (f' := ([], mks0 m)) .nil (s4'.seqT (SqT.of e3)) ((s2.trans (s3.trans s4')) _ _ e1) ((s3.trans s4') _ _ e2) hA nAL nBL
  refine ⟨_, rfl, sz, rfl, by omega, by omega, ?_⟩
  rw [← ht]
  refine for_range (lo := 0) (n := t) (fun i σ H' => Same H H' ∧ ∃ (f D : Addr) (zs : List V) (z3 : Option V), σ = [some (.ref n), some (.int sz), some (.ref f), z3] ∧ H' f = some (.lst zs) ∧ FsH K H D H' zs (frst (sgF ds) (pcs ds) m i)) ⟨s04, L, L, _, none, rfl, e4, F0⟩ ?_ ?_
  · rintro i σ H5 hi ⟨s5, f, D, zs, z3, rfl, e5, F5⟩
    have fl := frst_le (sg := sgF ds) (m := m) (t := i) p12 (by omega)
    refine ⟨_, rfl, _, rfl, n, l, f, D, m, ds, zs, _, H, rfl, NP.same s5, SqL.of e5, F5, fun x hx => ?_, by omega, fun f' zs' H6 s6 e6 F6 => ?_⟩
    · have F := frs_ok hx
      exact ⟨by rw [F.e, jf_len], by rw [F.l]; omega⟩
    · exact ⟨s5.trans s6, f', f', zs', _, rfl, e6, F6.from0 fun a h => s5.free h⟩
  · rintro σ H5 ⟨s5, f, D, zs, z3, rfl, e5, F5⟩
    exact ⟨_, rfl, q f zs D H5 s5 e5 F5⟩
def spRMP (CN : Addr) (K : PySem.W.Frag) : Sp := fun vs H Q _ => ∃ (n l : Addr) (m : Int) (ds : List RD), vs = [.ref n] ∧ NetAt CN K H n l m ds ∧ ds.length ≤ 100 ∧ (pcs ds).length ≤ 12 ∧ ∀ H', Same H H' → Q .non H'
abbrev sRMP : Stmt := top 34
theorem scRMP : FnScope ["net"] ["net"] (defScope sRMP) := ⟨rfl, rfl, rfl, by decide +kernel, rfl, by decide +kernel, by decide +kernel⟩
theorem ok_rmp {dV : Value} (F : FunD K "refuse_many_pieces" "refuse_many_pieces" sRMP dV f fd)
    {CN : Addr} {tM : Tok} (mMP : mg "MOST_PIECES" = some (.int 12 tM)) (ml : mg "len" = none)
    (G1 : FnOk P w K mg base CX0 5 g1 gd1 ["net"] (spPNum CN K)) (b1 : Binds K gd1 ["net"] []) (k1 : PySem.W.keepIn K (.ref g1) = true) (m1 : mg "piece_numbers" = some (.ref g1)) :
    FnOk P w K mg base CX 6 f fd ["net"] (spRMP CN K) := by
  refine F.ok scRMP (fun vs H Q E h => ?_) (fun cdv A outer s H vs Q E hr h => ?_)
  · obtain ⟨n, l, m, ds, rfl, nt, h100, p12, q⟩ := h
    rfl
  obtain ⟨n, l, m, ds, rfl, nt, h100, p12, q⟩ := h
  refine ⟨_, (pss_one (ps_if (pt_cmpR op_gt (pe_callB call_len_seq rfl ml PySem.boot_len (pa_cons (pe_call G1 hr rfl m1 k1 b1 .nil pass0 (pa_cons (pv 0) pa_nil)) pa_nil)) (pe_glob (v := .int 12) rfl mMP ⟨_, rfl⟩) (nomark _)) (pss_one ps_never) pss_nil)), ?_⟩
  refine ⟨_, rfl, n, l, m, ds, rfl, nt, h100, fun l' H1 s1 nl el => ?_⟩
  refine ⟨l', _, rfl, .inl (SqL.of el), _, _, rfl, rfl, _, rfl, ?_⟩
  refine L2.ifF (decide_eq_false (by rw [List.length_map, zi_len]; omega)) ?_
  exact q _ s1
end
end K64

set_option Elab.async false
set_option linter.all false
set_option maxRecDepth 100000
set_option maxHeartbeats 4000000
namespace K64
open PySem L2 Shp
section
variable {P : Program} {w : World} {K : PySem.W.Frag} {mg : Str → Option Value} {base : Heap} {f g1 g2 g3 g4 g5 g6 g7 g8 : Addr} {fd gd1 gd2 gd3 gd4 gd5 gd6 gd7 gd8 : FuncData} {CX : CXT}
variable {CR : Addr} {CK : Kd → Addr} {fW fJ fT fS : Kd → Addr} {fdW fdJ fdT fdS : Kd → FuncData}
def endP (a b : Nat) (M : List Int) : Bool := decide (M.getD a 0 ≠ M.getD b 0)
def ptF (m : Nat) (ds : List RD) (a b : Nat) : List (List Nat × List Int) := (frst (sgF ds) (pcs ds) m (m - 2)).filter fun x => endP a b x.2
def ptL (m : Nat) (ds : List RD) (a b : Nat) : List (List Int) := (ptF m ds a b).map fun x => zi x.1
theorem ptF_comm (m : Nat) (ds : List RD) (a b : Nat) : ptF m ds b a = ptF m ds a b := by
  unfold ptF
  congr 1
  funext x
  unfold endP
  exact decide_eq_decide.mpr ⟨fun h => Ne.symm h, fun h => Ne.symm h⟩
theorem ptL_comm (m : Nat) (ds : List RD) (a b : Nat) : ptL m ds b a = ptL m ds a b := by unfold ptL; rw [ptF_comm]
theorem ils_upd {H0 H : Hp} {us : List V} {X : List (List Int)} {l : Addr} {o : HO} (f : Ils H0 H us X) (n : ∀ x ∈ us, x ≠ .ref l) : Ils H0 (upd H l o) us X := ⟨f.l, fun i x ps h1 h2 => by
  obtain ⟨a, e, h, r⟩ := f.r i x ps h1 h2
  exact ⟨a, e, h, by rw [upd_ne (fun z => n x (List.mem_of_getElem? h1) (by rw [e, z]))]; exact r⟩⟩
theorem ils_same {H0 H H' : Hp} {us : List V} {X : List (List Int)} (s : Same H H') (f : Ils H0 H us X) : Ils H0 H' us X := ⟨f.l, fun i x ps h1 h2 => let ⟨a, e, h, r⟩ := f.r i x ps h1 h2; ⟨a, e, h, s _ _ r⟩⟩
end
end K64

set_option Elab.async false
set_option linter.all false
set_option maxRecDepth 100000
set_option maxHeartbeats 4000000
namespace K64
open PySem L2 Shp
section
variable {P : Program} {w : World} {K : PySem.W.Frag} {mg : Str → Option Value} {base : Heap} {f g1 g2 g3 g4 g5 g6 g7 g8 : Addr} {fd gd1 gd2 gd3 gd4 gd5 gd6 gd7 gd8 : FuncData} {CX : CXT}
variable {CR : Addr} {CK : Kd → Addr} {fW fJ fT fS : Kd → Addr} {fdW fdJ fdT fdS : Kd → FuncData}
def spPtgs (CN : Addr) (K : PySem.W.Frag) : Sp := fun vs H Q _ => ∃ (n l : Addr) (m a b : Nat) (ds : List RD), vs = [.ref n, .int (a : Int), .int (b : Int)] ∧ NtP CN K H n l m ds ∧ m ≤ 5 ∧ a < m ∧ b < m ∧ NoHo ds ∧ (pcs ds).length ≤ 12 ∧ ∀ l' us H', Same H H' → H l' = none → H' l' = some (.lst us) → Ils H H' us (ptL m ds a b) → (∀ x ∈ us, x ≠ .ref l') → Q (.ref l') H'
theorem take_filter {α β : Type} {p : α → Bool} {f : α → β} {l : List α} {i : Nat} {x : α} (h : l[i]? = some x) : ((l.take (i + 1)).filter p).map f = ((l.take i).filter p).map f ++ (if p x then [f x] else []) := by
  rw [List.take_add_one, h, List.filter_append, List.map_append]
  congr 1
  show (List.filter p [x]).map f = _
  cases e : p x <;> simp [List.filter, e]
theorem frs_len {ds : List RD} {m t : Nat} {fo : List Nat × List Int} (h : fo ∈ frst (sgF ds) (pcs ds) m t) : fo.2.length = m := by
  rw [(frs_ok h).e, jf_len]
theorem nd_forest_b_a : (["forest", "b", "a"] : List Str).Nodup := by decide +kernel
abbrev sPtgs : Stmt := top 33
theorem scPtgs : FnScope ["net", "a", "b"] ["net", "a", "b"] (defScope sPtgs) := ⟨rfl, rfl, rfl, by decide +kernel, rfl, by decide +kernel, by decide +kernel⟩
theorem ok_ptgs {dV : Value} (F : FunD K "partings" "partings" sPtgs dV f fd)
    {CN : Addr} (NTx : NT K mg CN)
    {gMa : Addr} {gdMa : FuncData} (GMa : FnOk P w K mg base CX0 1 gMa gdMa ["self"] (spMany CN K)) (bMa : Binds K gdMa ["self"] []) (mMa : Meth K CN "many" gMa)
    (G1 : FnOk P w K mg base CX0 5 g1 gd1 ["net"] (spRHo CN K)) (b1 : Binds K gd1 ["net"] []) (k1 : PySem.W.keepIn K (.ref g1) = true) (m1 : mg "refuse_holds" = some (.ref g1))
    (G2 : FnOk P w K mg base CX0 6 g2 gd2 ["net"] (spRMP CN K)) (b2 : Binds K gd2 ["net"] []) (k2 : PySem.W.keepIn K (.ref g2) = true) (m2 : mg "refuse_many_pieces" = some (.ref g2))
    (G3 : FnOk P w K mg base CX0 7 g3 gd3 ["net", "size"] (spForests CN K)) (b3 : Binds K gd3 ["net", "size"] []) (k3 : PySem.W.keepIn K (.ref g3) = true) (m3 : mg "forests" = some (.ref g3))
    (G4 : FnOk P w K mg base CX0 3 g4 gd4 ["some", "many"] (spRP K)) (b4 : Binds K gd4 ["some", "many"] []) (k4 : PySem.W.keepIn K (.ref g4) = true) (m4 : mg "refuse_points" = some (.ref g4)) :
    FnOk P w K mg base CX 8 f fd ["net", "a", "b"] (spPtgs CN K) := by
  refine F.ok scPtgs (fun vs H Q E h => ?_) (fun cdv A outer s H vs Q E hr h => ?_)
  · obtain ⟨n, l, m, a, b, ds, rfl, NP, hm5, ha, hb, nh, p12, q⟩ := h
    rfl
  obtain ⟨n, l, m, a, b, ds, rfl, NP, hm5, ha, hb, nh, p12, q⟩ := h
  have r1 := hr.mono (show 1 ≤ 7 by omega)
  have r3 := hr.mono (show 3 ≤ 7 by omega)
  have r5 := hr.mono (show 5 ≤ 7 by omega)
  have r6 := hr.mono (show 6 ≤ 7 by omega)
  have h40 := NP.h
  have hm1 := NP.m1
  refine ⟨_, (pss_cons (ps_expr (pe_call G4 r3 rfl m4 k4 b4 .nil pass0 (pa_cons (pe_lst (pa_cons (pv 1) (pa_cons (pv 2) pa_nil))) (pa_cons (pe_meth0 (pv 0) NTx.cl mMa GMa r1 bMa .nil pass0) pa_nil))))
    (pss_cons (ps_expr (pe_call G1 r5 rfl m1 k1 b1 .nil pass0 (pa_cons (pv 0) pa_nil)))
    (pss_cons (ps_expr (pe_call G2 r6 rfl m2 k2 b2 .nil pass0 (pa_cons (pv 0) pa_nil)))
    (pss_one (ps_ret (pe_comp (nl := 1) (fr := [2, 1]) (Nc := ["forest", "b", "a"]) (cl := [("b", s.heap.objs.size + 2), ("a", s.heap.objs.size + 1)]) rfl ⟨rfl, rfl, by decide +kernel, by decide +kernel, (sub_cons rfl (sub_cons rfl (sub_nil))), has_of rfl, rfl, fun i n h => match i, h with | 0, h => by cases h; exact ⟨2, rfl, rfl, rfl, rfl, .inl rfl⟩ | 1, h => by cases h; exact ⟨1, rfl, rfl, rfl, rfl, .inl rfl⟩ | k + 2, h => by rw [show 1 + (k + 2) = k + 3 by omega] at h; cases h⟩
        (pi_list (pe_call G3 hr rfl m3 k3 b3 .nil pass0 (pa_cons (pv 0) (pa_cons (pe_op op_sub (pe_meth0 (pv 0) NTx.cl mMa GMa r1 bMa .nil pass0) pe_int) pa_nil)))) (fun C s3 H3 fp pins => (pg_name (i := 0) nd_forest_b_a rfl (Or.inl rfl))) (fun C s3 H3 fp pins => (pif_one (pt_cmpR op_ne (pe_ix (ix_listK (K := K) rfl) (pe_ix (ix_tupK (K := K) rfl) (pv 0) pe_int (fun _ _ => rfl)) (pv 2) (fun _ _ => rfl)) (pe_ix (ix_listK (K := K) rfl) (pe_ix (ix_tupK (K := K) rfl) (pv 0) pe_int (fun _ _ => rfl)) (pv 1) (fun _ _ => rfl)) (nomark _))))
        (fun C s3 H3 fp pins => (pe_ix (ix_tupK (K := K) rfl) (pv 0) pe_int (fun _ _ => rfl))))))))), ?_⟩
  refine ⟨_, rfl, _, rfl, by show 2 ≤ sizeLine; decide, fun pp hpp => ?_⟩
  have s0 := same_new hpp (.lst [.int (a : Int), .int (b : Int)])
  have e0 : upd H pp (.lst [.int (a : Int), .int (b : Int)]) pp = some (.lst [.int (a : Int), .int (b : Int)]) := upd_same
  generalize upd H pp (.lst [.int (a : Int), .int (b : Int)]) = H0 at s0 e0 ⊢
  obtain ⟨dx, hn⟩ := (NP.nt.same s0).ob
  refine ⟨_, rfl, n, dx, _, rfl, hn, nflds_no _ _ (by decide +kernel) (by decide +kernel), n, l, _, ds, rfl, NP.nt.same s0, pp, (a : Int), (b : Int), (m : Int), rfl, SqL.of e0, by omega, by omega, by omega, by omega, fun H1' s1' => ?_⟩
  have s01 := s0.trans s1'
  refine ⟨_, rfl, n, l, _, ds, rfl, NP.nt.same s01, by omega, nh, fun H1 s1 => ?_⟩
  have s01b := s01.trans s1
  refine ⟨_, rfl, n, l, _, ds, rfl, NP.nt.same s01b, by omega, p12, fun H2 s2 => ?_⟩
  have s02 := s01b.trans s2
  obtain ⟨dy, hn2⟩ := (NP.nt.same s02).ob
  refine ⟨_, rfl, _, rfl, n, dy, _, rfl, hn2, nflds_no _ _ (by decide +kernel) (by decide +kernel), n, l, _, ds, rfl, NP.nt.same s02, _, _, rfl, rfl, n, l, m, m - 2, _, ds, rfl, by omega, by omega, by omega, NP.same s02, p12, fun f zs D0 H3 s3 e3 F3 => ?_⟩
  have s03 := s02.trans s3
  have fl := frst_le (sg := sgF ds) (m := m) (t := m - 2) p12 (by omega)
  have lf := F3.l
  refine ⟨f, rfl, ⟨_, SqL.of e3⟩, fun D hD => ?_⟩
  have sD := same_new hD (.lst [])
  refine comp_list (xs := zs) (fun i us H' => Same H3 H' ∧ H' D = some (.lst us) ∧ Ils H2 H' us ((((frst (sgF ds) (pcs ds) m (m - 2)).take i).filter fun x => endP a b x.2).map fun x => zi x.1) ∧ ∀ x ∈ us, x ≠ .ref D) ⟨sD, upd_same, ⟨rfl, fun i x ps h => by simp at h⟩, fun x hx => by cases hx⟩ (fun i us H' h => h.2.1) (fun i us H' _ h => h.1.seq (SqL.of e3)) ?_ ?_
  · rintro i us x H4 hx ⟨s4, e4, I4, n4⟩ C hC
    have hi : i < (frst (sgF ds) (pcs ds) m (m - 2)).length := by have := (List.getElem?_eq_some_iff.mp hx).1; omega
    obtain ⟨fo, hfo⟩ : ∃ fo, (frst (sgF ds) (pcs ds) m (m - 2))[i]? = some fo := ⟨_, List.getElem?_eq_getElem hi⟩
    obtain ⟨tt, A, Bm, rfl, hT, hA, hB, nA, _, _⟩ := F3.r i x fo hx hfo
    have lm : fo.2.length = m := frs_len (List.mem_of_getElem? hfo)
    have lz : us.length ≤ 20736 := by
      rw [I4.l, List.length_map]
      have := List.length_filter_le (fun x => endP a b x.2) ((frst (sgF ds) (pcs ds) m (m - 2)).take i)
      rw [List.length_take] at this
      omega
    have aa : atI (fo.2.map V.int) (a : Int) = some (.int (fo.2.getD a 0)) := atI_nat (by rw [List.getElem?_map, List.getElem?_eq_getElem (by omega), List.getD_eq_getElem?_getD, List.getElem?_eq_getElem (by omega)]; rfl)
    have ab : atI (fo.2.map V.int) (b : Int) = some (.int (fo.2.getD b 0)) := atI_nat (by rw [List.getElem?_map, List.getElem?_eq_getElem (by omega), List.getD_eq_getElem?_getD, List.getElem?_eq_getElem (by omega)]; rfl)
    have nAD : A ≠ D := fun z => by rw [z] at hA; rw [hA] at hD; cases hD
    have tf := take_filter (p := fun x => endP a b x.2) (f := fun x : List Nat × List Int => zi x.1) hfo
    refine ⟨keep1.1, keep1.2, ?_⟩
    refine ⟨_, rfl, tt, _, _, _, rfl, rfl, s4.seqT hT, rfl, _, rfl, Bm, _, _, _, rfl, rfl, SqL.of (s4 _ _ hB), aa, _, rfl, tt, _, _, _, rfl, rfl, s4.seqT hT, rfl, _, rfl, Bm, _, _, _, rfl, rfl, SqL.of (s4 _ _ hB), ab, rfl, _, rfl, ?_⟩
    by_cases hP : fo.2.getD a 0 = fo.2.getD b 0
    · refine L2.ifF (by rw [hP]; simp) (hC _ _ ⟨s4, e4, ?_, n4⟩)
      rw [tf, if_neg (by unfold endP; rw [decide_eq_true_iff]; exact fun z => z hP), List.append_nil]
      exact I4
    · refine L2.ifT (by show (!decide (V.int (fo.2.getD a 0) = V.int (fo.2.getD b 0))) = true; rw [decide_eq_false (fun z => hP (by injection z))]; rfl) ?_
      rw [if_pos (by unfold endP; exact decide_eq_true hP)] at tf
      refine ⟨_, rfl, tt, _, _, _, rfl, rfl, s4.seqT hT, rfl, ?_⟩
      refine ⟨e4, small_l (by omega), hC _ _ ⟨s4.change hD, upd_same, ?_, fun y hy => ?_⟩⟩
      · rw [tf]
        refine ils_upd (Ils.snoc I4 nA (s4 _ _ hA)) fun y hy => ?_
        rcases List.mem_append.mp hy with z | z
        · exact n4 y z
        · have : y = .ref A := by simpa using z
          rw [this]; exact fun z => nAD (by injection z)
      · rcases List.mem_append.mp hy with z | z
        · exact n4 y z
        · have : y = .ref A := by simpa using z
          rw [this]; exact fun z => nAD (by injection z)
  · rintro us H4 ⟨s4, e4, I4, n4⟩
    rw [lf, List.take_length] at I4
    exact q D us H4 (s03.trans s4) (s03.free hD) e4 (I4.from0 fun a h => s02.free h) n4
end
end K64

set_option Elab.async false
set_option linter.all false
set_option maxRecDepth 100000
set_option maxHeartbeats 4000000
namespace K64
open PySem L2 Shp
section
variable {P : Program} {w : World} {K : PySem.W.Frag} {mg : Str → Option Value} {base : Heap} {f g1 g2 g3 g4 g5 g6 g7 g8 : Addr} {fd gd1 gd2 gd3 gd4 gd5 gd6 gd7 gd8 : FuncData} {CX : CXT}
abbrev sDraw : Stmt := top 40
theorem scDraw : FnScope ["_law_script", "_law_k", "_law_found"] ["_law_script", "_law_k"] (defScope sDraw) := ⟨rfl, rfl, rfl, by decide +kernel, rfl, by decide +kernel, by decide +kernel⟩
def spDraw (K : PySem.W.Frag) : Sp := fun vs H Q _ => ∃ (a : Addr) (ns : List Int) (j : Int) (k : Nat), vs = [.ref a, .int j] ∧ j = (k : Int) ∧ SqL K H a (ns.map V.int) ∧ ns.length ≤ 63 ∧ ∀ i H', Same H H' → Q (.int i) H'
theorem ok_draw {dV : Value} (F : FunD K "_law_draw" "_law_draw" sDraw dV f fd) :
    FnOk P w K mg base CX 1 f fd ["_law_script", "_law_k"] (spDraw K) := by
  refine F.ok scDraw (fun vs H Q E h => ?_) (fun cdv A outer s H vs Q E hr h => ?_)
  · obtain ⟨a, ns, j, k, rfl, hj, hS, h63, q⟩ := h
    rfl
  obtain ⟨a, ns, j, k, rfl, hj, hS, h63, q⟩ := h
  have hu := hr.units
  refine ⟨_, (pss_cons (ps_set (i := 2) scDraw.nd rfl (Or.inl rfl) (pe_slice sl_list (pv 0) (po_some (pv 1)) (po_some (pe_op op_add (pv 1) pe_int))))
    (pss_cons (ps_if (pt_cmpR (op_eqD hu) (pv 2) (pe_lst pa_nil) (nomark _)) (pss_one (ps_ret pe_int)) pss_nil)
    (pss_one (ps_ret (pe_ix ix_list (pv 2) pe_int (fun _ _ => rfl)))))), ?_⟩
  refine ⟨_, rfl, _, rfl, j, rfl, _, rfl, _, _, rfl, rfl, j + 1, rfl, a, _, rfl, hS, fun l hl => ?_⟩
  have s1 := same_new hl (.lst (cutV (ns.map V.int) (some j) (some (j + 1))))
  have e1 : upd H l (.lst (cutV (ns.map V.int) (some j) (some (j + 1)))) l = some (.lst (cutV (ns.map V.int) (some j) (some (j + 1)))) := upd_same
  obtain ⟨ms, em, lm⟩ := cut_ints ns (some j) (some (j + 1))
  rw [em] at e1 s1 ⊢
  generalize upd H l (.lst (ms.map V.int)) = H1 at e1 s1 ⊢
  refine ⟨_, rfl, by show 0 ≤ sizeLine; decide, fun e he => ?_⟩
  have s2 := same_new he (.lst [])
  refine rd_eqNil (s2.seq (SqL.of e1)) (SqL.of upd_same) ⟨_, rfl, ?_⟩
  rcases ms with _ | ⟨m, ms⟩
  · exact iteT (q 0 _ (s1.trans s2))
  · refine iteF ⟨_, rfl, l, _, _, _, rfl, rfl, s2.seq (SqL.of e1), atI_nat (j := 0) rfl, q m _ (s1.trans s2)⟩
abbrev sMix : Stmt := top 41
theorem scMix : FnScope ["_law_cell", "_law_turn", "_law_many", "_law_left", "_law_k", "_law_by", "_law_prime", "_law_x"] ["_law_cell", "_law_turn", "_law_many"] (defScope sMix) := ⟨rfl, rfl, rfl, by decide +kernel, rfl, by decide +kernel, by decide +kernel⟩
def spMix : Sp := fun vs H Q _ => ∃ c t m : Int, vs = [.int c, .int t, .int m] ∧ 0 ≤ t ∧ t ≤ 9 ∧ 0 < m ∧ ∀ r H', 0 ≤ r → r < m → Same H H' → Q (.int r) H'
theorem at10 {a0 a1 a2 a3 a4 a5 a6 a7 a8 a9 : Int} (hp : 0 < a0 ∧ 0 < a1 ∧ 0 < a2 ∧ 0 < a3 ∧ 0 < a4 ∧ 0 < a5 ∧ 0 < a6 ∧ 0 < a7 ∧ 0 < a8 ∧ 0 < a9) (hm : a0 < 1000000 ∧ a1 < 1000000 ∧ a2 < 1000000 ∧ a3 < 1000000 ∧ a4 < 1000000 ∧ a5 < 1000000 ∧ a6 < 1000000 ∧ a7 < 1000000 ∧ a8 < 1000000 ∧ a9 < 1000000) {t : Int} (h0 : 0 ≤ t) (h9 : t ≤ 9) :
    ∃ v, atI [V.int a0, .int a1, .int a2, .int a3, .int a4, .int a5, .int a6, .int a7, .int a8, .int a9] t = some (.int v) ∧ 0 < v ∧ v < 1000000 := by
  have : t = 0 ∨ t = 1 ∨ t = 2 ∨ t = 3 ∨ t = 4 ∨ t = 5 ∨ t = 6 ∨ t = 7 ∨ t = 8 ∨ t = 9 := by omega
  rcases this with rfl | rfl | rfl | rfl | rfl | rfl | rfl | rfl | rfl | rfl
  all_goals exact ⟨_, rfl, by omega, by omega⟩
abbrev l48 : List Int := [48271, 69621, 16807, 40692, 39373, 30269, 27183, 60013, 51749, 35969]
abbrev l99 : List Int := [999983, 999979, 999961, 999959, 999953, 999931, 999917, 999907, 999883, 999863]
@[irreducible] def md1 : Stmt := (defBody sMix).getD 1 (.Pass ⟨0, 0, 0, 0⟩)
@[irreducible] def md2 : Stmt := (defBody sMix).getD 2 (.Pass ⟨0, 0, 0, 0⟩)
def md0 : Stmt := (defBody sMix).getD 0 (.Pass ⟨0, 0, 0, 0⟩)
def md3 : Stmt := (defBody sMix).getD 3 (.Pass ⟨0, 0, 0, 0⟩)
def md4 : Stmt := (defBody sMix).getD 4 (.Pass ⟨0, 0, 0, 0⟩)
theorem md_eq : defBody sMix = [md0, md1, md2, md3, md4] := by unfold md1 md2; rfl
theorem md1_ex : ∃ (q q2 p2 p3 p : Pos) (l : List (Int × _ × Pos)), md1 = .Assign [.Name "_law_by" q] (.Subscript (.List (l.map fun q => Expr.Constant (.int q.1) q.2.1 q.2.2) p2) (.Name "_law_turn" q2) p3) p ∧ l.map (fun q => V.int q.1) = l48.map V.int := by
  unfold md1
  exact ⟨_, _, _, _, _, [(48271, _, _), (69621, _, _), (16807, _, _), (40692, _, _), (39373, _, _), (30269, _, _), (27183, _, _), (60013, _, _), (51749, _, _), (35969, _, _)], rfl, rfl⟩
theorem md2_ex : ∃ (q q2 p2 p3 p : Pos) (l : List (Int × _ × Pos)), md2 = .Assign [.Name "_law_prime" q] (.Subscript (.List (l.map fun q => Expr.Constant (.int q.1) q.2.1 q.2.2) p2) (.Name "_law_turn" q2) p3) p ∧ l.map (fun q => V.int q.1) = l99.map V.int := by
  unfold md2
  exact ⟨_, _, _, _, _, [(999983, _, _), (999979, _, _), (999961, _, _), (999959, _, _), (999953, _, _), (999931, _, _), (999917, _, _), (999907, _, _), (999883, _, _), (999863, _, _)], rfl, rfl⟩
theorem ok_mix {dV : Value} (F : FunD K "_law_mix" "_law_mix" sMix dV f fd)
    (mr : mg "range" = none) :
    FnOk P w K mg base CX 1 f fd ["_law_cell", "_law_turn", "_law_many"] spMix := by
  refine F.ok scMix (fun vs H Q E h => ?_) (fun cdv A outer s H vs Q E hr h => ?_)
  · obtain ⟨c, t, m, rfl, h0, h9, hm, q⟩ := h
    rfl
  obtain ⟨c, t, m, rfl, h0, h9, hm, q⟩ := h
  rw [md_eq]
  obtain ⟨q1, q2, q3, q4, q5, l1, e1, eo1⟩ := md1_ex
  obtain ⟨r1, r2, r3, r4, r5, l2, e2, eo2⟩ := md2_ex
  rw [e1, e2]
  refine ⟨_, (pss_cons (ps_if (pt_cmpR op_eq (pe_op op_mod (pv 0) pe_int) pe_int (nomark _)) (pss_cons (ps_set (i := 3) scMix.nd rfl (Or.inl rfl) (pe_op op_fdiv (pv 0) pe_int))
    (pss_cons (ps_for PassesOwn.never rfl (pi_range1 rfl mr (pa_cons (pv 1) pa_nil)) (pg_name (i := 4) scMix.nd rfl (Or.inl rfl))
      (pss_one (ps_set (i := 3) scMix.nd rfl (Or.inl rfl) (pe_op op_fdiv (pv 3) (pe_op op_pow pe_int pe_int)))))
    (pss_one (ps_ret (pe_op op_modN (pv 3) (pv 2)))))) pss_nil)
    (pss_cons (ps_set (i := 5) scMix.nd rfl (Or.inl rfl) (pe_ix ix_list (pe_lst (pa_ints _ l1)) (pv 1) (fun _ _ => rfl)))
    (pss_cons (ps_set (i := 6) scMix.nd rfl (Or.inl rfl) (pe_ix ix_list (pe_lst (pa_ints _ l2)) (pv 1) (fun _ _ => rfl)))
    (pss_cons (ps_set (i := 7) scMix.nd rfl (Or.inl rfl) (pe_op op_mod (pv 0) pe_int))
    (pss_one (ps_ret (pe_op op_modN (pe_op op_fdiv (pe_op op_modN (pe_op op_add (pe_op op_add (pe_op op_mulB (pe_op op_mul pe_int (pv 7)) (pv 7)) (pe_op op_mulB (pv 5) (pv 7))) (pe_op op_mul pe_int (pe_op op_add (pv 1) pe_int))) (pv 6)) pe_int) (pv 2)))))))), ?_⟩
  rw [eo1, eo2]
  have hf : ∀ u : Int, 0 ≤ u.fmod m ∧ u.fmod m < m := fun u => ⟨Int.fmod_nonneg_of_pos u hm, Int.fmod_lt_of_pos u hm⟩
  have m0 : m ≠ 0 := by omega
  refine ⟨_, rfl, _, _, rfl, rfl, (show (0 : Int) < 2 by decide), rfl, _, rfl, ite2 (fun _ => ?_) (fun _ => ?_)⟩
  · refine ⟨_, rfl, _, _, rfl, rfl, ⟨by decide, by decide⟩, ?_⟩
    refine ⟨_, rfl, t, rfl, by omega, by omega, ?_⟩
    refine for_range (n := t.toNat) (fun i σ H' => H' = H ∧ ∃ u z, σ = [some (.int c), some (.int t), some (.int m), some (.int u), z, none, none, none]) ⟨rfl, _, none, rfl⟩ ?_ ?_
    · rintro i σ H' hi ⟨rfl, u, z, rfl⟩
      exact ⟨_, rfl, _, _, rfl, rfl, ⟨by decide, by decide, by decide⟩, _, _, rfl, rfl, ⟨by decide, by decide⟩, rfl, _, _, rfl⟩
    · rintro σ H' ⟨rfl, u, z, rfl⟩
      exact ⟨_, rfl, _, rfl, _, _, rfl, rfl, m0, q _ _ (hf u).1 (hf u).2 (Same.refl _)⟩
  · refine ⟨by show 10 ≤ sizeLine; decide, fun l1 hl1 => ?_⟩
    obtain ⟨by_, eb, b1, b2⟩ := at10 (a0 := 48271) (a1 := 69621) (a2 := 16807) (a3 := 40692) (a4 := 39373) (a5 := 30269) (a6 := 27183) (a7 := 60013) (a8 := 51749) (a9 := 35969) (by decide) (by decide) h0 h9
    have s1 := same_new hl1 (.lst (l48.map V.int))
    have g1 : upd H l1 (.lst (l48.map V.int)) l1 = some (.lst (l48.map V.int)) := upd_same
    generalize upd H l1 (.lst (l48.map V.int)) = H1 at s1 g1 ⊢
    refine ⟨_, rfl, l1, _, _, _, rfl, rfl, SqL.of g1, eb, ?_⟩
    refine ⟨by show 10 ≤ sizeLine; decide, fun l2 hl2 => ?_⟩
    obtain ⟨pr, ep, p1, p2⟩ := at10 (a0 := 999983) (a1 := 999979) (a2 := 999961) (a3 := 999959) (a4 := 999953) (a5 := 999931) (a6 := 999917) (a7 := 999907) (a8 := 999883) (a9 := 999863) (by decide) (by decide) h0 h9
    have s2 := same_new hl2 (.lst (l99.map V.int))
    have g2 : upd H1 l2 (.lst (l99.map V.int)) l2 = some (.lst (l99.map V.int)) := upd_same
    generalize upd H1 l2 (.lst (l99.map V.int)) = H2 at s2 g2 ⊢
    refine ⟨_, rfl, l2, _, _, _, rfl, rfl, SqL.of g2, ep, ?_⟩
    refine ⟨_, rfl, _, _, rfl, rfl, (show (0 : Int) < 2147483647 by decide), ?_⟩
    have x1 := Int.emod_nonneg c (show (2147483647 : Int) ≠ 0 by decide)
    have x2 := Int.emod_lt_of_pos c (show (0 : Int) < 2147483647 by decide)
    generalize c % 2147483647 = x at x1 x2 ⊢
    refine ⟨_, rfl, _, _, rfl, rfl, Or.inl ⟨by decide, by decide⟩, _, rfl, rd_mulB (n := 40) (m := 40) (B_of (by omega) (by omega)) (B_of (by omega) (by omega)) (by omega) (by omega) ?_⟩
    refine ⟨_, rfl, _, rfl, rd_mulB (n := 40) (m := 40) (B_of (by omega) (by omega)) (B_of (by omega) (by omega)) (by omega) (by omega) ⟨_, _, rfl, rfl, ?_⟩⟩
    refine ⟨_, rfl, _, _, rfl, rfl, _, _, rfl, rfl, Or.inl ⟨by decide, by decide⟩, _, _, rfl, rfl, _, rfl, _, _, rfl, rfl, by omega, _, _, rfl, rfl, ⟨by decide, by decide⟩, _, rfl, _, _, rfl, rfl, m0, ?_⟩
    exact q _ _ (hf _).1 (hf _).2 (s1.trans s2)
abbrev sPart : Stmt := top 42
theorem scPart : FnScope ["_law_cell", "_law_k", "_law_left", "_law_j"] ["_law_cell", "_law_k"] (defScope sPart) := ⟨rfl, rfl, rfl, by decide +kernel, rfl, by decide +kernel, by decide +kernel⟩
def spPart : Sp := fun vs H Q _ => ∃ c k : Int, vs = [.int c, .int k] ∧ 0 ≤ k ∧ k ≤ 63 ∧ ∀ r, Q (.int r) H
theorem ok_part {dV : Value} (F : FunD K "_law_part" "_law_part" sPart dV f fd)
    (mr : mg "range" = none) :
    FnOk P w K mg base CX 1 f fd ["_law_cell", "_law_k"] spPart := by
  refine F.ok scPart (fun vs H Q E h => ?_) (fun cdv A outer s H vs Q E hr h => ?_)
  · obtain ⟨c, k, rfl, h0, h9, q⟩ := h
    rfl
  obtain ⟨c, k, rfl, h0, h9, q⟩ := h
  refine ⟨_, (pss_cons (ps_if (pt_cmpR op_eq (pe_op op_mod (pv 0) pe_int) pe_int (nomark _)) (pss_one (ps_ret (pe_op op_add (pe_op op_mod (pv 0) (pe_op op_pow pe_int pe_int)) (pe_op op_mulB (pe_op op_mul pe_int (pv 1)) (pv 1))))) pss_nil)
    (pss_cons (ps_set (i := 2) scPart.nd rfl (Or.inl rfl) (pe_op op_fdiv (pv 0) pe_int))
    (pss_cons (ps_for PassesOwn.never rfl (pi_range1 rfl mr (pa_cons (pe_op op_mul pe_int (pv 1)) pa_nil)) (pg_name (i := 3) scPart.nd rfl (Or.inl rfl))
      (pss_one (ps_set (i := 2) scPart.nd rfl (Or.inl rfl) (pe_op op_fdiv (pv 2) (pe_op op_pow pe_int pe_int)))))
    (pss_one (ps_ret (pe_op op_add (pe_op op_mul pe_int (pv 2)) pe_int)))))), ?_⟩
  refine ⟨_, rfl, _, _, rfl, rfl, (show (0 : Int) < 2 by decide), rfl, _, rfl, ite2 (fun _ => ?_) (fun _ => ?_)⟩
  · refine ⟨_, rfl, _, _, rfl, rfl, ⟨by decide, by decide, by decide⟩, _, _, rfl, rfl, (show (0 : Int) < 10 ^ (15 : Int).toNat by decide), ?_⟩
    refine ⟨_, rfl, _, _, rfl, rfl, Or.inl ⟨by decide, by decide⟩, _, rfl, rd_mulB (n := 40) (m := 40) (B_of (by omega) (by omega)) (B_of (by omega) (by omega)) (by omega) (by omega) ⟨_, _, rfl, rfl, q _⟩⟩
  · refine ⟨_, rfl, _, _, rfl, rfl, ⟨by decide, by decide⟩, ?_⟩
    refine ⟨_, rfl, _, _, rfl, rfl, Or.inl ⟨by decide, by decide⟩, _, rfl, by omega, by omega, ?_⟩
    refine for_range (n := (12 * k).toNat) (fun i σ H' => H' = H ∧ ∃ u z, σ = [some (.int c), some (.int k), some (.int u), z]) ⟨rfl, _, none, rfl⟩ ?_ ?_
    · rintro i σ H' hi ⟨rfl, u, z, rfl⟩
      exact ⟨_, rfl, _, _, rfl, rfl, ⟨by decide, by decide, by decide⟩, _, _, rfl, rfl, ⟨by decide, by decide⟩, rfl, _, _, rfl⟩
    · rintro σ H' ⟨rfl, u, z, rfl⟩
      exact ⟨_, rfl, _, _, rfl, rfl, Or.inl ⟨by decide, by decide⟩, _, _, rfl, rfl, q _⟩
abbrev sLowest : Stmt := top 43
theorem scLowest : FnScope ["_law_top", "_law_bottom", "_law_one", "_law_other"] ["_law_top", "_law_bottom"] (defScope sLowest) := ⟨rfl, rfl, rfl, by decide +kernel, rfl, by decide +kernel, by decide +kernel⟩
theorem ok_lowest {dV : Value} (F : FunD K "_law_lowest" "_law_lowest" sLowest dV f fd)
    (b : Bl mg) :
    FnOk P w K mg base CX 1 f fd ["_law_top", "_law_bottom"] spFrac := by
  refine F.ok scLowest (fun vs H Q E h => ?_) (fun cdv A outer s H vs Q E hr h => ?_)
  · obtain ⟨t, b', n, rfl, hb, hB, hn, q⟩ := h
    rfl
  obtain ⟨t, b', n, rfl, hb, hB, hn, q⟩ := h
  refine ⟨_, (pss_cons (ps_par (i := 2) (j := 3) rfl scLowest.nd rfl rfl (by decide) rfl rfl (pa_cons (pe_callB call_abs rfl b.abs PyProof.Rows.boot_abs (pa_cons (pv 0) pa_nil)) (pa_cons (pe_callB call_abs rfl b.abs PyProof.Rows.boot_abs (pa_cons (pv 1) pa_nil)) pa_nil)) rfl)
    (pss_cons (ps_while PassesOwn.never (pt_cmpR op_ne (pv 3) pe_int (nomark _)) (pss_one (ps_par (i := 2) (j := 3) rfl scLowest.nd rfl rfl (by decide) rfl rfl (pa_cons (pv 3) (pa_cons (pe_op op_modN (pv 2) (pv 3)) pa_nil)) rfl)))
    (pss_cons (ps_if (pt_cmpR op_lt (pv 1) pe_int (nomark _)) (pss_one (ps_set (i := 2) scLowest.nd rfl (Or.inl rfl) (pe_op op_sub pe_int (pv 2)))) pss_nil)
    (pss_one (ps_ret (pe_tup (pa_cons (pe_op op_fdivB (pv 0) (pv 2)) (pa_cons (pe_op op_fdivB (pv 1) (pv 2)) pa_nil)))))))), ?_⟩
  refine ⟨_, rfl, _, rfl, _, rfl, _, rfl, _, _, rfl, ?_⟩
  have g0 := Mq.gc_abs t b'
  have n0 : 0 ≤ (if t < 0 then -t else t) := by split <;> omega
  have n1 : 0 ≤ (if b' < 0 then -b' else b') := by split <;> omega
  generalize (if t < 0 then -t else t) = x' at *
  generalize (if b' < 0 then -b' else b') = y' at *
  have hd := Mq.dvr_ne (t := t) hb
  have hdB : Mq.B n (Mq.dvr t b') := hB.le (Mq.dvr_le hb)
  refine while_by (fun σ H' => H' = H ∧ ∃ u v, σ = [some (.int t), some (.int b'), some (.int u), some (.int v)] ∧ Mq.gc u v = Mq.gc t b' ∧ 0 ≤ u ∧ 0 ≤ v) (fun σ _ => match σ with | [_, _, _, some (.int v)] => v.natAbs | _ => 0) ⟨rfl, x', y', rfl, g0, n0, n1⟩ ?_ ?_
  · rintro σ H' ⟨rfl, u, v, rfl, e, hu, hv0⟩
    refine ⟨_, rfl, rfl, _, rfl, ?_⟩
    refine ite2 (fun c => ?_) (fun c => ?_)
    · have hv : v ≠ 0 := by intro q; subst q; simp at c
      refine ⟨_, rfl, _, rfl, _, rfl, _, _, rfl, rfl, hv, _, _, rfl, ⟨rfl, v, Int.fmod u v, rfl, (Mq.gc_step u v).trans e, hv0, Int.fmod_nonneg_of_pos u (by omega)⟩, Mq.fmod_less hv⟩
    · have hv : v = 0 := by
        simp at c
        exact c
      subst hv
      have eu : u = Mq.gc t b' := by rw [← e, Mq.gc_zero, if_neg (by omega)]
      subst eu
      refine ⟨_, rfl, _, _, rfl, rfl, _, rfl, ite2 (fun c => ?_) (fun c => ?_)⟩
      · have hlt : b' < 0 := of_decide_eq_true c
        have e : Mq.dvr t b' = 0 - Mq.gc t b' := by unfold Mq.dvr; rw [if_pos hlt]; omega
        rw [e] at hd hdB
        have q' : NewF H' Q (t.fdiv (0 - Mq.gc t b'), b'.fdiv (0 - Mq.gc t b')) := by
          have z := q
          unfold Mq.red at z
          rw [e] at z
          exact z
        refine ⟨_, rfl, _, _, rfl, rfl, ?_⟩
        refine ⟨_, rfl, _, rfl, rd_fdivB hd hdB hn ⟨_, rfl, _, rfl, rd_fdivB hd hdB hn ⟨by show 2 ≤ sizeLine; decide, fun p hp => ?_⟩⟩⟩
        exact q' p _ (same_new hp _) upd_same
      · have hlt : ¬ b' < 0 := fun z => c (decide_eq_true z)
        have e : Mq.dvr t b' = Mq.gc t b' := by unfold Mq.dvr; rw [if_neg hlt]
        rw [e] at hd hdB
        have q' : NewF H' Q (t.fdiv (Mq.gc t b'), b'.fdiv (Mq.gc t b')) := by
          have z := q
          unfold Mq.red at z
          rw [e] at z
          exact z
        refine ⟨_, rfl, _, rfl, rd_fdivB hd hdB hn ⟨_, rfl, _, rfl, rd_fdivB hd hdB hn ⟨by show 2 ≤ sizeLine; decide, fun p hp => ?_⟩⟩⟩
        exact q' p _ (same_new hp _) upd_same
  · rintro σ H Q Q' m ⟨v, h1, h2, k, h3, h4⟩
    exact ⟨v, h1, h2, k, h3, m _ _ h4⟩
end
end K64

set_option Elab.async false
set_option linter.all false
namespace L2
open PySem PySem.Spec PyProof.Rows
section
variable {X : Cx}
end
end L2

set_option Elab.async false
set_option linter.all false
set_option maxRecDepth 100000
set_option maxHeartbeats 4000000
namespace K64
open PySem L2 Shp
section
variable {P : Program} {w : World} {K : PySem.W.Frag} {mg : Str → Option Value} {base : Heap} {f g1 g2 g3 g4 g5 g6 g7 g8 : Addr} {fd gd1 gd2 gd3 gd4 gd5 gd6 gd7 gd8 : FuncData} {CX : CXT}
variable {CR : Addr} {CK : Kd → Addr} {fW fJ fT fS : Kd → Addr} {fdW fdJ fdT fdS : Kd → FuncData}
def spNumbers (K : PySem.W.Frag) : Sp := fun vs H Q _ => ∃ (a : Addr) (ns : List Int), vs = [.ref a] ∧ SqL K H a (ns.map V.int) ∧ Q (.bl true) H
def spRising (K : PySem.W.Frag) : Sp := fun vs H Q _ => ∃ (a : Addr) (xs : List V), vs = [.ref a] ∧ SqL K H a xs ∧ xs.length ≤ 100000 ∧ (∀ (i : Nat) (x y : V), xs[i]? = some x → xs[i + 1]? = some y → ∀ Q' : VK, Q' (.bl true) H → rLtB K x y H Q') ∧ Q (.bl true) H
abbrev sNums : Stmt := top 47
theorem scNums : FnScope ["_law_found", "_law_number"] ["_law_found"] (defScope sNums) := ⟨rfl, rfl, rfl, by decide +kernel, rfl, by decide +kernel, by decide +kernel⟩
theorem ok_nums {dV : Value} (F : FunD K "_law_numbers" "_law_numbers" sNums dV f fd)
    (b : Bl mg) (mli : mg "list" = none) :
    FnOk P w K mg base CX 1 f fd ["_law_found"] (spNumbers K) := by
  refine F.ok scNums (fun vs H Q E h => ?_) (fun cdv A outer s H vs Q E hr h => ?_)
  · obtain ⟨a, ns, rfl, hS, q⟩ := h
    rfl
  obtain ⟨a, ns, rfl, hS, q⟩ := h
  refine ⟨_, (pss_cons (ps_if (pt_not (pt_val (pe_isiQ (i := 0) rfl (Or.inl rfl) b.isi mli rfl rfl PyProof.Rows.boot_list))) (pss_one (ps_ret pe_bl)) pss_nil)
    (pss_cons (ps_for PassesOwn.never rfl (pi_list (pv 0)) (pg_name (i := 1) scNums.nd rfl (Or.inl rfl))
      (pss_one (ps_if (PW.pt (pw_or (pt_not (pt_val (pe_isiQ (i := 1) rfl (Or.inl rfl) b.isi b.int rfl rfl PyProof.Rows.boot_int))) (pw_or1 (pt_val (pe_isiQ (i := 1) rfl (Or.inl rfl) b.isi b.bool rfl rfl PyProof.Rows.boot_bool))))) (pss_one (ps_ret pe_bl)) pss_nil)))
    (pss_one (ps_ret pe_bl)))), ?_⟩
  refine ⟨_, _, true, rfl, .lst hS, rfl, _, rfl, iteF ?_⟩
  refine ⟨_, rfl, a, rfl, ⟨_, hS⟩, ?_⟩
  refine for_list (xs := ns.map V.int) (fun i σ H' => H' = H ∧ ∃ z, σ = [some (.ref a), z]) ⟨rfl, none, rfl⟩ (fun i σ H' _ h => by rw [h.1]; exact hS) ?_ ?_
  · rintro i x σ H' hx ⟨rfl, z, rfl⟩
    obtain ⟨j, rfl⟩ : ∃ j, x = .int j := by
      rw [List.getElem?_map] at hx
      obtain ⟨j, _, rfl⟩ := Option.map_eq_some_iff.mp hx
      exact ⟨j, rfl⟩
    exact ⟨_, _, true, rfl, .of (.int j), rfl, _, rfl, iteF ⟨_, _, false, rfl, .of (.int j), (by with_unfolding_all rfl), _, rfl, iteF ⟨rfl, _, rfl⟩⟩⟩
  · rintro σ H' ⟨rfl, z, rfl⟩
    exact q
abbrev sRis : Stmt := top 48
theorem scRis : FnScope ["_law_found", "_law_k"] ["_law_found"] (defScope sRis) := ⟨rfl, rfl, rfl, by decide +kernel, rfl, by decide +kernel, by decide +kernel⟩
theorem ok_ris {dV : Value} (F : FunD K "_law_rising" "_law_rising" sRis dV f fd)
    (ml : mg "len" = none) (mr : mg "range" = none) :
    FnOk P w K mg base CX 1 f fd ["_law_found"] (spRising K) := by
  refine F.ok scRis (fun vs H Q E h => ?_) (fun cdv A outer s H vs Q E hr h => ?_)
  · obtain ⟨a, xs, rfl, hS, h5, hlt, q⟩ := h
    rfl
  obtain ⟨a, xs, rfl, hS, h5, hlt, q⟩ := h
  have hu0 := hr.units
  have hu := Nat.lt_of_le_of_lt (Nat.le_add_right _ 64) hu0
  refine ⟨_, (pss_cons (ps_for PassesOwn.never rfl (pi_range2 rfl mr (pa_cons pe_int (pa_cons (pe_callB call_len_seq rfl ml PySem.boot_len (pa_cons (pv 0) pa_nil)) pa_nil))) (pg_name (i := 1) scRis.nd rfl (Or.inl rfl))
      (pss_one (ps_if (pt_not (pt_cmpR (op_ltB hu) (pe_ix ix_list (pv 0) (pe_op op_sub (pv 1) pe_int) (fun _ _ => rfl)) (pe_ix ix_list (pv 0) (pv 1) (fun _ _ => rfl)) (nomark _))) (pss_one (ps_ret pe_bl)) pss_nil)))
    (pss_one (ps_ret pe_bl))), ?_⟩
  refine ⟨_, rfl, a, xs, rfl, .inl hS, 1, (xs.length : Int), rfl, ⟨by omega, by omega, by omega, by omega⟩, ?_⟩
  rw [show ((xs.length : Int) - 1).toNat = xs.length - 1 by omega]
  refine for_range (lo := 1) (n := xs.length - 1) (fun i σ H' => H' = H ∧ ∃ z, σ = [some (.ref a), z]) ⟨rfl, none, rfl⟩ ?_ ?_
  · rintro i σ H' hi ⟨rfl, z, rfl⟩
    have e1 := List.getElem?_eq_getElem (show i < xs.length by omega)
    have e2 := List.getElem?_eq_getElem (show i + 1 < xs.length by omega)
    have a1 : atI xs (1 + (i : Int) - 1) = some xs[i] := by rw [show 1 + (i : Int) - 1 = (i : Int) by omega]; exact atI_nat e1
    have a2 : atI xs (1 + (i : Int)) = some xs[i + 1] := by rw [show 1 + (i : Int) = ((i + 1 : Nat) : Int) by omega]; exact atI_nat e2
    refine ⟨_, rfl, _, rfl, _, _, rfl, rfl, a, xs, _, _, rfl, rfl, hS, a1, _, rfl, _, rfl, a, xs, _, _, rfl, rfl, hS, a2, ?_⟩
    exact hlt i _ _ e1 e2 _ ⟨_, rfl, iteF ⟨rfl, _, rfl⟩⟩
  · rintro σ H' ⟨rfl, z, rfl⟩
    exact q
end
end K64

set_option Elab.async false
set_option linter.all false
set_option maxRecDepth 100000
set_option maxHeartbeats 4000000
namespace K64
open PySem L2 Shp
section
variable {P : Program} {w : World} {K : PySem.W.Frag} {mg : Str → Option Value} {base : Heap} {f g1 g2 g3 g4 g5 g6 g7 g8 : Addr} {fd gd1 gd2 gd3 gd4 gd5 gd6 gd7 gd8 : FuncData} {CX : CXT}
variable {CR : Addr} {CK : Kd → Addr} {fW fJ fT fS : Kd → Addr} {fdW fdJ fdT fdS : Kd → FuncData}
def spMarksL (K : PySem.W.Frag) : Sp := fun vs H Q _ => ∃ (r a : Addr) (us : List V) (m : Nat) (ds : List RD) (ns : List Nat), vs = [.ref r, .ref a, .int (m : Int)] ∧ SqL K H r us ∧ Rts K H us ds ∧ (∀ d ∈ ds, PtOk (m : Int) d.2.1 d.2.2.1) ∧ m ≤ 20 ∧ SqL K H a ((zi ns).map V.int) ∧ (∀ x ∈ ns, x ∈ pcs ds) ∧ (∀ i x, ns[i]? = some x → okJ (sgF ds) (jf (sgF ds) m (ns.take i)) x = true) ∧ ∀ l' H', Same H H' → H' l' = some (.lst ((jf (sgF ds) m ns).map V.int)) → Q (.ref l') H'
theorem cut_13 (w x y z : V) : cutV [w, x, y, z] (some 1) (some 3) = [x, y] := rfl
theorem nd_mark_old_new : (["_law_mark", "_law_old", "_law_new"] : List Str).Nodup := by decide +kernel
abbrev sMrk : Stmt := top 46
theorem scMrk : FnScope ["_law_rows_here", "_law_numbers_here", "_law_many", "_law_marks_here", "_law_number", "_law_start", "_law_goal", "_law_old", "_law_new"] ["_law_rows_here", "_law_numbers_here", "_law_many"] (defScope sMrk) := ⟨rfl, rfl, rfl, by decide +kernel, rfl, by decide +kernel, by decide +kernel⟩
theorem ok_mrk {dV : Value} (F : FunD K "_law_marks" "_law_marks" sMrk dV f fd)
    (mli : mg "list" = none) (mr : mg "range" = none) :
    FnOk P w K mg base CX 1 f fd ["_law_rows_here", "_law_numbers_here", "_law_many"] (spMarksL K) := by
  refine F.ok scMrk (fun vs H Q E h => ?_) (fun cdv A outer s H vs Q E hr h => ?_)
  · obtain ⟨r, a, us, m, ds, ns, rfl, hU, hR, pt, hm, hA, hp, hok, q⟩ := h
    rfl
  obtain ⟨r, a, us, m, ds, ns, rfl, hU, hR, pt, hm, hA, hp, hok, q⟩ := h
  refine ⟨_, (pss_cons (ps_set (i := 3) scMrk.nd rfl (Or.inl rfl) (pe_listrange rfl rfl mli rfl mr (pa_cons (pv 2) pa_nil)))
    (pss_cons (ps_for PassesOwn.never rfl (pi_list (pv 1)) (pg_name (i := 4) scMrk.nd rfl (Or.inl rfl))
      (pss_cons (ps_asg (pe_slice sl_tup (pe_ix ix_list (pv 0) (pv 4) (fun _ _ => rfl)) (po_some pe_int) (po_some pe_int)) (pg_tup rfl (pgs_cons (pg_name (i := 5) scMrk.nd rfl (Or.inl rfl)) (pgs_cons (pg_name (i := 6) scMrk.nd rfl (Or.inl rfl)) pgs_nil))))
    (pss_cons (ps_if (pt_cmpR op_eq (pe_ix ix_list (pv 3) (pv 5) (fun _ _ => rfl)) (pe_ix ix_list (pv 3) (pv 6) (fun _ _ => rfl)) (nomark _)) (pss_one (ps_ret pe_non)) pss_nil)
    (pss_cons (ps_set (i := 7) scMrk.nd rfl (Or.inr rfl) (pe_ix ix_list (pv 3) (pv 6) (fun _ _ => rfl)))
    (pss_cons (ps_set (i := 8) scMrk.nd rfl (Or.inr rfl) (pe_ix ix_list (pv 3) (pv 5) (fun _ _ => rfl)))
    (pss_one (ps_setC (i := 3) (nl := 1) (fr := [7, 8]) (Nc := ["_law_mark", "_law_old", "_law_new"]) (cl := [("_law_old", s.heap.objs.size + 1), ("_law_new", s.heap.objs.size + 2)]) scMrk.nd rfl rfl rfl ⟨rfl, rfl, by decide +kernel, by decide +kernel, (sub_cons rfl (sub_cons rfl (sub_nil))), has_of rfl, rfl, fun i n h => match i, h with | 0, h => by cases h; exact ⟨7, rfl, rfl, rfl, rfl, .inl rfl⟩ | 1, h => by cases h; exact ⟨8, rfl, rfl, rfl, rfl, .inl rfl⟩ | k + 2, h => by rw [show 1 + (k + 2) = k + 3 by omega] at h; cases h⟩
        (pi_list (pv 3)) (fun C s3 H3 fp pins => (pg_name (i := 0) nd_mark_old_new rfl (Or.inl rfl))) (fun C s3 H3 fp pins => pif_nil)
        (fun C s3 H3 fp pins => (pe_ifExp (pt_cmpR op_eq (pv 0) (pv 1) (nomark _)) (pv 2) (pv 0))) rfl)))))))
    (pss_one (ps_ret (pv 3))))), ?_⟩
  refine ⟨_, rfl, m, rfl, by omega, fun D hD => ?_⟩
  have sD := same_new hD (.lst ((List.range m).map fun (i : Nat) => V.int (i : Int)))
  have eD : upd H D (.lst ((List.range m).map fun (i : Nat) => V.int (i : Int))) D = some (.lst ((mks0 m).map V.int)) := by
    rw [upd_same]; show some (HO.lst _) = some (HO.lst ((mks0 m).map V.int)); unfold mks0; rw [List.map_map]; rfl
  generalize upd H D (.lst ((List.range m).map fun (i : Nat) => V.int (i : Int))) = H1 at sD eD ⊢
  refine ⟨_, rfl, a, rfl, ⟨_, sD.seq hA⟩, ?_⟩
  refine for_list (xs := (zi ns).map V.int) (fun i σ H' => Same H H' ∧ ∃ (c : Addr) (z4 z5 z6 z7 z8 : Option V), σ = [some (.ref r), some (.ref a), some (.int (m : Int)), some (.ref c), z4, z5, z6, z7, z8] ∧ H' c = some (.lst ((jf (sgF ds) m (ns.take i)).map V.int))) ⟨sD, D, none, none, none, none, none, rfl, eD⟩ (fun i σ H' _ h => h.1.seq hA) ?_ ?_
  · rintro i x σ H2 hx ⟨s2, c, z4, z5, z6, z7, z8, rfl, e2⟩
    have hi : i < ns.length := by have := (List.getElem?_eq_some_iff.mp hx).1; rw [List.length_map, zi_len] at this; exact this
    obtain ⟨nb, hnb⟩ : ∃ nb, ns[i]? = some nb := ⟨_, List.getElem?_eq_getElem hi⟩
    have ex : x = .int (nb : Int) := by rw [List.getElem?_map, zi_get hnb] at hx; cases hx; rfl
    subst ex
    obtain ⟨⟨k0, u, v, p⟩, hd, _⟩ := pcs_mem (hp nb (List.mem_of_getElem? hnb))
    obtain ⟨i0, i1, j0, j1⟩ : PtOk (m : Int) u v := pt _ (List.mem_of_getElem? hd)
    have esg := sgF_some hd
    obtain ⟨uN, rfl⟩ : ∃ uN : Nat, u = (uN : Int) := ⟨u.toNat, by omega⟩
    obtain ⟨vN, rfl⟩ : ∃ vN : Nat, v = (vN : Int) := ⟨v.toNat, by omega⟩
    have esg : sgF ds nb = (uN, vN) := esg
    obtain ⟨tr, z', er, hr', fz⟩ := hR.at hd
    have ok := hok i nb hnb
    have lM := jf_len (sg := sgF ds) m (ns.take i)
    have ej : jf (sgF ds) m (ns.take (i + 1)) = jn (jf (sgF ds) m (ns.take i)) uN vN := by
      rw [List.take_add_one, hnb]
      show jf (sgF ds) m (ns.take i ++ [nb]) = _
      rw [jf_snoc]; unfold jnN; rw [esg]
    have ok : (jf (sgF ds) m (ns.take i)).getD uN 0 ≠ (jf (sgF ds) m (ns.take i)).getD vN 0 := by
      unfold okJ at ok
      rw [esg] at ok
      simpa using ok
    rw [ej]
    generalize jf (sgF ds) m (ns.take i) = M at *
    have gi : ∀ {q : Nat}, q < M.length → atI (M.map V.int) (q : Int) = some (.int (M.getD q 0)) := fun h => atI_nat (by rw [List.getElem?_map, List.getElem?_eq_getElem h, List.getD_eq_getElem?_getD, List.getElem?_eq_getElem h]; rfl)
    refine ⟨_, rfl, _, rfl, r, us, _, _, rfl, rfl, s2.seq hU, atI_nat er, 1, rfl, 3, rfl, tr, _, rfl, s2.seqT hr', (fun z => absurd (show HT.sIx 4 0 (some 1) = 0 from z.1) (by decide)), fun T1 hT1 => ?_⟩
    rw [cut_13]
    have s3 := same_new hT1 (.tup [.int (uN : Int), .int (vN : Int)])
    have e3 : upd H2 T1 (.tup [.int (uN : Int), .int (vN : Int)]) T1 = some (.tup [.int (uN : Int), .int (vN : Int)]) := upd_same
    generalize upd H2 T1 (.tup [.int (uN : Int), .int (vN : Int)]) = H3 at s3 e3 ⊢
    refine ⟨T1, _, rfl, SqT.of e3, rfl, _, _, rfl, _, _, rfl, rfl, ?_⟩
    have e23 := s3 _ _ e2
    refine ⟨_, rfl, _, rfl, c, _, _, _, rfl, rfl, SqL.of e23, gi (show uN < M.length by omega), _, rfl, _, rfl, c, _, _, _, rfl, rfl, SqL.of e23, gi (show vN < M.length by omega), rfl, _, rfl, ?_⟩
    refine L2.ifF (decide_eq_false (fun z => ok (by injection z))) ?_
    refine ⟨_, rfl, _, rfl, c, _, _, _, rfl, rfl, SqL.of e23, gi (show vN < M.length by omega), ?_⟩
    refine ⟨_, rfl, _, rfl, c, _, _, _, rfl, rfl, SqL.of e23, gi (show uN < M.length by omega), ?_⟩
    refine ⟨_, rfl, c, rfl, ⟨_, SqL.of e23⟩, fun D2 hD2 => ?_⟩
    have sD2 := same_new hD2 (.lst [])
    refine comp_list (xs := M.map V.int) (fun q zs H' => Same H3 H' ∧ H' D2 = some (.lst zs) ∧ zs = ((jn M uN vN).take q).map V.int) ⟨sD2, upd_same, rfl⟩ (fun q zs H' h => h.2.1) (fun q zs H' _ h => h.1.seq (SqL.of e23)) ?_ ?_
    · rintro q zs x H4 hx' ⟨s4, e4, rfl⟩ C hC
      rw [List.getElem?_map] at hx'
      obtain ⟨cv, hc, rfl⟩ := Option.map_eq_some_iff.mp hx'
      have hq : q < M.length := (List.getElem?_eq_some_iff.mp hc).1
      have ej : (jn M uN vN)[q]? = some (if cv = M.getD vN 0 then M.getD uN 0 else cv) := by unfold jn; rw [List.getElem?_map, hc]; rfl
      have lj := jn_len M uN vN
      refine ⟨keep1.1, keep1.2, iteT ?_⟩
      refine ⟨_, rfl, _, rfl, rfl, _, rfl, ?_⟩
      by_cases h : cv = M.getD vN 0
      · rw [if_pos h] at ej
        refine L2.ifT (decide_eq_true (by rw [h])) ⟨_, rfl, e4, small1000 (by rw [List.length_map, List.length_take]; omega), hC _ _ ⟨s4.change hD2, upd_same, ?_⟩⟩
        rw [List.take_add_one, ej, List.map_append]; rfl
      · rw [if_neg h] at ej
        refine L2.ifF (decide_eq_false (fun z => h (by injection z))) ⟨_, rfl, e4, small1000 (by rw [List.length_map, List.length_take]; omega), hC _ _ ⟨s4.change hD2, upd_same, ?_⟩⟩
        rw [List.take_add_one, ej, List.map_append]; rfl
    · rintro zs H4 ⟨s4, e4, rfl⟩
      have lj := jn_len M uN vN
      rw [List.length_map, ← lj, List.take_length] at e4
      exact ⟨s2.trans (s3.trans s4), D2, _, _, _, _, _, rfl, e4⟩
  · rintro σ H2 ⟨s2, c, z4, z5, z6, z7, z8, rfl, e2⟩
    rw [List.length_map, zi_len, List.take_length] at e2
    exact ⟨_, rfl, q c H2 s2 e2⟩
end
end K64

set_option Elab.async false
set_option linter.all false
set_option maxRecDepth 100000
set_option maxHeartbeats 4000000
namespace K64
open PySem L2 Shp
section
variable {P : Program} {w : World} {K : PySem.W.Frag} {mg : Str → Option Value} {base : Heap} {f g1 g2 g3 g4 g5 g6 g7 g8 : Addr} {fd gd1 gd2 gd3 gd4 gd5 gd6 gd7 gd8 : FuncData} {CX : CXT}
variable {CR : Addr} {CK : Kd → Addr} {fW fJ fT fS : Kd → Addr} {fdW fdJ fdT fdS : Kd → FuncData}
def spCountL (K : PySem.W.Frag) : Sp := fun vs H Q _ => ∃ (r a ed : Addr) (us : List V) (m ea eb : Nat) (ds : List RD), vs = [.ref r, .ref a, .int (m : Int), .ref ed] ∧ SqT K H ed [.int (ea : Int), .int (eb : Int)] ∧ ea < m ∧ eb < m ∧ SqL K H r us ∧ Rts K H us ds ∧ (∀ d ∈ ds, PtOk (m : Int) d.2.1 d.2.2.1) ∧ m ≤ 20 ∧ SqL K H a ((zi (pcs ds)).map V.int) ∧ (pcs ds).length ≤ 12 ∧ ∀ H', Same H H' → Q (.int (((wys (sgF ds) (pcs ds) [mks0 m]).filter fun M => decide ((dl M).length = 2) && endP ea eb M).length : Nat)) H'
theorem wst_le (sg : Nat → Nat × Nat) (W : List (List Int)) (n : Nat) : (wst sg W n).length ≤ 2 * W.length := by
  unfold wst
  rw [List.length_append, List.length_map]
  have := List.length_filter_le (fun M => okJ sg M n) W
  omega
theorem wys_le (sg : Nat → Nat × Nat) : ∀ (q : List Nat) (W : List (List Int)), (wys sg q W).length ≤ 2 ^ q.length * W.length
  | [], W => by show W.length ≤ 1 * W.length; omega
  | n :: q, W => by
    have h := wys_le sg q (wst sg W n)
    have h2 := Nat.mul_le_mul_left (2 ^ q.length) (wst_le sg W n)
    rw [List.length_cons, Nat.pow_succ, Nat.mul_assoc]
    exact Nat.le_trans h h2
theorem wys_snoc (sg : Nat → Nat × Nat) (q : List Nat) (n : Nat) (W : List (List Int)) : wys sg (q ++ [n]) W = wst sg (wys sg q W) n := by unfold wys; rw [List.foldl_append]; rfl
theorem one_len (m : Nat) : ∀ M ∈ [mks0 m], M.length = m := fun M hM => by
  have e : M = mks0 m := by simpa using hM
  rw [e, mks0_len]
theorem wst_len {sg : Nat → Nat × Nat} {m : Nat} {W : List (List Int)} (h : ∀ M ∈ W, M.length = m) (n : Nat) : ∀ M ∈ wst sg W n, M.length = m := fun M hM => by
  unfold wst at hM
  rcases List.mem_append.mp hM with z | z
  · exact h M z
  · obtain ⟨M', h1, rfl⟩ := List.mem_map.mp z
    unfold jnN
    rw [jn_len]
    exact h M' (List.mem_filter.mp h1).1
theorem wys_len {sg : Nat → Nat × Nat} {m : Nat} : ∀ (q : List Nat) (W : List (List Int)), (∀ M ∈ W, M.length = m) → ∀ M ∈ wys sg q W, M.length = m
  | [], W, h => h
  | n :: q, W, h => wys_len q (wst sg W n) (wst_len h n)
theorem nd_marks_here_ends : (["_law_marks_here", "_law_ends"] : List Str).Nodup := by decide +kernel
abbrev sCnt : Stmt := top 49
theorem scCnt : FnScope ["_law_rows_here", "_law_pieces", "_law_many", "_law_ends", "_law_ways", "_law_number", "_law_start", "_law_goal", "_law_more", "_law_marks_here", "_law_old", "_law_new"] ["_law_rows_here", "_law_pieces", "_law_many", "_law_ends"] (defScope sCnt) := ⟨rfl, rfl, rfl, by decide +kernel, rfl, by decide +kernel, by decide +kernel⟩
theorem ok_cnt {dV : Value} (F : FunD K "_law_count" "_law_count" sCnt dV f fd)
    (mli : mg "list" = none) (mr : mg "range" = none) (ml : mg "len" = none) (mse : mg "set" = none) :
    FnOk P w K mg base CX 1 f fd ["_law_rows_here", "_law_pieces", "_law_many", "_law_ends"] (spCountL K) := by
  refine F.ok scCnt (fun vs H Q E h => ?_) (fun cdv A outer s H vs Q E hr h => ?_)
  · obtain ⟨r, a, ed, us, m, ea, eb, ds, rfl, hE, lea, leb, hU, hR, pt, hm, hA, p12, q⟩ := h
    rfl
  obtain ⟨r, a, ed, us, m, ea, eb, ds, rfl, hE, lea, leb, hU, hR, pt, hm, hA, p12, q⟩ := h
  refine ⟨_, (pss_cons (ps_set (i := 4) scCnt.nd rfl (Or.inl rfl) (pe_lst (pa_cons (pe_listrange rfl rfl mli rfl mr (pa_cons (pv 2) pa_nil)) pa_nil)))
    (pss_cons (ps_for PassesOwn.never rfl (pi_list (pv 1)) (pg_name (i := 5) scCnt.nd rfl (Or.inl rfl))
      (pss_cons (ps_asg (pe_slice sl_tup (pe_ix ix_list (pv 0) (pv 5) (fun _ _ => rfl)) (po_some pe_int) (po_some pe_int)) (pg_tup rfl (pgs_cons (pg_name (i := 6) scCnt.nd rfl (Or.inl rfl)) (pgs_cons (pg_name (i := 7) scCnt.nd rfl (Or.inl rfl)) pgs_nil))))
    (pss_cons (ps_set (i := 8) scCnt.nd rfl (Or.inl rfl) (pe_lst pa_nil))
    (pss_cons (ps_for PassesOwn.never rfl (pi_list (pv 4)) (pg_name (i := 9) scCnt.nd rfl (Or.inl rfl))
      (pss_one (ps_if (pt_cmpR op_ne (pe_ix ix_list (pv 9) (pv 6) (fun _ _ => rfl)) (pe_ix ix_list (pv 9) (pv 7) (fun _ _ => rfl)) (nomark _)) (pss_cons (ps_set (i := 10) scCnt.nd rfl (Or.inr rfl) (pe_ix ix_list (pv 9) (pv 7) (fun _ _ => rfl)))
    (pss_cons (ps_set (i := 11) scCnt.nd rfl (Or.inr rfl) (pe_ix ix_list (pv 9) (pv 6) (fun _ _ => rfl)))
    (pss_one (ps_expr (pe_bm PySem.F.plainAttrs_list PySem.F.slot_list_append PySem.F.type_list_append mt_append (pv 8) (pa_cons (pe_comp (nl := 1) (fr := [10, 11]) (Nc := ["_law_mark", "_law_old", "_law_new"]) (cl := [("_law_old", s.heap.objs.size + 2), ("_law_new", s.heap.objs.size + 3)]) rfl ⟨rfl, rfl, by decide +kernel, by decide +kernel, (sub_cons rfl (sub_cons rfl (sub_nil))), has_of rfl, rfl, fun i n h => match i, h with | 0, h => by cases h; exact ⟨10, rfl, rfl, rfl, rfl, .inl rfl⟩ | 1, h => by cases h; exact ⟨11, rfl, rfl, rfl, rfl, .inl rfl⟩ | k + 2, h => by rw [show 1 + (k + 2) = k + 3 by omega] at h; cases h⟩
        (pi_list (pv 9)) (fun C s3 H3 fp pins => (pg_name (i := 0) nd_mark_old_new rfl (Or.inl rfl))) (fun C s3 H3 fp pins => pif_nil)
        (fun C s3 H3 fp pins => (pe_ifExp (pt_cmpR op_eq (pv 0) (pv 1) (nomark _)) (pv 2) (pv 0)))) pa_nil)))))) pss_nil)))
    (pss_one (ps_set (i := 4) scCnt.nd rfl (Or.inl rfl) (pe_op op_cat (pv 4) (pv 8))))))))
    (pss_one (ps_ret (pe_callB call_len_seq rfl ml PySem.boot_len (pa_cons (pe_comp (nl := 1) (fr := [3]) (Nc := ["_law_marks_here", "_law_ends"]) (cl := [("_law_ends", s.heap.objs.size + 1)]) rfl ⟨rfl, rfl, by decide +kernel, by decide +kernel, (sub_cons rfl (sub_nil)), has_of rfl, rfl, fun i n h => match i, h with | 0, h => by cases h; exact ⟨3, rfl, rfl, rfl, rfl, .inl rfl⟩ | k + 1, h => by rw [show 1 + (k + 1) = k + 2 by omega] at h; cases h⟩
        (pi_list (pv 4)) (fun C s3 H3 fp pins => (pg_name (i := 0) nd_marks_here_ends rfl (Or.inl rfl))) (fun C s3 H3 fp pins => (pif_one (PW.pt (pw_and (pt_cmpR op_eq (pe_lensetIK (K := K) rfl rfl rfl ml rfl mse (pv 0)) pe_int (nomark _)) (pw_and1 (pt_cmpR op_ne (pe_ix (ix_listK (K := K) rfl) (pv 0) (pe_ix (ix_tupK (K := K) rfl) (pv 1) pe_int (fun _ _ => rfl)) (fun _ _ => rfl)) (pe_ix (ix_listK (K := K) rfl) (pv 0) (pe_ix (ix_tupK (K := K) rfl) (pv 1) pe_int (fun _ _ => rfl)) (fun _ _ => rfl)) (nomark _)))))))
        (fun C s3 H3 fp pins => (pv 0))) pa_nil)))))), ?_⟩
  refine ⟨_, rfl, m, rfl, by omega, fun D hD => ?_⟩
  have sD := same_new hD (.lst ((List.range m).map fun (i : Nat) => V.int (i : Int)))
  have eD : upd H D (.lst ((List.range m).map fun (i : Nat) => V.int (i : Int))) D = some (.lst ((mks0 m).map V.int)) := by
    rw [upd_same]; show some (HO.lst _) = some (HO.lst ((mks0 m).map V.int)); unfold mks0; rw [List.map_map]; rfl
  generalize upd H D (.lst ((List.range m).map fun (i : Nat) => V.int (i : Int))) = H1 at sD eD ⊢
  refine ⟨(by show 1 ≤ sizeLine; decide), fun W0 hW0 => ?_⟩
  have sW := same_new hW0 (.lst [.ref D])
  have eW : upd H1 W0 (.lst [.ref D]) W0 = some (.lst [.ref D]) := upd_same
  generalize upd H1 W0 (.lst [.ref D]) = H2 at sW eW ⊢
  have s02 := sD.trans sW
  have I0 : Ils H H2 [.ref D] [mks0 m] := Ils.snoc (us := []) (X := []) ⟨rfl, fun i x ps h => by simp at h⟩ hD (sW _ _ eD)
  refine ⟨_, rfl, a, rfl, ⟨_, s02.seq hA⟩, ?_⟩
  refine for_list (xs := (zi (pcs ds)).map V.int) (fun i σ H' => Same H H' ∧ ∃ (W : Addr) (ws : List V) (z4 z5 z6 z7 z8 z9 z10 : Option V), σ = [some (.ref r), some (.ref a), some (.int (m : Int)), some (.ref ed), some (.ref W), z4, z5, z6, z7, z8, z9, z10] ∧ H' W = some (.lst ws) ∧ Ils H H' ws (wys (sgF ds) ((pcs ds).take i) [mks0 m])) ⟨s02, W0, _, none, none, none, none, none, none, none, rfl, eW, I0⟩ (fun i σ H' _ h => h.1.seq hA) ?_ ?_
  · rintro i x σ H3 hx ⟨s3, W, ws, z4, z5, z6, z7, z8, z9, z10, rfl, e3, I3⟩
    have hi : i < (pcs ds).length := by have := (List.getElem?_eq_some_iff.mp hx).1; rw [List.length_map, zi_len] at this; exact this
    obtain ⟨nb, hnb⟩ : ∃ nb, (pcs ds)[i]? = some nb := ⟨_, List.getElem?_eq_getElem hi⟩
    have ex : x = .int (nb : Int) := by rw [List.getElem?_map, zi_get hnb] at hx; cases hx; rfl
    subst ex
    obtain ⟨⟨k0, u, v, p⟩, hd, _⟩ := pcs_mem (List.mem_of_getElem? hnb)
    obtain ⟨i0, i1, j0, j1⟩ : PtOk (m : Int) u v := pt _ (List.mem_of_getElem? hd)
    have esg := sgF_some hd
    obtain ⟨uN, rfl⟩ : ∃ uN : Nat, u = (uN : Int) := ⟨u.toNat, by omega⟩
    obtain ⟨vN, rfl⟩ : ∃ vN : Nat, v = (vN : Int) := ⟨v.toNat, by omega⟩
    have esg : sgF ds nb = (uN, vN) := esg
    obtain ⟨tr, z', er, hr', fz⟩ := hR.at hd
    have e1 : wys (sgF ds) ((pcs ds).take (i + 1)) [mks0 m] = wst (sgF ds) (wys (sgF ds) ((pcs ds).take i) [mks0 m]) nb := by rw [List.take_add_one, hnb]; exact wys_snoc _ _ _ _
    have lW := wys_le (sgF ds) ((pcs ds).take i) [mks0 m]
    have lW2 : 2 ^ ((pcs ds).take i).length ≤ 2 ^ 12 := Nat.pow_le_pow_right (by decide) (by rw [List.length_take]; omega)
    have lM := wys_len (sg := sgF ds) (m := m) ((pcs ds).take i) [mks0 m] (one_len m)
    rw [e1]
    generalize wys (sgF ds) ((pcs ds).take i) [mks0 m] = X at *
    have lX : X.length ≤ 4096 := by simp only [List.length_cons, List.length_nil] at lW; omega
    have lws := I3.l
    refine ⟨_, rfl, _, rfl, r, us, _, _, rfl, rfl, s3.seq hU, atI_nat er, 1, rfl, 3, rfl, tr, _, rfl, s3.seqT hr', (fun z => absurd (show HT.sIx 4 0 (some 1) = 0 from z.1) (by decide)), fun T1 hT1 => ?_⟩
    rw [cut_13]
    have s4 := same_new hT1 (.tup [.int (uN : Int), .int (vN : Int)])
    have e4 : upd H3 T1 (.tup [.int (uN : Int), .int (vN : Int)]) T1 = some (.tup [.int (uN : Int), .int (vN : Int)]) := upd_same
    generalize upd H3 T1 (.tup [.int (uN : Int), .int (vN : Int)]) = H4 at s4 e4 ⊢
    refine ⟨T1, _, rfl, SqT.of e4, rfl, _, _, rfl, _, _, rfl, rfl, ?_⟩
    refine ⟨by show 0 ≤ sizeLine; decide, fun L hL => ?_⟩
    have s5 := same_new hL (.lst [])
    have e5 : upd H4 L (.lst []) L = some (.lst []) := upd_same
    generalize upd H4 L (.lst []) = H5 at s5 e5 ⊢
    have s35 := s4.trans s5
    have s05 := s3.trans s35
    have e35 := s35 _ _ e3
    have nL : H L = none := (s3.trans s4).free hL
    have nLW : L ≠ W := fun z => by rw [z, s4 _ _ e3] at hL; cases hL
    refine ⟨_, rfl, W, rfl, ⟨_, SqL.of e35⟩, ?_⟩
    refine for_list (xs := ws) (fun q σ H' => Same H4 H' ∧ ∃ (ls : List V) (z8 z9 z10 : Option V), σ = [some (.ref r), some (.ref a), some (.int (m : Int)), some (.ref ed), some (.ref W), some (.int (nb : Int)), some (.int (uN : Int)), some (.int (vN : Int)), some (.ref L), z8, z9, z10] ∧ H' L = some (.lst ls) ∧ Ils H H' ls (((X.take q).filter fun M => okJ (sgF ds) M nb).map fun M => jnN (sgF ds) M nb) ∧ ∀ x ∈ ls, x ≠ .ref L) ⟨s5, [], z8, z9, z10, rfl, e5, ⟨rfl, fun i x ps h => by simp at h⟩, fun x hx => by cases hx⟩ (fun q σ H' _ h => h.1.seq (SqL.of (s4 _ _ e3))) ?_ ?_
    · rintro q x σ H6 hx ⟨s6, ls, y8, y9, y10, rfl, e6, I6, n6⟩
      have hq : q < X.length := by have := (List.getElem?_eq_some_iff.mp hx).1; omega
      obtain ⟨M, hM⟩ : ∃ M, X[q]? = some M := ⟨_, List.getElem?_eq_getElem hq⟩
      obtain ⟨c, rfl, _, hc⟩ := I3.r q x M hx hM
      have hc6 := (s4.trans s6) _ _ hc
      have lm := lM M (List.mem_of_getElem? hM)
      have gi : ∀ {q : Nat}, q < M.length → atI (M.map V.int) (q : Int) = some (.int (M.getD q 0)) := fun h => atI_nat (by rw [List.getElem?_map, List.getElem?_eq_getElem h, List.getD_eq_getElem?_getD, List.getElem?_eq_getElem h]; rfl)
      have ok : okJ (sgF ds) M nb = decide (M.getD uN 0 ≠ M.getD vN 0) := by unfold okJ; rw [esg]
      have ej : jnN (sgF ds) M nb = jn M uN vN := by unfold jnN; rw [esg]
      have ll := I6.l
      rw [List.length_map] at ll
      have ll2 := List.length_filter_le (fun M => okJ (sgF ds) M nb) (X.take q)
      rw [List.length_take] at ll2
      refine ⟨_, rfl, _, rfl, c, _, _, _, rfl, rfl, SqL.of hc6, gi (show uN < M.length by omega), _, rfl, _, rfl, c, _, _, _, rfl, rfl, SqL.of hc6, gi (show vN < M.length by omega), rfl, _, rfl, ?_⟩
      rw [List.take_add_one, hM]
      show (if _ then _ else _)
      by_cases ho : M.getD uN 0 = M.getD vN 0
      · refine L2.ifF (by rw [ho]; simp) ?_
        refine ⟨s6, ls, _, _, _, rfl, e6, ?_, n6⟩
        show Ils H H6 ls (((X.take q ++ [M]).filter _).map _)
        rw [List.filter_append, List.filter_cons_of_neg (p := fun M => okJ (sgF ds) M nb) (by rw [ok, decide_eq_false (fun z => z ho)]; decide), List.filter_nil, List.append_nil]
        exact I6
      refine L2.ifT (by rw [decide_eq_false (fun z => ho (by injection z))]; rfl) ?_
      refine ⟨_, rfl, _, rfl, c, _, _, _, rfl, rfl, SqL.of hc6, gi (show vN < M.length by omega), ?_⟩
      refine ⟨_, rfl, _, rfl, c, _, _, _, rfl, rfl, SqL.of hc6, gi (show uN < M.length by omega), ?_⟩
      refine ⟨_, rfl, .inl ⟨rfl, _, SqL.of e6⟩, _, rfl, c, rfl, ⟨_, SqL.of hc6⟩, fun D2 hD2 => ?_⟩
      have sD2 := same_new hD2 (.lst [])
      refine comp_list (xs := M.map V.int) (fun q zs H' => Same H6 H' ∧ H' D2 = some (.lst zs) ∧ zs = ((jn M uN vN).take q).map V.int) ⟨sD2, upd_same, rfl⟩ (fun q zs H' h => h.2.1) (fun q zs H' _ h => h.1.seq (SqL.of hc6)) ?_ ?_
      · rintro q zs x H7 hx' ⟨s7, e7, rfl⟩ C hC
        rw [List.getElem?_map] at hx'
        obtain ⟨cv, hcv, rfl⟩ := Option.map_eq_some_iff.mp hx'
        have hq : q < M.length := (List.getElem?_eq_some_iff.mp hcv).1
        have ej : (jn M uN vN)[q]? = some (if cv = M.getD vN 0 then M.getD uN 0 else cv) := by unfold jn; rw [List.getElem?_map, hcv]; rfl
        have lj := jn_len M uN vN
        refine ⟨keep1.1, keep1.2, iteT ?_⟩
        refine ⟨_, rfl, _, rfl, rfl, _, rfl, ?_⟩
        by_cases h : cv = M.getD vN 0
        · rw [if_pos h] at ej
          refine L2.ifT (decide_eq_true (by rw [h])) ⟨_, rfl, e7, small1000 (by rw [List.length_map, List.length_take]; omega), hC _ _ ⟨s7.change hD2, upd_same, ?_⟩⟩
          rw [List.take_add_one, ej, List.map_append]; rfl
        · rw [if_neg h] at ej
          refine L2.ifF (decide_eq_false (fun z => h (by injection z))) ⟨_, rfl, e7, small1000 (by rw [List.length_map, List.length_take]; omega), hC _ _ ⟨s7.change hD2, upd_same, ?_⟩⟩
          rw [List.take_add_one, ej, List.map_append]; rfl
      rintro zs H7 ⟨s7, e7, rfl⟩
      have lj := jn_len M uN vN
      rw [List.length_map, ← lj, List.take_length] at e7
      have e67 := s7 _ _ e6
      have nD : D2 ≠ L := fun z => by rw [z, e6] at hD2; cases hD2
      refine ⟨L, ls, _, rfl, rfl, e67, small_l (by omega), ?_⟩
      have nn : ∀ y ∈ ls ++ [V.ref D2], y ≠ .ref L := fun y hy => by
        rcases List.mem_append.mp hy with z | z
        · exact n6 y z
        · have : y = .ref D2 := by simpa using z
          rw [this]; exact fun z => nD (by injection z)
      refine ⟨(s6.trans s7).change hL, _, _, _, _, rfl, upd_same, ?_, nn⟩
      show Ils H _ (ls ++ [V.ref D2]) (((X.take q ++ [M]).filter _).map _)
      rw [List.filter_append, List.map_append, List.filter_cons_of_pos (p := fun M => okJ (sgF ds) M nb) (by rw [ok]; exact decide_eq_true ho), List.filter_nil, List.map_cons, List.map_nil, ej]
      exact ils_upd (Ils.snoc (ils_same s7 I6) ((s3.trans (s4.trans s6)).free hD2) e7) nn
    · rintro σ H6 ⟨s6, ls, y8, y9, y10, rfl, e6, I6, n6⟩
      rw [lws, List.take_length] at I6
      have ll := I6.l
      rw [List.length_map] at ll
      have ll2 := List.length_filter_le (fun M => okJ (sgF ds) M nb) X
      have e36 := (s4.trans s6) _ _ e3
      refine ⟨_, rfl, _, rfl, W, L, ws, ls, rfl, rfl, e36, e6, Nat.le_of_lt (small_l (by omega)), fun W2 hW2 => ?_⟩
      have s7 := same_new hW2 (.lst (ws ++ ls))
      have e7 : upd H6 W2 (.lst (ws ++ ls)) W2 = some (.lst (ws ++ ls)) := upd_same
      generalize upd H6 W2 (.lst (ws ++ ls)) = H7 at s7 e7 ⊢
      have s47 := s4.trans (s6.trans s7)
      refine ⟨s3.trans s47, W2, _, _, _, _, _, _, _, _, rfl, e7, ?_⟩
      unfold wst
      refine ⟨by rw [List.length_append, List.length_append, lws, I6.l], fun j x ps h1 h2 => ?_⟩
      by_cases c : j < ws.length
      · rw [List.getElem?_append_left c] at h1
        rw [List.getElem?_append_left (by omega)] at h2
        exact (ils_same s47 I3).r j x ps h1 h2
      · rw [List.getElem?_append_right (by omega)] at h1
        rw [List.getElem?_append_right (by omega), ← lws] at h2
        exact (ils_same s7 I6).r _ x ps h1 h2
  · rintro σ H3 ⟨s3, W, ws, z4, z5, z6, z7, z8, z9, z10, rfl, e3, I3⟩
    rw [List.length_map, zi_len, List.take_length] at I3
    have lW := wys_le (sgF ds) (pcs ds) [mks0 m]
    have lW2 : 2 ^ (pcs ds).length ≤ 2 ^ 12 := Nat.pow_le_pow_right (by decide) p12
    have lM := wys_len (sg := sgF ds) (m := m) (pcs ds) [mks0 m] (one_len m)
    generalize wys (sgF ds) (pcs ds) [mks0 m] = X at *
    have lX : X.length ≤ 4096 := by simp only [List.length_cons, List.length_nil] at lW; omega
    have lws := I3.l
    refine ⟨_, rfl, W, rfl, ⟨_, SqL.of e3⟩, fun D2 hD2 => ?_⟩
    have sD2 := same_new hD2 (.lst [])
    refine comp_list (xs := ws) (fun q zs H' => Same H3 H' ∧ H' D2 = some (.lst zs) ∧ zs.length = ((X.take q).filter fun M => decide ((dl M).length = 2) && endP ea eb M).length) ⟨sD2, upd_same, rfl⟩ (fun q zs H' h => h.2.1) (fun q zs H' _ h => h.1.seq (SqL.of e3)) ?_ ?_
    · rintro q0 zs x H4 hx ⟨s4, e4, lz⟩ C hC
      have hq : q0 < X.length := by have := (List.getElem?_eq_some_iff.mp hx).1; omega
      obtain ⟨M, hM⟩ : ∃ M, X[q0]? = some M := ⟨_, List.getElem?_eq_getElem hq⟩
      obtain ⟨c, rfl, _, hc⟩ := I3.r q0 x M hx hM
      have lm := lM M (List.mem_of_getElem? hM)
      have ll2 := List.length_filter_le (fun M : List Int => decide ((dl M).length = 2) && endP ea eb M) (X.take q0)
      rw [List.length_take] at ll2
      refine ⟨keep1.1, keep1.2, ?_⟩
      have hcM : SqL K H4 c (M.map V.int) := SqL.of (s4 _ _ hc)
      have aa : atI (M.map V.int) (ea : Int) = some (.int (M.getD ea 0)) := atI_nat (by rw [List.getElem?_map, List.getElem?_eq_getElem (by omega), List.getD_eq_getElem?_getD, List.getElem?_eq_getElem (by omega)]; rfl)
      have ab : atI (M.map V.int) (eb : Int) = some (.int (M.getD eb 0)) := atI_nat (by rw [List.getElem?_map, List.getElem?_eq_getElem (by omega), List.getD_eq_getElem?_getD, List.getElem?_eq_getElem (by omega)]; rfl)
      have et : X.take (q0 + 1) = X.take q0 ++ [M] := by rw [List.take_add_one, hM]; rfl
      have no : (decide ((dl M).length = 2) && endP ea eb M) = false → zs.length = ((X.take (q0 + 1)).filter fun M => decide ((dl M).length = 2) && endP ea eb M).length := fun hh => by
        rw [et, List.filter_append, List.filter_cons_of_neg (p := fun M : List Int => decide ((dl M).length = 2) && endP ea eb M) (by rw [hh]; decide), List.filter_nil, List.append_nil, lz]
      refine ⟨_, rfl, c, M, rfl, hcM, by omega, rfl, _, rfl, ?_⟩
      by_cases h1 : (dl M).length = 2
      · refine L2.ifT (by rw [h1]; rfl) ?_
        refine ⟨_, rfl, _, rfl, ed, _, _, _, rfl, rfl, (s3.trans s4).seqT hE, rfl, c, _, _, _, rfl, rfl, hcM, aa, _, rfl, _, rfl, ed, _, _, _, rfl, rfl, (s3.trans s4).seqT hE, rfl, c, _, _, _, rfl, rfl, hcM, ab, rfl, _, rfl, ?_⟩
        by_cases hP : M.getD ea 0 = M.getD eb 0
        · exact L2.ifF (by rw [hP]; simp) (hC _ _ ⟨s4, e4, no (by rw [show endP ea eb M = false from decide_eq_false (fun z => z hP), Bool.and_false])⟩)
        · refine L2.ifT (by show (!decide (V.int (M.getD ea 0) = V.int (M.getD eb 0))) = true; rw [decide_eq_false (fun z => hP (by injection z))]; rfl) ⟨_, rfl, e4, small_l (by omega), hC _ _ ⟨s4.change hD2, upd_same, ?_⟩⟩
          rw [et, List.filter_append, List.filter_cons_of_pos (p := fun M : List Int => decide ((dl M).length = 2) && endP ea eb M) (by rw [decide_eq_true h1, show endP ea eb M = true from decide_eq_true hP]; rfl), List.length_append, List.length_append, lz]; rfl
      · exact L2.ifF (decide_eq_false (fun z => h1 (by injection z with z; omega))) (hC _ _ ⟨s4, e4, no (by rw [decide_eq_false h1, Bool.false_and])⟩)
    · rintro zs H4 ⟨s4, e4, lz⟩
      rw [lws, List.take_length] at lz
      refine ⟨D2, zs, rfl, .inl (SqL.of e4), ?_⟩
      rw [lz]
      exact q _ (s3.trans s4)
end
end K64

set_option Elab.async false
set_option linter.all false
set_option maxRecDepth 100000
set_option maxHeartbeats 4000000
namespace K64
open PySem L2 Shp
section
variable {P : Program} {w : World} {K : PySem.W.Frag} {mg : Str → Option Value} {base : Heap} {f g1 g2 g3 g4 g5 g6 g7 g8 : Addr} {fd gd1 gd2 gd3 gd4 gd5 gd6 gd7 gd8 : FuncData} {CX : CXT}
variable {CR : Addr} {CK : Kd → Addr} {fW fJ fT fS : Kd → Addr} {fdW fdJ fdT fdS : Kd → FuncData}
def spNet63 (CN : Addr) (K : PySem.W.Frag) : Sp := fun vs H Q _ => ∃ (m : Int) (r : Addr) (us : List V) (ds : List RD), vs = [.int m, .ref r] ∧ 1 ≤ m ∧ m ≤ 20 ∧ SqL K H r us ∧ Rts K H us ds ∧ (∀ d ∈ ds, RdOk m d) ∧ ds.length ≤ 40 ∧ ∀ n l H', Same H H' → H l = none → NetAt CN K H' n l m ds → Q (.ref n) H'
abbrev sNet63 : Stmt := top 44
theorem scNet63 : FnScope ["_law_many", "_law_rows_here", "_law_net_here", "_law_row"] ["_law_many", "_law_rows_here"] (defScope sNet63) := ⟨rfl, rfl, rfl, by decide +kernel, rfl, by decide +kernel, by decide +kernel⟩
theorem ok_net63 {dV : Value} (F : FunD K "_law_net" "_law_net" sNet63 dV f fd)
    {CN : Addr} (NTx : NT K mg CN)
    {gAd : Addr} {gdAd : FuncData} (GAd : FnOk P w K mg base CX0 5 gAd gdAd ["self", "row"] (spAdd CN K CK)) (bAd : Binds K gdAd ["self", "row"] []) (mAd : Meth K CN "add" gAd)
    {gNI : Addr} {gdNI : FuncData} (GNI : FnOk P w K mg base CX0 2 gNI gdNI ["self", "many"] (spNInit CN)) (bNI : Binds K gdNI ["self", "many"] []) (MN : Mk K CN gNI)
    (G1 : FnOk P w K mg base CX0 3 g1 gd1 ["told"] (spRowOfG K CK)) (b1 : Binds K gd1 ["told"] []) (k1 : PySem.W.keepIn K (.ref g1) = true) (m1 : mg "row_of" = some (.ref g1)) :
    FnOk P w K mg base CX 6 f fd ["_law_many", "_law_rows_here"] (spNet63 CN K) := by
  refine F.ok scNet63 (fun vs H Q E h => ?_) (fun cdv A outer s H vs Q E hr h => ?_)
  · obtain ⟨m, r, us, ds, rfl, hm1, hm20, hU, hR, hK, h40, q⟩ := h
    rfl
  obtain ⟨m, r, us, ds, rfl, hm1, hm20, hU, hR, hK, h40, q⟩ := h
  have r3 := hr.mono (show 3 ≤ 5 by omega)
  refine ⟨_, (pss_cons (ps_set (i := 2) scNet63.nd rfl (Or.inl rfl) (pe_make MN GNI r3 rfl NTx.mN bNI .nil pass0 (pa_cons (pv 0) pa_nil)))
    (pss_cons (ps_for PassesOwn.never rfl (pi_list (pv 1)) (pg_name (i := 3) scNet63.nd rfl (Or.inl rfl))
      (pss_one (ps_expr (pe_meth (pv 2) NTx.cl mAd GAd hr bAd .nil pass0 (pa_cons (pe_call G1 r3 rfl m1 k1 b1 .nil pass0 (pa_cons (pv 3) pa_nil)) pa_nil)))))
    (pss_one (ps_ret (pv 2))))), ?_⟩
  have lus := hR.length
  refine ⟨_, rfl, fun n dx h1 h2 ne => ⟨n, dx, m, rfl, upd_same, hm1, hm20, fun l H2 nl keep hn hl => ⟨rfl, ?_⟩⟩⟩
  have s2 : Same H H2 := fun b o e => keep b o (by rw [upd_ne (ne_of_none e h1), upd_ne (ne_of_none e h2)]; exact e) (ne_of_none e h1)
  have hl0 : H l = none := by
    cases o : H l with
    | none => rfl
    | some o' =>
      have : (upd (upd H dx (.own n)) n (.ins CN dx [])) l = some o' := by rw [upd_ne (ne_of_none o h1), upd_ne (ne_of_none o h2)]; exact o
      rw [this] at nl; cases nl
  refine ⟨_, rfl, r, rfl, ⟨_, s2.seq hU⟩, ?_⟩
  refine for_list (xs := us) (fun i σ H' => Same H H' ∧ NetAt CN K H' n l m (ds.take i) ∧ ∃ z, σ = [some (.int m), some (.ref r), some (.ref n), z]) ⟨s2, ⟨⟨dx, hn⟩, [], hl, .nil⟩, none, rfl⟩ (fun i σ H' _ h => h.1.seq hU) ?_ ?_
  · rintro i x σ H3 hx ⟨s3, N3, z, rfl⟩
    have hi : i < ds.length := by
      have := (List.getElem?_eq_some_iff.mp hx).1
      omega
    obtain ⟨⟨k, u, v, p⟩, hd⟩ : ∃ d, ds[i]? = some d := ⟨_, List.getElem?_eq_getElem hi⟩
    obtain ⟨t, z', et, hT, fz⟩ := hR.at hd
    have ex : x = .ref t := by rw [et] at hx; exact (Option.some.inj hx).symm
    subst ex
    obtain ⟨dn, hn3⟩ := N3.ob
    have lt : (ds.take i).length ≤ ds.length := by rw [List.length_take]; omega
    refine ⟨_, rfl, n, dn, _, rfl, hn3, nflds_no _ _ (by decide +kernel) (by decide +kernel), _, rfl, t, _, _, _, _, rfl, s3.seqT hT, k, rfl, fun y H4 s4 ny rw => ?_⟩
    refine ⟨n, l, y, z', m, ds.take i, k, u, v, p, rfl, N3.same s4, rw, (s3.trans s4).fq fz, hK _ (List.mem_of_getElem? hd), by rw [List.length_take]; omega, fun H5 x5 N5 => ?_⟩
    refine ⟨fun b o e => x5 _ _ ((s3.trans s4) _ _ e) (ne_of_none e hl0), ?_, _, rfl⟩
    rw [List.take_add_one, hd]
    exact N5
  · rintro σ H3 ⟨s3, N3, z, rfl⟩
    rw [lus, List.take_length] at N3
    exact ⟨_, rfl, q n l H3 s3 hl0 N3⟩
theorem dw_pu (k : Kd) : decide (V.str k.wd = V.str "push") = decide (k = .pu) := dec_wd k .pu
theorem at5 {r : Int} (h0 : 0 ≤ r) (h3 : r < 5) : ∃ k : Kd, k ≠ .ho ∧ atI [V.str "piece", .str "push", .str "piece", .str "piece", .str "piece"] r = some (.str k.wd) := by
  have : r = 0 ∨ r = 1 ∨ r = 2 ∨ r = 3 ∨ r = 4 := by omega
  rcases this with rfl | rfl | rfl | rfl | rfl
  · exact ⟨.pc, by decide, rfl⟩
  · exact ⟨.pu, by decide, rfl⟩
  · exact ⟨.pc, by decide, rfl⟩
  · exact ⟨.pc, by decide, rfl⟩
  · exact ⟨.pc, by decide, rfl⟩
theorem cut4 (xs : List V) (w : Nat) : (cutV xs (some 4) (some (4 + (w : Int)))).length ≤ w := by
  unfold cutV
  have h1 : HT.sIx xs.length xs.length (some (4 + (w : Int))) = min (4 + w) xs.length := by
    simp only [HT.sIx]
    rw [if_neg (by omega), show (4 + (w : Int)).toNat = 4 + w by omega]
  have h2 : HT.sIx xs.length 0 (some 4) = min 4 xs.length := by simp [HT.sIx]
  rw [h1, h2]
  simp
  omega
def spRowsL (K : PySem.W.Frag) : Sp := fun vs H Q _ => ∃ (a : Addr) (ns : List Int) (m w : Nat), vs = [.ref a, .int (m : Int), .int (w : Int)] ∧ SqL K H a (ns.map V.int) ∧ ns.length ≤ 63 ∧ 1 ≤ m ∧ w ≤ 20 ∧
  ∀ r us ds H', Same H H' → H r = none → H' r = some (.lst us) → Rts K H' us ds → (∀ d ∈ ds, RdOk (m : Int) d) → NoHo ds → ds.length ≤ w → Q (.ref r) H'
theorem nd_k_cell : (["_law_k", "_law_cell"] : List Str).Nodup := by decide +kernel
abbrev sRowsL : Stmt := top 45
theorem scRowsL : FnScope ["_law_script", "_law_many", "_law_most", "_law_rows_here", "_law_cells", "_law_cell", "_law_one", "_law_word", "_law_size"] ["_law_script", "_law_many", "_law_most"] (defScope sRowsL) := ⟨rfl, rfl, rfl, by decide +kernel, rfl, by decide +kernel, by decide +kernel⟩
theorem ok_rowsl {dV : Value} (F : FunD K "_law_rows" "_law_rows" sRowsL dV f fd)
    (b : Bl mg) (mr : mg "range" = none)
    (G1 : FnOk P w K mg base CX0 1 g1 gd1 ["_law_cell", "_law_turn", "_law_many"] spMix) (b1 : Binds K gd1 ["_law_cell", "_law_turn", "_law_many"] []) (k1 : PySem.W.keepIn K (.ref g1) = true) (m1 : mg "_law_mix" = some (.ref g1))
    (G2 : FnOk P w K mg base CX0 1 g2 gd2 ["_law_cell", "_law_k"] spPart) (b2 : Binds K gd2 ["_law_cell", "_law_k"] []) (k2 : PySem.W.keepIn K (.ref g2) = true) (m2 : mg "_law_part" = some (.ref g2))
    (G3 : FnOk P w K mg base CX0 1 g3 gd3 ["_law_top", "_law_bottom"] spFrac) (b3 : Binds K gd3 ["_law_top", "_law_bottom"] []) (k3 : PySem.W.keepIn K (.ref g3) = true) (m3 : mg "_law_lowest" = some (.ref g3))
    (G4 : FnOk P w K mg base CX0 1 g4 gd4 ["_law_script", "_law_k"] (spDraw K)) (b4 : Binds K gd4 ["_law_script", "_law_k"] []) (k4 : PySem.W.keepIn K (.ref g4) = true) (m4 : mg "_law_draw" = some (.ref g4)) :
    FnOk P w K mg base CX 2 f fd ["_law_script", "_law_many", "_law_most"] (spRowsL K) := by
  refine F.ok scRowsL (fun vs H Q E h => ?_) (fun cdv A outer s H vs Q E hr h => ?_)
  · obtain ⟨a, ns, m, w, rfl, hS, h63, hm1, w20, q⟩ := h
    rfl
  obtain ⟨a, ns, m, w, rfl, hS, h63, hm1, w20, q⟩ := h
  refine ⟨_, (pss_cons (ps_set (i := 3) scRowsL.nd rfl (Or.inl rfl) (pe_lst pa_nil))
    (pss_cons (ps_set (i := 4) scRowsL.nd rfl (Or.inl rfl) (pe_slice sl_list (pv 0) (po_some pe_int) (po_some (pe_op op_add pe_int (pv 2)))))
    (pss_cons (ps_set (i := 5) scRowsL.nd rfl (Or.inr rfl) (pe_call G4 hr rfl m4 k4 b4 .nil pass0 (pa_cons (pv 0) (pa_cons pe_int pa_nil))))
    (pss_cons (ps_if (pt_cmpR op_eq (pe_call G1 hr rfl m1 k1 b1 .nil pass0 (pa_cons (pv 5) (pa_cons pe_int (pa_cons pe_int pa_nil)))) pe_int (nomark _)) (pss_one (ps_setC (i := 4) (nl := 1) (fr := [5]) (Nc := ["_law_k", "_law_cell"]) (cl := [("_law_cell", s.heap.objs.size + 1)]) scRowsL.nd rfl rfl rfl ⟨rfl, rfl, by decide +kernel, by decide +kernel, fun x c h => h, has_of rfl, rfl, fun i n h => match i, h with | 0, h => by cases h; exact ⟨5, rfl, rfl, rfl, rfl, .inl rfl⟩ | k + 1, h => by rw [show 1 + (k + 1) = k + 2 by omega] at h; cases h⟩
        (pi_range1 rfl mr (pa_cons (pv 2) pa_nil)) (fun C s3 H3 fp pins => (pg_name (i := 0) nd_k_cell rfl (Or.inl rfl))) (fun C s3 H3 fp pins => pif_nil)
        (fun C s3 H3 fp pins => (pe_call G2 hr rfl m2 k2 b2 .nil pass0 (pa_cons (pv 1) (pa_cons (pv 0) pa_nil)))) rfl)) pss_nil)
    (pss_cons (ps_for PassesOwn.never rfl (pi_list (pv 4)) (pg_name (i := 6) scRowsL.nd rfl (Or.inl rfl))
      (pss_cons (ps_set (i := 7) scRowsL.nd rfl (Or.inl rfl) (pe_ix ix_list (pe_lst (pa_cons pe_str (pa_cons pe_str (pa_cons pe_str (pa_cons pe_str (pa_cons pe_str pa_nil)))))) (pe_call G1 hr rfl m1 k1 b1 .nil pass0 (pa_cons (pv 6) (pa_cons pe_int (pa_cons pe_int pa_nil)))) (fun _ _ => rfl)))
    (pss_cons (ps_set (i := 8) scRowsL.nd rfl (Or.inl rfl) (pe_call G3 hr rfl m3 k3 b3 .nil pass0 (pa_cons (pe_op op_add pe_int (pe_call G1 hr rfl m1 k1 b1 .nil pass0 (pa_cons (pv 6) (pa_cons pe_int (pa_cons pe_int pa_nil))))) (pa_cons (pe_op op_add pe_int (pe_call G1 hr rfl m1 k1 b1 .nil pass0 (pa_cons (pv 6) (pa_cons pe_int (pa_cons pe_int pa_nil))))) pa_nil))))
    (pss_cons (ps_if (pt_cmpR op_eq (pv 7) pe_str (nomark _)) (pss_one (ps_set (i := 8) scRowsL.nd rfl (Or.inl rfl) (pe_call G3 hr rfl m3 k3 b3 .nil pass0 (pa_cons (pe_op op_sub (pe_call G1 hr rfl m1 k1 b1 .nil pass0 (pa_cons (pv 6) (pa_cons pe_int (pa_cons pe_int pa_nil)))) pe_int) (pa_cons (pe_op op_add pe_int (pe_call G1 hr rfl m1 k1 b1 .nil pass0 (pa_cons (pv 6) (pa_cons pe_int (pa_cons pe_int pa_nil))))) pa_nil))))) pss_nil)
    (pss_one (ps_expr (pe_bm PySem.F.plainAttrs_list PySem.F.slot_list_append PySem.F.type_list_append mt_append (pv 3) (pa_cons (pe_tup (pa_cons (pv 7) (pa_cons (pe_call G1 hr rfl m1 k1 b1 .nil pass0 (pa_cons (pv 6) (pa_cons pe_int (pa_cons (pv 1) pa_nil)))) (pa_cons (pe_call G1 hr rfl m1 k1 b1 .nil pass0 (pa_cons (pv 6) (pa_cons pe_int (pa_cons (pv 1) pa_nil)))) (pa_cons (pv 8) pa_nil))))) pa_nil))))))))
    (pss_one (ps_ret (pv 3)))))))), ?_⟩
  refine ⟨by show 0 ≤ sizeLine; decide, fun r hr0 => ?_⟩
  have s1 := same_new hr0 (.lst [])
  have e1 : upd H r (.lst []) r = some (.lst []) := upd_same
  generalize upd H r (.lst []) = H1 at s1 e1 ⊢

  refine ⟨_, rfl, 4, rfl, _, rfl, _, _, rfl, rfl, 4 + (w : Int), rfl, a, _, rfl, s1.seq hS, fun C0 hC0 => ?_⟩
  have c0 := cut4 (ns.map V.int) w
  obtain ⟨ms0, em⟩ := cut_intsN ns (some 4) (some (4 + (w : Int)))
  rw [em] at c0 ⊢
  rw [List.length_map] at c0
  have s2 := same_new hC0 (.lst (ms0.map V.int))
  have eC0 : upd H1 C0 (.lst (ms0.map V.int)) C0 = some (.lst (ms0.map V.int)) := upd_same
  have n0r : C0 ≠ r := Ne.symm (ne_of_none e1 hC0)
  have e2 := s2 _ _ e1
  generalize upd H1 C0 (.lst (ms0.map V.int)) = H2 at s2 eC0 e2 ⊢
  have s02 := s1.trans s2
  refine ⟨_, rfl, a, ns, 1, 1, rfl, rfl, s02.seq hS, h63, fun cc H3 s3 => ?_⟩
  have s03 := s02.trans s3
  have e3 := s3 _ _ e2
  have eC3 := s3 _ _ eC0
  refine ⟨_, rfl, cc, 5, 3, rfl, by decide, by decide, by decide, fun vv H4 v0 v3 s4 => ⟨rfl, _, rfl, ?_⟩⟩
  have s04 := s03.trans s4
  have e4 := s4 _ _ e3
  have eC4 := s4 _ _ eC3
  refine (fun (hrest : ∀ (z4 : Option V) (C : Addr) (ms : List Int) (Hx : Hp), z4 = some (.ref C) → Same H4 Hx → Hx C = some (.lst (ms.map V.int)) → C ≠ r → ms.length ≤ w → PySem.W.KIN.Hid ((?T : Option V → Hp → Prop) z4 Hx)) => ?main) ?rest
  case main =>
    refine ite2 (fun _ => ?_) (fun _ => ?_)
    · refine ⟨_, rfl, (w : Int), rfl, by omega, by omega, fun D hD => ?_⟩
      have sD := same_new hD (.lst [])
      refine comp_range (n := w) (fun i zs H' => Same H4 H' ∧ H' D = some (.lst zs) ∧ ∃ ms : List Int, zs = ms.map V.int ∧ ms.length = i) ⟨sD, upd_same, [], rfl, rfl⟩ (fun i zs H' h => h.2.1) ?_ ?_
      · rintro i zs H5 hi ⟨s5, e5, ms, rfl, hl⟩ C hC
        refine ⟨keep1.1, keep1.2, iteT ?_⟩
        refine ⟨_, rfl, _, rfl, cc, _, rfl, by omega, by omega, fun w' => ?_⟩
        exact ⟨e5, small1000 (by rw [List.length_map]; omega), hC _ _ ⟨s5.change hD, upd_same, ms ++ [w'], by rw [List.map_append]; rfl, by rw [List.length_append, hl]; rfl⟩⟩
      · rintro zs H5 ⟨s5, e5, ms, rfl, hl⟩
        show tSeq _ _ _ [some (.ref a), some (.int (m : Int)), some (.int (w : Int)), some (.ref r), some (.ref D), some (.int cc), none, none, none] H5
        generalize h7 : (some (V.ref D) : Option V) = z7
        exact (hrest z7 D ms H5 h7.symm s5 e5 (Ne.symm (ne_of_none e4 hD)) (by omega)).out
    · show tSeq _ _ _ [some (.ref a), some (.int (m : Int)), some (.int (w : Int)), some (.ref r), some (.ref C0), some (.int cc), none, none, none] H4
      generalize h7 : (some (V.ref C0) : Option V) = z7
      exact (hrest z7 C0 ms0 H4 h7.symm (Same.refl _) eC4 n0r c0).out
  case rest =>
  intro z4 C ms H5 h7 s5 eC5 nCr c20
  subst h7
  refine ⟨?_⟩
  have s05 := s04.trans s5
  have e5 := s5 _ _ e4
  refine ⟨_, rfl, C, rfl, ⟨_, SqL.of eC5⟩, ?_⟩
  refine for_list (xs := ms.map V.int) (fun n σ H' => Same H H' ∧ H' C = some (.lst (ms.map V.int)) ∧ ∃ (us : List V) (ds : List RD) (z6 z7 z8 : Option V), σ = [some (.ref a), some (.int (m : Int)), some (.int (w : Int)), some (.ref r), some (.ref C), some (.int cc), z6, z7, z8] ∧ H' r = some (.lst us) ∧ Rts K H' us ds ∧ (∀ d ∈ ds, RdOk (m : Int) d) ∧ NoHo ds ∧ ds.length = n) ⟨s05, eC5, [], [], none, none, none, rfl, e5, .nil, (fun d hd => by cases hd), (fun d hd => by cases hd), rfl⟩ (fun n σ H' _ h => SqL.of h.2.1) ?_ ?_
  · rintro n x σ H3 hx ⟨s3, eC3, us, ds, z6, z7, z8, rfl, er, hR, hK, nh, hlen⟩
    have hn : n < w := by
      have := (List.getElem?_eq_some_iff.mp hx).1
      rw [List.length_map] at this
      omega
    obtain ⟨c, rfl⟩ : ∃ c, x = .int c := by
      rw [List.getElem?_map] at hx
      cases hm : ms[n]? with
      | none => rw [hm] at hx; cases hx
      | some c => rw [hm] at hx; cases hx; exact ⟨c, rfl⟩
    have lus := hR.length
    refine ⟨by show 5 ≤ sizeLine; decide, fun L hL => ?_⟩
    have s4 := same_new hL (.lst [V.str "piece", .str "push", .str "piece", .str "piece", .str "piece"])
    have e4 : upd H3 L (.lst [V.str "piece", .str "push", .str "piece", .str "piece", .str "piece"]) L = some (.lst [V.str "piece", .str "push", .str "piece", .str "piece", .str "piece"]) := upd_same
    generalize upd H3 L (.lst [V.str "piece", .str "push", .str "piece", .str "piece", .str "piece"]) = H4 at s4 e4 ⊢
    refine ⟨_, rfl, c, 0, 5, rfl, by decide, by decide, by decide, fun y H5 y0 y3 s5 => ?_⟩
    obtain ⟨k, kh, ek⟩ := at5 y0 y3
    refine ⟨L, _, y, _, rfl, rfl, SqL.of (s5 _ _ e4), ek, ?_⟩
    refine ⟨_, rfl, c, 3, 12, rfl, by decide, by decide, by decide, fun u H6 u0 u1 s6 => ⟨_, _, rfl, rfl, ?_⟩⟩
    refine ⟨_, rfl, c, 4, 6, rfl, by decide, by decide, by decide, fun b' H7 b0 b1 s7 => ⟨_, _, rfl, rfl, ?_⟩⟩
    have le := Mq.red_le (t := 1 + u) (show 1 + b' ≠ 0 by omega)
    have bB : Mq.B 10 (1 + b') := B_of (by omega) (by omega)
    have bT : Mq.B 10 (1 + u) := B_of (by omega) (by omega)
    refine ⟨_, _, 10, rfl, by omega, bB, by omega, fun z H8 s8 e8 => ?_⟩
    have s38 := s4.trans (s5.trans (s6.trans (s7.trans s8)))
    have fz := Fq.of (K := K) e8
    have pz : 0 < (Mq.red (1 + u) (1 + b')).1 := Mq.red_pos (by omega) (by omega)
    have lz := Mq.red_low (t := 1 + u) (show 1 + b' ≠ 0 by omega)
    have bz : Mq.Bd 10 (Mq.red (1 + u) (1 + b')) := ⟨bT.le le.1, bB.le le.2⟩
    generalize Mq.red (1 + u) (1 + b') = p at fz pz lz bz
    clear e8
    refine (fun (hrest : ∀ (z5 : Option V) (zz : Addr) (p : Mq.Q2) (Hx : Hp), z5 = some (.ref zz) → Same H8 Hx → Fq K Hx zz p → Mq.Low p → (k = .pc → 0 < p.1) → Mq.Bd 10 p → PySem.W.KIN.Hid ((?T2 : Option V → Hp → Prop) z5 Hx)) => ?main2) ?rest2
    case main2 =>
      by_cases hk : k = .pu
      · refine ⟨_, rfl, rfl, _, rfl, L2.ifT (by rw [dw_pu]; exact decide_eq_true hk) ?_⟩
        refine ⟨_, rfl, c, 3, 121, rfl, by decide, by decide, by decide, fun u' H9 u0' u1' s9 => ⟨_, _, rfl, rfl, ?_⟩⟩
        refine ⟨_, rfl, c, 4, 12, rfl, by decide, by decide, by decide, fun b'' HA b0' b1' sA => ⟨_, _, rfl, rfl, ?_⟩⟩
        have le := Mq.red_le (t := u' - 60) (show 1 + b'' ≠ 0 by omega)
        have bB : Mq.B 10 (1 + b'') := B_of (by omega) (by omega)
        have bT : Mq.B 10 (u' - 60) := B_of (by omega) (by omega)
        refine ⟨_, _, 10, rfl, by omega, bB, by omega, fun zz HB sB eB => ?_⟩
        show tSeq _ _ _ [some (.ref a), some (.int (m : Int)), some (.int (w : Int)), some (.ref r), some (.ref C), some (.int cc), some (.int c), some (.str k.wd), some (.ref zz)] HB
        generalize h7 : (some (V.ref zz) : Option V) = z7
        exact (hrest z7 zz _ HB h7.symm (s9.trans (sA.trans sB)) (Fq.of eB) (Mq.red_low (by omega)) (fun z => by rw [hk] at z; cases z) ⟨bT.le le.1, bB.le le.2⟩).out
      · refine ⟨_, rfl, rfl, _, rfl, L2.ifF (by rw [dw_pu]; exact decide_eq_false hk) ?_⟩
        show tSeq _ _ _ [some (.ref a), some (.int (m : Int)), some (.int (w : Int)), some (.ref r), some (.ref C), some (.int cc), some (.int c), some (.str k.wd), some (.ref z)] H8
        generalize h7 : (some (V.ref z) : Option V) = z7
        exact (hrest z7 z p H8 h7.symm (Same.refl _) fz lz (fun _ => pz) bz).out
    case rest2 =>
    intro z5' zz p' H9 h7 s9 f9 lp pk pb
    subst h7
    refine ⟨?_⟩
    have s39 := s38.trans s9
    have er9 := s39 _ _ er
    refine ⟨_, rfl, .inl ⟨rfl, _, SqL.of er9⟩, _, rfl, _, rfl, _, rfl, c, 1, m, rfl, by decide, by decide, by omega, fun i HA i0 i1 sA => ?_⟩
    refine ⟨_, rfl, _, rfl, c, 2, m, rfl, by decide, by decide, by omega, fun j HB j0 j1 sB => ?_⟩
    refine ⟨_, rfl, by show 4 ≤ sizeLine; decide, fun t ht => ?_⟩
    have s10 := same_new ht (.tup [.str k.wd, .int i, .int j, .ref zz])
    have et : SqT K (upd HB t (.tup [.str k.wd, .int i, .int j, .ref zz])) t [.str k.wd, .int i, .int j, .ref zz] := SqT.of upd_same
    generalize upd HB t (.tup [.str k.wd, .int i, .int j, .ref zz]) = H10 at s10 et ⊢
    have s910 := sA.trans (sB.trans s10)
    have s310 := s39.trans s910
    have er10 := s310 _ _ er
    refine ⟨r, us, .ref t, rfl, rfl, er10, small1000 (by omega), ?_⟩
    refine ⟨(s3.trans s310).change hr0, by rw [upd_ne nCr]; exact s310 _ _ eC3, us ++ [.ref t], ds ++ [(k, i, j, p')], _, _, _, rfl, upd_same, Rts.upd er10 ((hR.same s310).app (.cons et (s910.fq f9) .nil)), fun d hd => ?_, fun d hd => ?_, by rw [List.length_append, hlen]; rfl⟩
    · rcases List.mem_append.mp hd with z | z
      · exact hK d z
      · have : d = (k, i, j, p') := by simpa using z
        rw [this]; exact ⟨i0, i1, j0, j1, lp, pk, pb.mono (by omega)⟩
    · rcases List.mem_append.mp hd with z | z
      · exact nh d z
      · have : d = (k, i, j, p') := by simpa using z
        rw [this]; exact kh
  · rintro σ H3 ⟨s3, _, us, ds, z6, z7, z8, rfl, er, hR, hK, nh, hlen⟩
    rw [List.length_map] at hlen
    exact ⟨_, rfl, q r us ds H3 s3 hr0 er hR hK nh (by omega)⟩
end
end K64

set_option Elab.async false
set_option linter.all false
set_option maxRecDepth 100000
set_option maxHeartbeats 4000000
namespace K64
open PySem L2 Shp
section
variable {P : Program} {w : World} {K : PySem.W.Frag} {mg : Str → Option Value} {base : Heap} {f g1 g2 g3 g4 g5 g6 g7 g8 : Addr} {fd gd1 gd2 gd3 gd4 gd5 gd6 gd7 gd8 : FuncData} {CX : CXT}
variable {CR : Addr} {CK : Kd → Addr} {fW fJ fT fS : Kd → Addr} {fdW fdJ fdT fdS : Kd → FuncData}
theorem op_in_seqK {X : Cx} {K : PySem.W.Frag} (h : X.K = K) : OpR X (compareOp .In) (rIn K false) := by subst h; exact op_in_seq
theorem call_list_ofK {X : Cx} {K : PySem.W.Frag} (h : X.K = K) : CallR X (.type "list") (fun xs H Q => ∃ p ys, xs = [.ref p] ∧ (SqL K H p ys ∨ SqT K H p ys) ∧ ∀ l, H l = none → Q (.ref l) (upd H l (.lst ys))) := by subst h; exact call_list_of
def ild (ps : List Int) : PyData := .list (ps.map PyData.int)
theorem ils_dat {K : PySem.W.Frag} {H : Hp} : ∀ {us : List V} {X : List (List Int)}, us.length = X.length → (∀ (i : Nat) (x : V) (ps : List Int), us[i]? = some x → X[i]? = some ps → ∃ a : Addr, x = .ref a ∧ H a = some (.lst (ps.map V.int))) → DatVs K H us (X.map ild)
  | [], [], _, _ => .nil
  | [], _ :: _, l, _ => by simp at l
  | _ :: _, [], l, _ => by simp at l
  | x :: us, ps :: X, l, h => by
    obtain ⟨a, rfl, ha⟩ := h 0 x ps rfl rfl
    exact .cons (.lst (SqL.of ha) (ints_dat ps)) (ils_dat (by simpa using l) fun i y qs h1 h2 => h (i + 1) y qs h1 h2)
theorem ild_lay : ∀ X : List (List Int), PyData.canLayAll0 (X.map ild) = true
  | [] => rfl
  | ps :: X => by
    show (PyData.canLayAll0 (ps.map PyData.int) && PyData.canLayAll0 (X.map ild)) = true
    rw [ild_lay X, ints_lay]; rfl
theorem ild_depth : ∀ X : List (List Int), PyData.depthAll (X.map ild) ≤ 2
  | [] => by simp [PyData.depthAll]
  | ps :: X => by
    have b := ild_depth X
    have a := ints_depth ps
    simp only [List.map_cons, PyData.depthAll, ild, PyData.depth] at b ⊢
    omega
theorem eqV_int (p c : Int) : eqV (.int p) (.int c) = decide (p = c) := by unfold eqV; first | rfl | simp
theorem inV_ints (c : Int) : ∀ ps : List Int, inV (.int c) (ps.map V.int) = decide (c ∈ ps)
  | [] => rfl
  | p :: ps => by
    have ih := inV_ints c ps
    show (eqV (.int p) (.int c) || inV (.int c) (ps.map V.int)) = _
    rw [ih, eqV_int]
    by_cases h : p = c
    · subst h; simp
    · have h' : c ≠ p := fun z => h z.symm
      simp [h, h']
theorem flat_ints : ∀ ps : List Int, (ps.map V.int).all flatV = true
  | [] => rfl
  | p :: ps => by show (true && (ps.map V.int).all flatV) = true; rw [flat_ints ps]; rfl
theorem nd_k_rows_here : (["_law_k", "_law_rows_here"] : List Str).Nodup := by decide +kernel
theorem nd_number_pieces : (["_law_number", "_law_pieces"] : List Str).Nodup := by decide +kernel
theorem nd_numbers_here : (["_law_numbers_here"] : List Str).Nodup := by decide +kernel

theorem pw_next {α : Type} {R : α → α → Prop} {l : List α} (h : l.Pairwise R) {i : Nat} {x y : α} (h1 : l[i]? = some x) (h2 : l[i + 1]? = some y) : R x y := by
  obtain ⟨l1, e1⟩ := List.getElem?_eq_some_iff.mp h1
  obtain ⟨l2, e2⟩ := List.getElem?_eq_some_iff.mp h2
  rw [← e1, ← e2]
  exact List.pairwise_iff_getElem.mp h i (i + 1) l1 l2 (by omega)
theorem zi_at {ns : List Nat} {i : Nat} {z : V} (h : ((zi ns).map V.int)[i]? = some z) : ∃ n : Nat, ns[i]? = some n ∧ z = .int (n : Int) := by
  rw [List.getElem?_map] at h
  unfold zi at h
  rw [List.getElem?_map] at h
  cases e : ns[i]? with
  | none => rw [e] at h; cases h
  | some n => rw [e] at h; cases h; exact ⟨n, rfl, rfl⟩
theorem pt_at {m a b : Nat} {ds : List RD} {i : Nat} {ps : List Int} (h : (ptL m ds a b)[i]? = some ps) : ∃ fo, (ptF m ds a b)[i]? = some fo ∧ ps = zi fo.1 := by
  unfold ptL at h
  rw [List.getElem?_map] at h
  cases e : (ptF m ds a b)[i]? with
  | none => rw [e] at h; cases h
  | some fo => rw [e] at h; cases h; exact ⟨fo, rfl, rfl⟩
theorem pt_mem {m a b : Nat} {ds : List RD} {fo : List Nat × List Int} (h : fo ∈ ptF m ds a b) : fo ∈ frst (sgF ds) (pcs ds) m (m - 2) ∧ fo.2.getD a 0 ≠ fo.2.getD b 0 := by
  unfold ptF at h
  obtain ⟨h1, h2⟩ := List.mem_filter.mp h
  exact ⟨h1, of_decide_eq_true h2⟩
theorem pt_len {m a b : Nat} {ds : List RD} : (ptL m ds a b).length = (ptF m ds a b).length := by unfold ptL; rw [List.length_map]
theorem pt_le {m a b : Nat} {ds : List RD} (p12 : (pcs ds).length ≤ 12) (hm : m ≤ 5) : (ptF m ds a b).length ≤ 20736 := by
  have fl := frst_le (sg := sgF ds) (m := m) (t := m - 2) p12 (by omega)
  have := List.length_filter_le (fun x => endP a b x.2) (frst (sgF ds) (pcs ds) m (m - 2))
  unfold ptF
  omega
theorem pt_two {m a b : Nat} {ds : List RD} {fo : List Nat × List Int} (ha : a < m) (hb : b < m) (h : fo ∈ ptF m ds a b) : 2 ≤ m := by
  have := (pt_mem h).2
  by_cases h1 : m = 1
  · have e1 : a = 0 := by omega
    have e2 : b = 0 := by omega
    rw [e1, e2] at this
    exact absurd rfl this
  · omega
theorem dl_le' (M : List Int) : (dl M).length ≤ M.length := dl_le M
theorem pt_count {m a b : Nat} {ds : List RD} (hm1 : 1 ≤ m) (ha : a < m) (hb : b < m) (pt : ∀ d ∈ ds, PtOk (m : Int) d.2.1 d.2.2.1) : (ptF m ds a b).length = ((wys (sgF ds) (pcs ds) [mks0 m]).filter fun M => decide ((dl M).length = 2) && endP a b M).length := by
  by_cases h1 : m = 1
  · have e0 : ptF m ds a b = [] := by
      cases e : ptF m ds a b with
      | nil => rfl
      | cons x l => have := pt_two (ds := ds) (fo := x) ha hb (by rw [e]; exact List.mem_cons_self); omega
    rw [e0]
    symm
    rw [List.length_nil, List.length_eq_zero_iff, List.filter_eq_nil_iff]
    intro M hM
    have l1 := wys_len (sg := sgF ds) (m := m) (pcs ds) [mks0 m] (one_len m) M hM
    have l2 := dl_le' M
    rw [decide_eq_false (by omega), Bool.false_and]
    decide
  · exact forests_count (sg := sgF ds) (c := 2) (P := endP a b) (m := m) (t := m - 2) (pcs_rise ds) (pcs_sg pt) (by omega)
theorem all_in {ds : List RD} {ns : List Nat} (h : ∀ x ∈ ns, x ∈ pcs ds) {n : Nat} (hn : n ∈ ns) : decide ((n : Int) ∈ zi (pcs ds)) = true := by
  apply decide_eq_true
  unfold zi
  exact List.mem_map.mpr ⟨n, h n hn, rfl⟩
def spListed (CN : Addr) (K : PySem.W.Frag) : Sp := fun vs H Q _ => ∃ (n l r : Addr) (us : List V) (ed : Addr) (m ea eb : Nat) (ds : List RD), vs = [.ref n, .ref r, .int (m : Int), .ref ed] ∧ SqT K H ed [.int (ea : Int), .int (eb : Int)] ∧ ea < m ∧ eb < m ∧ NtP CN K H n l m ds ∧ m ≤ 5 ∧ NoHo ds ∧ ds.length ≤ 12 ∧ SqL K H r us ∧ Rts K H us ds ∧ (∀ d ∈ ds, RdOk (m : Int) d) ∧ ∀ H', Same H H' → Q (.bl true) H'
abbrev sLst : Stmt := top 50
theorem scLst : FnScope ["_law_net_here", "_law_rows_here", "_law_many", "_law_ends", "_law_a", "_law_b", "_law_pieces", "_law_found", "_law_numbers_here", "_law_marks_here", "_law_kept"] ["_law_net_here", "_law_rows_here", "_law_many", "_law_ends"] (defScope sLst) := ⟨rfl, rfl, rfl, by decide +kernel, rfl, by decide +kernel, by decide +kernel⟩
theorem ok_lst {dV : Value} (F : FunD K "_law_listed" "_law_listed" sLst dV f fd)
    {CN : Addr} (b : Bl mg) (mr : mg "range" = none) (ml : mg "len" = none) (ma : mg "all" = none) (mli : mg "list" = none)
    (G1 : FnOk P w K mg base CX0 8 g1 gd1 ["net", "a", "b"] (spPtgs CN K)) (b1 : Binds K gd1 ["net", "a", "b"] []) (k1 : PySem.W.keepIn K (.ref g1) = true) (m1 : mg "partings" = some (.ref g1))
    (G2 : FnOk P w K mg base CX0 1 g2 gd2 ["_law_found"] (spRising K)) (b2 : Binds K gd2 ["_law_found"] []) (k2 : PySem.W.keepIn K (.ref g2) = true) (m2 : mg "_law_rising" = some (.ref g2))
    (G3 : FnOk P w K mg base CX0 1 g3 gd3 ["_law_found"] (spNumbers K)) (b3 : Binds K gd3 ["_law_found"] []) (k3 : PySem.W.keepIn K (.ref g3) = true) (m3 : mg "_law_numbers" = some (.ref g3))
    (G4 : FnOk P w K mg base CX0 1 g4 gd4 ["_law_rows_here", "_law_numbers_here", "_law_many"] (spMarksL K)) (b4 : Binds K gd4 ["_law_rows_here", "_law_numbers_here", "_law_many"] []) (k4 : PySem.W.keepIn K (.ref g4) = true) (m4 : mg "_law_marks" = some (.ref g4))
    (G6 : FnOk P w K mg base CX0 1 g6 gd6 ["_law_rows_here", "_law_pieces", "_law_many", "_law_ends"] (spCountL K)) (b6 : Binds K gd6 ["_law_rows_here", "_law_pieces", "_law_many", "_law_ends"] []) (k6 : PySem.W.keepIn K (.ref g6) = true) (m6 : mg "_law_count" = some (.ref g6)) :
    FnOk P w K mg base CX 9 f fd ["_law_net_here", "_law_rows_here", "_law_many", "_law_ends"] (spListed CN K) := by
  refine F.ok scLst (fun vs H Q E h => ?_) (fun cdv A outer s H vs Q E hr h => ?_)
  · obtain ⟨n, l, r, us, ed, m, ea, eb, ds, rfl, hE, lea, leb, NP, hm5, nh, h12, hU, hR, hK, q⟩ := h
    rfl
  obtain ⟨n, l, r, us, ed, m, ea, eb, ds, rfl, hE, lea, leb, NP, hm5, nh, h12, hU, hR, hK, q⟩ := h
  have r1 := hr.mono (show 1 ≤ 8 by omega)
  have r5 := hr.mono (show 5 ≤ 8 by omega)
  have hu := hr.units
  have h40 := NP.h
  have hm1 := NP.m1
  have lus := hR.length
  have p12 := Nat.le_trans (pcs_len ds) h12
  refine ⟨_, (pss_cons (ps_asg (pv 3) (pg_tup rfl (pgs_cons (pg_name (i := 4) scLst.nd rfl (Or.inl rfl)) (pgs_cons (pg_name (i := 5) scLst.nd rfl (Or.inl rfl)) pgs_nil))))
    (pss_cons (ps_set (i := 6) scLst.nd rfl (Or.inr rfl) (pe_comp (nl := 1) (fr := [1]) (Nc := ["_law_k", "_law_rows_here"]) (cl := [("_law_rows_here", s.heap.objs.size + 1)]) rfl ⟨rfl, rfl, by decide +kernel, by decide +kernel, (sub_cons rfl (sub_nil)), has_of rfl, rfl, fun i n h => match i, h with | 0, h => by cases h; exact ⟨1, rfl, rfl, rfl, rfl, .inl rfl⟩ | k + 1, h => by rw [show 1 + (k + 1) = k + 2 by omega] at h; cases h⟩
        (pi_range1 rfl mr (pa_cons (pe_callB call_len_seq rfl ml PySem.boot_len (pa_cons (pv 1) pa_nil)) pa_nil)) (fun C s3 H3 fp pins => (pg_name (i := 0) nd_k_rows_here rfl (Or.inl rfl))) (fun C s3 H3 fp pins => (pif_one (pt_cmpR op_eq (pe_ix (ix_tupK (K := K) rfl) (pe_ix (ix_listK (K := K) rfl) (pv 1) (pv 0) (fun _ _ => rfl)) pe_int (fun _ _ => rfl)) pe_str (nomark _))))
        (fun C s3 H3 fp pins => (pv 0))))
    (pss_cons (ps_set (i := 7) scLst.nd rfl (Or.inl rfl) (pe_call G1 hr rfl m1 k1 b1 .nil pass0 (pa_cons (pv 0) (pa_cons (pv 4) (pa_cons (pv 5) pa_nil)))))
    (pss_cons (ps_if (PW.pt (pw_or (pt_not (pt_val (pe_isiQ (i := 7) rfl (Or.inl rfl) b.isi mli rfl rfl PyProof.Rows.boot_list))) (pw_or1 (pt_not (pt_val (pe_call G2 r1 rfl m2 k2 b2 .nil pass0 (pa_cons (pv 7) pa_nil))))))) (pss_one (ps_ret pe_bl)) pss_nil)
    (pss_cons (ps_for PassesOwn.never rfl (pi_list (pv 7)) (pg_name (i := 8) scLst.nd rfl (Or.inl rfl))
      (pss_cons (ps_if (PW.pt (pw_or (pt_not (pt_val (pe_call G3 r1 rfl m3 k3 b3 .nil pass0 (pa_cons (pv 8) pa_nil)))) (pw_or (pt_cmpR op_ne (pe_callB call_len_seq rfl ml PySem.boot_len (pa_cons (pv 8) pa_nil)) (pe_op op_sub (pv 2) pe_int) (nomark _)) (pw_or1 (pt_not (pt_val (pe_call G2 r1 rfl m2 k2 b2 .nil pass0 (pa_cons (pv 8) pa_nil)))))))) (pss_one (ps_ret pe_bl)) pss_nil)
    (pss_cons (ps_if (pt_not (pt_val (pe_callB (call_all rfl) rfl ma PyProof.Rows.boot_all (pa_cons (pe_comp (nl := 1) (fr := [6]) (Nc := ["_law_number", "_law_pieces"]) (cl := [("_law_pieces", s.heap.objs.size + 2)]) rfl ⟨rfl, rfl, by decide +kernel, by decide +kernel, (sub_cons rfl (sub_nil)), has_of rfl, rfl, fun i n h => match i, h with | 0, h => by cases h; exact ⟨6, rfl, rfl, rfl, rfl, .inl rfl⟩ | k + 1, h => by rw [show 1 + (k + 1) = k + 2 by omega] at h; cases h⟩
        (pi_list (pv 8)) (fun C s3 H3 fp pins => (pg_name (i := 0) nd_number_pieces rfl (Or.inl rfl))) (fun C s3 H3 fp pins => pif_nil)
        (fun C s3 H3 fp pins => (pe_cmpR (op_in_seqK (K := K) rfl) (pv 0) (pv 1) rfl))) pa_nil)))) (pss_one (ps_ret pe_bl)) pss_nil)
    (pss_cons (ps_set (i := 9) scLst.nd rfl (Or.inl rfl) (pe_call G4 r1 rfl m4 k4 b4 .nil pass0 (pa_cons (pv 1) (pa_cons (pv 8) (pa_cons (pv 2) pa_nil)))))
    (pss_one (ps_if (PW.pt (pw_or (pt_cmp (pc_isN (pv 9))) (pw_or1 (pt_cmpR op_eq (pe_ix ix_list (pv 9) (pv 4) (fun _ _ => rfl)) (pe_ix ix_list (pv 9) (pv 5) (fun _ _ => rfl)) (nomark _))))) (pss_one (ps_ret pe_bl)) pss_nil))))))
    (pss_cons (ps_if (pt_cmpR op_ne (pe_callB call_len_seq rfl ml PySem.boot_len (pa_cons (pv 7) pa_nil)) (pe_call G6 r1 rfl m6 k6 b6 .nil pass0 (pa_cons (pv 1) (pa_cons (pv 6) (pa_cons (pv 2) (pa_cons (pv 3) pa_nil))))) (nomark _)) (pss_one (ps_ret pe_bl)) pss_nil)
    (pss_cons (ps_setC (i := 10) (nl := 1) (fr := []) (Nc := ["_law_numbers_here"]) (cl := []) scLst.nd rfl rfl rfl ⟨rfl, rfl, by decide +kernel, by decide +kernel, fun x c h => (by cases h), has_of rfl, rfl, fun i n h => (by simp at h)⟩
        (pi_list (pv 7)) (fun C s3 H3 fp pins => (pg_name (i := 0) nd_numbers_here rfl (Or.inl rfl))) (fun C s3 H3 fp pins => pif_nil)
        (fun C s3 H3 fp pins => (pe_callTy (call_list_ofK (K := K) rfl) rfl mli PyProof.Rows.boot_list (pa_cons (pv 0) pa_nil))) rfl)
    (pss_cons (ps_for PassesOwn.never rfl (pi_list (pv 7)) (pg_name (i := 8) scLst.nd rfl (Or.inl rfl))
      (pss_one (ps_expr (pe_bm PySem.F.plainAttrs_list PySem.F.slot_list_append PySem.F.type_list_append mt_append (pv 8) (pa_cons pe_int pa_nil)))))
    (pss_cons (ps_expr (pe_bm PySem.F.plainAttrs_list PySem.F.slot_list_append PySem.F.type_list_append mt_append (pv 7) (pa_cons (pe_lst (pa_cons pe_int pa_nil)) pa_nil)))
    (pss_one (ps_ret (pe_and (pe_cmpR (op_eqD hu) (pe_call G1 hr rfl m1 k1 b1 .nil pass0 (pa_cons (pv 0) (pa_cons (pv 5) (pa_cons (pv 4) pa_nil)))) (pv 10) (nomark _)) (pe_one (pe_cmpR (op_eqD hu) (pe_call G1 hr rfl m1 k1 b1 .nil pass0 (pa_cons (pv 0) (pa_cons (pv 4) (pa_cons (pv 5) pa_nil)))) (pv 10) (nomark _))))))))))))))), ?_⟩
  refine ⟨_, rfl, ed, _, rfl, hE, rfl, _, _, rfl, _, _, rfl, rfl, ?_⟩
  refine ⟨_, rfl, r, us, rfl, .inl hU, (us.length : Int), rfl, by omega, by omega, fun pc hpc => ?_⟩
  have sD := same_new hpc (.lst [])
  refine comp_range (n := us.length) (fun i zs H' => Same H H' ∧ H' pc = some (.lst zs) ∧ zs = (zi (pcsT ds i)).map V.int) ⟨sD, upd_same, rfl⟩ (fun i zs H' h => h.2.1) ?_ ?_
  · rintro i zs H2 hi ⟨s2, e2, ez⟩ C hC
    obtain ⟨⟨k, u, v, p⟩, hd⟩ : ∃ d, ds[i]? = some d := ⟨_, List.getElem?_eq_getElem (by omega)⟩
    obtain ⟨t, z, et, hT, fz⟩ := (hR.same s2).at hd
    have ip := isP_some hd
    have lz : zs.length ≤ 100 := by rw [ez, List.length_map, zi_len]; have := pcsT_len ds i; omega
    have at_ : atI us (0 + (i : Int)) = some (.ref t) := by rw [Int.zero_add]; exact atI_nat et
    refine ⟨keep1.1, keep1.2, ?_⟩
    refine ⟨_, rfl, _, rfl, r, us, _, _, rfl, rfl, s2.seq hU, at_, t, _, 0, _, rfl, rfl, hT, rfl, rfl, _, rfl, ?_⟩
    by_cases hk : k = .pc
    · refine L2.ifT (by show decide (V.str k.wd = V.str Kd.pc.wd) = true; rw [dec_wd]; exact decide_eq_true hk) ⟨_, rfl, e2, small1000 (by omega), hC _ _ ⟨s2.change hpc, upd_same, ?_⟩⟩
      rw [ez, pcsT_yes (by rw [ip]; exact decide_eq_true hk), zi_snoc, List.map_append, Int.zero_add]; rfl
    · refine L2.ifF (by show decide (V.str k.wd = V.str Kd.pc.wd) = false; rw [dec_wd]; exact decide_eq_false hk) (hC _ _ ⟨s2, e2, ?_⟩)
      rw [ez, pcsT_no (by rw [ip, decide_eq_false hk]; decide)]
  rintro zs H1 ⟨s1, e1, ez⟩
  rw [lus] at ez
  replace e1 : H1 pc = some (.lst ((zi (pcs ds)).map V.int)) := by rw [e1, ez]; rfl
  clear ez
  -- trees
  refine ⟨_, rfl, _, rfl, _, rfl, n, l, m, ea, eb, ds, rfl, NP.same s1, hm5, lea, leb, nh, p12, fun lf ts H2 s2 nlf e2 I2 nts => ?_⟩
  have s02 := s1.trans s2
  have lts := I2.l
  have lT := @pt_len m ea eb ds
  have fl := pt_le (m := m) (a := ea) (b := eb) p12 hm5
  refine ⟨_, _, true, rfl, .lst (SqL.of e2), rfl, _, rfl, iteF ?_⟩
  refine ⟨_, rfl, lf, ts, rfl, SqL.of e2, by omega, fun i x y hx hy Q' hQ => ?_, _, rfl, iteF ?_⟩
  · have hi : i + 1 < ts.length := (List.getElem?_eq_some_iff.mp hy).1
    obtain ⟨p1, h1⟩ : ∃ p1, (ptL m ds ea eb)[i]? = some p1 := ⟨_, List.getElem?_eq_getElem (by omega)⟩
    obtain ⟨p2, h2⟩ : ∃ p2, (ptL m ds ea eb)[i + 1]? = some p2 := ⟨_, List.getElem?_eq_getElem (by omega)⟩
    obtain ⟨a1, rfl, _, ha1⟩ := I2.r _ _ _ hx h1
    obtain ⟨a2, rfl, _, ha2⟩ := I2.r _ _ _ hy h2
    obtain ⟨f1, hf1, rfl⟩ := pt_at h1
    obtain ⟨f2, hf2, rfl⟩ := pt_at h2
    obtain ⟨j, p, q', q1, q2, q3, q4⟩ := pw_next (List.Pairwise.filter _ (frs_lx (sg := sgF ds) (pcs_rise ds) (m := m) (m - 2)) : (ptF m ds ea eb).Pairwise _) hf1 hf2
    exact .inr ⟨a1, a2, _, _, j, (p : Int), (q' : Int), rfl, rfl, SqL.of ha1, SqL.of ha2, zi_get q1, zi_get q2, fun i hi => by unfold zi; rw [List.getElem?_map, List.getElem?_map, q3 i hi], by omega, hQ⟩
  -- each tree
  refine ⟨_, rfl, lf, rfl, ⟨_, SqL.of e2⟩, ?_⟩
  refine for_list (xs := ts) (fun i σ H' => Same H2 H' ∧ ∃ z5 z9, σ = [some (.ref n), some (.ref r), some (.int (m : Int)), some (.ref ed), some (.int (ea : Int)), some (.int (eb : Int)), some (.ref pc), some (.ref lf), z5, z9, none]) ⟨Same.refl _, none, none, rfl⟩ (fun i σ H' _ h => h.1.seq (SqL.of e2)) ?_ ?_
  · rintro i x σ H3 hx ⟨s3, z5, z9, rfl⟩
    have hi : i < ts.length := (List.getElem?_eq_some_iff.mp hx).1
    obtain ⟨ps, h1⟩ : ∃ ps, (ptL m ds ea eb)[i]? = some ps := ⟨_, List.getElem?_eq_getElem (by omega)⟩
    obtain ⟨a1, rfl, _, ha1⟩ := I2.r _ _ _ hx h1
    obtain ⟨fo, hfo, rfl⟩ := pt_at h1
    have fr := frs_ok (sg := sgF ds) (pt_mem (List.mem_of_getElem? hfo)).1
    have hm2 := pt_two lea leb (List.mem_of_getElem? hfo)
    have hab := (pt_mem (List.mem_of_getElem? hfo)).2
    have fre := fr.e
    obtain ⟨ns, mk⟩ := fo
    have frl : ns.length = m - 2 := fr.l
    have fri : ∀ x ∈ ns, x ∈ pcs ds := fr.i
    have fro : ∀ i x, ns[i]? = some x → okJ (sgF ds) (jf (sgF ds) m (ns.take i)) x = true := fr.o
    have frr : ns.Pairwise (· < ·) := fr.r
    have ha3 := s3 _ _ ha1
    have s03 := s02.trans s3
    have ha3' : SqL K H3 a1 ((zi ns).map V.int) := SqL.of ha3
    have lz : ((zi ns).map V.int).length = m - 2 := by rw [List.length_map, zi_len, frl]
    refine ⟨_, rfl, a1, zi ns, rfl, ha3', _, rfl, iteF ?_⟩
    refine ⟨_, rfl, a1, _, rfl, .inl ha3', _, rfl, _, _, rfl, rfl, rfl, _, rfl, L2.ifF (by rw [decide_eq_true (show V.int (((zi ns).map V.int).length : Int) = V.int ((m : Int) - 2) by rw [lz]; congr 1; omega)]; rfl) ?_⟩
    refine ⟨_, rfl, a1, _, rfl, ha3', by omega, fun i x y hx hy Q' hQ => ?_, _, rfl, iteF ?_⟩
    · obtain ⟨p, hp, rfl⟩ := zi_at hx
      obtain ⟨q', hq, rfl⟩ := zi_at hy
      have := pw_next frr hp hq
      refine .inl ⟨_, _, rfl, rfl, ?_⟩
      show Q' (.bl (decide ((p : Int) < (q' : Int)))) H3
      rw [decide_eq_true (by omega)]
      exact hQ
    refine ⟨_, rfl, a1, rfl, ⟨_, ha3'⟩, fun D hD => ?_⟩
    have sD := same_new hD (.lst [])
    have e13 := (s2.trans s3) _ _ e1
    refine comp_list (xs := (zi ns).map V.int) (fun k zs H' => Same H3 H' ∧ H' D = some (.lst zs) ∧ zs = (List.replicate k true).map V.bl) ⟨sD, upd_same, rfl⟩ (fun k zs H' h => h.2.1) (fun k zs H' _ h => h.1.seq ha3') ?_ ?_
    · rintro k zs x H4 hx ⟨s4, e4, ez⟩ C hC
      have hk : k < m - 2 := by have := (List.getElem?_eq_some_iff.mp hx).1; omega
      obtain ⟨nb, hnb, rfl⟩ := zi_at hx
      refine ⟨keep1.1, keep1.2, iteT ?_⟩
      refine ⟨_, rfl, _, rfl, pc, _, rfl, .inl (SqL.of (s4 _ _ e13)), rfl, flat_ints _, e4, small1000 (by rw [ez, List.length_map, List.length_replicate]; omega), hC _ _ ⟨s4.change hD, upd_same, ?_⟩⟩
      rw [ez, List.replicate_succ', List.map_append]
      show _ ++ [V.bl (inV (V.int (nb : Int)) ((zi (pcs ds)).map V.int))] = _
      rw [inV_ints, all_in fri (List.mem_of_getElem? hnb)]
      rfl
    rintro zs H4 ⟨s4, e4, rfl⟩
    refine ⟨D, _, rfl, SqL.of e4, _, rfl, L2.ifF (by simp) ?_⟩
    have s04 := s03.trans s4
    refine ⟨_, rfl, _, rfl, _, rfl, r, a1, us, m, ds, ns, rfl, s04.seq hU, hR.same s04, NP.pt, by omega, s4.seq ha3', fri, fro, fun mm H5 s5 e5 => ?_⟩
    have fre : mk = jf (sgF ds) m ns := fre
    rw [← fre] at e5
    have lmk : mk.length = m := by rw [fre, jf_len]
    have hab : mk.getD ea 0 ≠ mk.getD eb 0 := hab
    have aa : atI (mk.map V.int) (ea : Int) = some (.int (mk.getD ea 0)) := atI_nat (by rw [List.getElem?_map, List.getElem?_eq_getElem (by omega), List.getD_eq_getElem?_getD, List.getElem?_eq_getElem (by omega)]; rfl)
    have ab : atI (mk.map V.int) (eb : Int) = some (.int (mk.getD eb 0)) := atI_nat (by rw [List.getElem?_map, List.getElem?_eq_getElem (by omega), List.getD_eq_getElem?_getD, List.getElem?_eq_getElem (by omega)]; rfl)
    refine ⟨_, rfl, _, rfl, iteF ?_⟩
    refine ⟨_, rfl, _, rfl, mm, _, _, _, rfl, rfl, SqL.of e5, aa, _, rfl, _, rfl, mm, _, _, _, rfl, rfl, SqL.of e5, ab, rfl, _, rfl, L2.ifF (by show decide (V.int (mk.getD ea 0) = V.int (mk.getD eb 0)) = false; exact decide_eq_false (fun z => hab (by injection z))) ?_⟩
    exact ⟨s3.trans (s4.trans s5), _, _, rfl⟩
  rintro σ H3 ⟨s3, z5, z9, rfl⟩
  have s03 := s02.trans s3
  refine ⟨_, rfl, lf, _, rfl, .inl (s3.seq (SqL.of e2)), _, rfl, _, rfl, _, rfl, _, rfl, r, pc, ed, us, m, ea, eb, ds, rfl, s03.seqT hE, lea, leb, s03.seq hU, hR.same s03, NP.pt, by omega, SqL.of ((s2.trans s3) _ _ e1), p12, fun H4 s4 => ?_⟩
  have cn := pt_count (a := ea) (b := eb) hm1 lea leb NP.pt
  refine ⟨rfl, _, rfl, L2.ifF (by rw [← cn, lts, lT]; simp) ?_⟩
  -- kept
  have s24 := s3.trans s4
  have s04 := s02.trans s24
  refine ⟨_, rfl, lf, rfl, ⟨_, SqL.of (s24 _ _ e2)⟩, fun D hD => ?_⟩
  have sD := same_new hD (.lst [])
  refine comp_list (xs := ts) (fun k ws H' => Same H4 H' ∧ H' D = some (.lst ws) ∧ Ils H4 H' ws ((ptL m ds ea eb).take k) ∧ ∀ x ∈ ws, x ≠ .ref D) ⟨sD, upd_same, ⟨rfl, fun i x ps h => by simp at h⟩, fun x hx => by cases hx⟩ (fun k zs H' h => h.2.1) (fun k zs H' _ h => (s24.trans h.1).seq (SqL.of e2)) ?_ ?_
  · rintro k ws x H5 hx ⟨s5, e5, I5, n5⟩ C hC
    have hk : k < ts.length := (List.getElem?_eq_some_iff.mp hx).1
    obtain ⟨ps, h1⟩ : ∃ ps, (ptL m ds ea eb)[k]? = some ps := ⟨_, List.getElem?_eq_getElem (by omega)⟩
    obtain ⟨a1, rfl, _, ha1⟩ := I2.r _ _ _ hx h1
    have lw := I5.l
    rw [List.length_take] at lw
    refine ⟨keep1.1, keep1.2, iteT ?_⟩
    refine ⟨_, rfl, a1, _, rfl, .inl (SqL.of ((s24.trans s5) _ _ ha1)), fun A hA => ?_⟩
    have sA := same_new hA (.lst (ps.map V.int))
    have eA : upd H5 A (.lst (ps.map V.int)) A = some (.lst (ps.map V.int)) := upd_same
    have nAD : A ≠ D := Ne.symm (ne_of_none e5 hA)
    generalize upd H5 A (.lst (ps.map V.int)) = H6 at sA eA ⊢
    refine ⟨sA _ _ e5, small_l (by omega), hC _ _ ⟨(s5.trans sA).change hD, upd_same, ?_, fun y hy => ?_⟩⟩
    · rw [List.take_add_one, h1]
      refine ils_upd (Ils.snoc (ils_same sA I5) (s5.free hA) eA) fun y hy => ?_
      rcases List.mem_append.mp hy with z | z
      · exact n5 y z
      · have : y = .ref A := by simpa using z
        rw [this]; exact fun z => nAD (by injection z)
    · rcases List.mem_append.mp hy with z | z
      · exact n5 y z
      · have : y = .ref A := by simpa using z
        rw [this]; exact fun z => nAD (by injection z)
  rintro ws H5 ⟨s5, e5, I5, n5⟩
  rw [lts, List.take_length] at I5
  -- spoil
  have s25 := s24.trans s5
  have s05 := s02.trans s25
  have in2 : ∀ x ∈ ts, ∃ a xs, x = .ref a ∧ H1 a = none ∧ H2 a = some (.lst xs) ∧ xs.length ≤ 5 := fun x hx => by
    obtain ⟨i, hi, rfl⟩ := List.getElem_of_mem hx
    obtain ⟨ps, h1⟩ : ∃ ps, (ptL m ds ea eb)[i]? = some ps := ⟨_, List.getElem?_eq_getElem (by omega)⟩
    obtain ⟨a1, ea, hn, ha⟩ := I2.r _ _ _ (List.getElem?_eq_getElem hi) h1
    obtain ⟨fo, hfo, rfl⟩ := pt_at h1
    have fr := (frs_ok (sg := sgF ds) (pt_mem (List.mem_of_getElem? hfo)).1).l
    exact ⟨a1, _, ea, hn, ha, by rw [List.length_map, zi_len]; omega⟩
  refine ⟨_, rfl, lf, rfl, ⟨_, SqL.of (s25 _ _ e2)⟩, ?_⟩
  refine for_list (xs := ts) (fun i σ H' => (∀ b o, H5 b = some o → (∀ x ∈ ts, x ≠ .ref b) → H' b = some o) ∧ (∀ x ∈ ts, ∃ a xs, x = .ref a ∧ H' a = some (.lst xs) ∧ xs.length ≤ 5 + i) ∧ ∃ z5 z9, σ = [some (.ref n), some (.ref r), some (.int (m : Int)), some (.ref ed), some (.int (ea : Int)), some (.int (eb : Int)), some (.ref pc), some (.ref lf), z5, z9, some (.ref D)]) ⟨fun b o h _ => h, fun x hx => let ⟨a, xs, e, _, h, l⟩ := in2 x hx; ⟨a, xs, e, s25 _ _ h, l⟩, z5, z9, rfl⟩ (fun i σ H' _ h => SqL.of (h.1 _ _ (s25 _ _ e2) nts)) ?_ ?_
  · rintro i x σ H6 hx ⟨k6, l6, z, z', rfl⟩
    have hi : i < ts.length := (List.getElem?_eq_some_iff.mp hx).1
    have hxm := List.mem_of_getElem? hx
    obtain ⟨a1, xs, rfl, ha, la⟩ := l6 x hxm
    refine ⟨_, rfl, .inl ⟨rfl, _, SqL.of ha⟩, a1, xs, _, rfl, rfl, ha, small_l (by omega), ?_⟩
    refine ⟨fun b o h1 h2 => by rw [upd_ne (fun z => h2 _ hxm (by rw [z]))]; exact k6 b o h1 h2, fun y hy => ?_, _, _, rfl⟩
    obtain ⟨a2, ys, rfl, ha2, la2⟩ := l6 y hy
    by_cases h : a2 = a1
    · subst h
      exact ⟨a2, _, rfl, upd_same, by rw [List.length_append]; simp only [List.length_cons, List.length_nil]; omega⟩
    · exact ⟨a2, ys, rfl, by rw [upd_ne h]; exact ha2, by omega⟩
  rintro σ H6 ⟨k6, _, z6, z6', rfl⟩
  have elf := k6 _ _ (s25 _ _ e2) nts
  have s06 : Same H H6 := fun b o h => k6 b o (s05 _ _ h) fun x hx z => by
    obtain ⟨a, xs, e, hn, _, _⟩ := in2 x hx
    rw [e] at z
    have : a = b := by injection z
    rw [this, s1 _ _ h] at hn
    cases hn
  refine ⟨_, rfl, .inl ⟨rfl, _, SqL.of elf⟩, by show 1 ≤ sizeLine; decide, fun A hA => ?_⟩
  have sA := same_new hA (.lst [.int 1])
  have elf2 := sA _ _ elf
  have s06' := s06.trans sA
  have k6' : ∀ b o, H5 b = some o → (∀ x ∈ ts, x ≠ .ref b) → upd H6 A (.lst [.int 1]) b = some o := fun b o h1 h2 => sA _ _ (k6 b o h1 h2)
  generalize upd H6 A (.lst [.int 1]) = H7 at sA elf2 s06' k6' ⊢
  refine ⟨lf, ts, _, rfl, rfl, elf2, small_l (by omega), ?_⟩
  have s08 : Same H (upd H7 lf (.lst (ts ++ [.ref A]))) := s06'.change (s1.free nlf)
  have keep : ∀ b o, H5 b = some o → H4 b = none → upd H7 lf (.lst (ts ++ [.ref A])) b = some o := fun b o h1 h2 => by
    rw [upd_ne (fun z => by rw [z, s24 _ _ e2] at h2; cases h2)]
    refine k6' b o h1 fun x hx z => ?_
    obtain ⟨a, xs, e, _, hh, _⟩ := in2 x hx
    rw [e] at z
    have : a = b := by injection z
    rw [← this, s24 _ _ hh] at h2
    cases h2
  generalize upd H7 lf (.lst (ts ++ [.ref A])) = H8 at s08 keep ⊢
  refine ⟨_, rfl, _, rfl, _, rfl, n, l, m, eb, ea, ds, rfl, NP.same s08, hm5, leb, lea, nh, p12, fun lg gs H9 s9 nlg e9 I9 ngs => ⟨_, rfl, ?_⟩⟩
  rw [ptL_comm] at I9
  have dD : ∀ Hx, Same H8 Hx → DatV K Hx (.ref D) (.list ((ptL m ds ea eb).map ild)) := fun Hx sx => .lst (SqL.of (sx _ _ (keep _ _ e5 hD))) (ils_dat I5.l fun i x ps h1 h2 => let ⟨a, e, nn, r⟩ := I5.r i x ps h1 h2; ⟨a, e, sx _ _ (keep _ _ r nn)⟩)
  refine rd_eqS (d := .list ((ptL m ds ea eb).map ild)) (.lst (SqL.of e9) (ils_dat I9.l fun i x ps h1 h2 => let ⟨a, e, _, r⟩ := I9.r i x ps h1 h2; ⟨a, e, r⟩)) (dD _ s9) (ild_lay _) (by have := ild_depth (ptL m ds ea eb); simp only [PyData.depth]; omega) ?_
  refine ⟨_, rfl, iteT ?_⟩
  refine ⟨_, rfl, _, rfl, _, rfl, n, l, m, ea, eb, ds, rfl, NP.same (s08.trans s9), hm5, lea, leb, nh, p12, fun lh hs HA sA nlh eA IA nhs => ⟨_, rfl, ?_⟩⟩
  refine rd_eqS (d := .list ((ptL m ds ea eb).map ild)) (.lst (SqL.of eA) (ils_dat IA.l fun i x ps h1 h2 => let ⟨a, e, _, r⟩ := IA.r i x ps h1 h2; ⟨a, e, r⟩)) (dD _ (s9.trans sA)) (ild_lay _) (by have := ild_depth (ptL m ds ea eb); simp only [PyData.depth]; omega) ?_
  exact q HA (s08.trans (s9.trans sA))
end
end K64

set_option Elab.async false
set_option linter.all false
set_option maxRecDepth 100000
set_option maxHeartbeats 4000000
namespace K64
open PySem L2 Shp
section
variable {P : Program} {w : World} {K : PySem.W.Frag} {mg : Str → Option Value} {base : Heap} {f g1 g2 g3 g4 g5 g6 g7 g8 : Addr} {fd gd1 gd2 gd3 gd4 gd5 gd6 gd7 gd8 : FuncData} {CX : CXT}
variable {CR : Addr} {CK : Kd → Addr} {fW fJ fT fS : Kd → Addr} {fdW fdJ fdT fdS : Kd → FuncData}
def spLaw (K : PySem.W.Frag) : Sp := fun vs H Q _ => ∃ (a : Addr) (ns : List Int), vs = [.ref a] ∧ SqL K H a (ns.map V.int) ∧ ns.length ≤ 63 ∧ ∀ H', Q (.bl true) H'
abbrev sLaw : Stmt := top 51
theorem scLaw : FnScope ["_law_script", "_law_many", "_law_most", "_law_rows_here", "_law_net_here", "_law_ends", "_law_cell"] ["_law_script"] (defScope sLaw) := ⟨rfl, rfl, rfl, by decide +kernel, rfl, by decide +kernel, by decide +kernel⟩
theorem ok_law {dV : Value} (F : FunD K "law" "law" sLaw dV f fd)
    {CN : Addr} (NTx : NT K mg CN) (mx : mg "max" = none) (mm : mg "min" = none)
    {gAd : Addr} {gdAd : FuncData} (GAd : FnOk P w K mg base CX0 5 gAd gdAd ["self", "row"] (spAdd CN K CK)) (bAd : Binds K gdAd ["self", "row"] []) (mAd : Meth K CN "add" gAd)
    (G1 : FnOk P w K mg base CX0 1 g1 gd1 ["_law_script", "_law_k"] (spDraw K)) (b1 : Binds K gd1 ["_law_script", "_law_k"] []) (k1 : PySem.W.keepIn K (.ref g1) = true) (m1 : mg "_law_draw" = some (.ref g1))
    (G2 : FnOk P w K mg base CX0 2 g2 gd2 ["_law_script", "_law_many", "_law_most"] (spRowsL K)) (b2 : Binds K gd2 ["_law_script", "_law_many", "_law_most"] []) (k2 : PySem.W.keepIn K (.ref g2) = true) (m2 : mg "_law_rows" = some (.ref g2))
    (G3 : FnOk P w K mg base CX0 6 g3 gd3 ["_law_many", "_law_rows_here"] (spNet63 CN K)) (b3 : Binds K gd3 ["_law_many", "_law_rows_here"] []) (k3 : PySem.W.keepIn K (.ref g3) = true) (m3 : mg "_law_net" = some (.ref g3))
    (G4 : FnOk P w K mg base CX0 9 g4 gd4 ["_law_net_here", "_law_rows_here", "_law_many", "_law_ends"] (spListed CN K)) (b4 : Binds K gd4 ["_law_net_here", "_law_rows_here", "_law_many", "_law_ends"] []) (k4 : PySem.W.keepIn K (.ref g4) = true) (m4 : mg "_law_listed" = some (.ref g4))
    (G5 : FnOk P w K mg base CX0 1 g5 gd5 ["_law_cell", "_law_turn", "_law_many"] spMix) (b5 : Binds K gd5 ["_law_cell", "_law_turn", "_law_many"] []) (k5 : PySem.W.keepIn K (.ref g5) = true) (m5 : mg "_law_mix" = some (.ref g5))
    (G6 : FnOk P w K mg base CX0 3 g6 gd6 ["told"] (spRowOfG K CK)) (b6 : Binds K gd6 ["told"] []) (k6 : PySem.W.keepIn K (.ref g6) = true) (m6 : mg "row_of" = some (.ref g6)) :
    FnOk P w K mg base CX 10 f fd ["_law_script"] (spLaw K) := by
  refine F.ok scLaw (fun vs H Q E h => ?_) (fun cdv A outer s H vs Q E hr h => ?_)
  · obtain ⟨a, ns, rfl, hS, h63, q⟩ := h
    rfl
  obtain ⟨a, ns, rfl, hS, h63, q⟩ := h
  have r1 := hr.mono (show 1 ≤ 9 by omega)
  have r2 := hr.mono (show 2 ≤ 9 by omega)
  have r3 := hr.mono (show 3 ≤ 9 by omega)
  have r5 := hr.mono (show 5 ≤ 9 by omega)
  have r6 := hr.mono (show 6 ≤ 9 by omega)
  refine ⟨_, (pss_cons (ps_set (i := 1) scLaw.nd rfl (Or.inl rfl) (pe_op op_add pe_int (pe_op op_mod (pe_call G1 r1 rfl m1 k1 b1 .nil pass0 (pa_cons (pv 0) (pa_cons pe_int pa_nil))) pe_int)))
    (pss_cons (ps_set (i := 2) scLaw.nd rfl (Or.inl rfl) pe_int)
    (pss_cons (ps_if (pt_cmpR op_eq (pe_op op_fdiv (pe_op op_mod (pe_call G1 r1 rfl m1 k1 b1 .nil pass0 (pa_cons (pv 0) (pa_cons pe_int pa_nil))) pe_int) pe_int) pe_int (nomark _)) (pss_cons (ps_set (i := 1) scLaw.nd rfl (Or.inl rfl) (pe_callB (call_min2 rfl) rfl mm PyProof.Rows.boot_min (pa_cons (pe_callB (call_max2 rfl) rfl mx PyProof.Rows.boot_max (pa_cons (pv 1) (pa_cons pe_int pa_nil))) (pa_cons pe_int pa_nil))))
    (pss_one (ps_set (i := 2) scLaw.nd rfl (Or.inl rfl) pe_int))) pss_nil)
    (pss_cons (ps_set (i := 3) scLaw.nd rfl (Or.inl rfl) (pe_call G2 r2 rfl m2 k2 b2 .nil pass0 (pa_cons (pv 0) (pa_cons (pv 1) (pa_cons (pv 2) pa_nil)))))
    (pss_cons (ps_set (i := 4) scLaw.nd rfl (Or.inl rfl) (pe_call G3 r6 rfl m3 k3 b3 .nil pass0 (pa_cons (pv 1) (pa_cons (pv 3) pa_nil))))
    (pss_cons (ps_set (i := 5) scLaw.nd rfl (Or.inl rfl) (pe_tup (pa_cons (pe_call G5 r1 rfl m5 k5 b5 .nil pass0 (pa_cons (pe_call G1 r1 rfl m1 k1 b1 .nil pass0 (pa_cons (pv 0) (pa_cons pe_int pa_nil))) (pa_cons pe_int (pa_cons (pv 1) pa_nil)))) (pa_cons (pe_call G5 r1 rfl m5 k5 b5 .nil pass0 (pa_cons (pe_call G1 r1 rfl m1 k1 b1 .nil pass0 (pa_cons (pv 0) (pa_cons pe_int pa_nil))) (pa_cons pe_int (pa_cons (pv 1) pa_nil)))) pa_nil))))
    (pss_cons (ps_if (pt_not (pt_val (pe_call G4 hr rfl m4 k4 b4 .nil pass0 (pa_cons (pv 4) (pa_cons (pv 3) (pa_cons (pv 1) (pa_cons (pv 5) pa_nil))))))) (pss_one (ps_ret pe_bl)) pss_nil)
    (pss_cons (ps_set (i := 6) scLaw.nd rfl (Or.inl rfl) (pe_call G1 r1 rfl m1 k1 b1 .nil pass0 (pa_cons (pv 0) (pa_cons pe_int pa_nil))))
    (pss_cons (ps_expr (pe_bm PySem.F.plainAttrs_list PySem.F.slot_list_append PySem.F.type_list_append mt_append (pv 3) (pa_cons (pe_tup (pa_cons pe_str (pa_cons (pe_call G5 r1 rfl m5 k5 b5 .nil pass0 (pa_cons (pv 6) (pa_cons pe_int (pa_cons (pv 1) pa_nil)))) (pa_cons (pe_call G5 r1 rfl m5 k5 b5 .nil pass0 (pa_cons (pv 6) (pa_cons pe_int (pa_cons (pv 1) pa_nil)))) (pa_cons (pe_tup (pa_cons pe_int (pa_cons pe_int pa_nil))) pa_nil))))) pa_nil)))
    (pss_cons (ps_expr (pe_meth (pv 4) NTx.cl mAd GAd r5 bAd .nil pass0 (pa_cons (pe_call G6 r3 rfl m6 k6 b6 .nil pass0 (pa_cons (pe_ix ix_list (pv 3) (pe_un un_neg pe_int) (fun _ _ => rfl)) pa_nil)) pa_nil)))
    (pss_one (ps_ret (pe_call G4 hr rfl m4 k4 b4 .nil pass0 (pa_cons (pv 4) (pa_cons (pv 3) (pa_cons (pv 1) (pa_cons (pv 5) pa_nil))))))))))))))))), ?_⟩
  refine ⟨_, rfl, a, ns, 0, 0, rfl, rfl, hS, h63, fun v H1 s1 => ⟨_, _, rfl, rfl, (show (0 : Int) < 5 by decide), _, _, rfl, rfl, ?_⟩⟩
  obtain ⟨m0, em0, l1, l5⟩ : ∃ m0 : Nat, 1 + v % 5 = (m0 : Int) ∧ 1 ≤ m0 ∧ m0 ≤ 5 := ⟨(1 + v % 5).toNat, by omega, by omega, by omega⟩
  show gName 1 (.int (1 + v % 5)) _ _ _
  rw [em0]
  refine ⟨_, rfl, a, ns, 0, 0, rfl, rfl, s1.seq hS, h63, fun v' H2 s2 => ⟨_, _, rfl, rfl, (show (0 : Int) < 80 by decide), ?_⟩⟩
  have s02 := s1.trans s2
  refine ⟨_, _, rfl, rfl, ⟨by decide, by decide⟩, rfl, _, rfl, ?_⟩
  refine (fun (hrest : ∀ (z1 z2 : Option V) (m w : Nat), z1 = some (.int (m : Int)) → z2 = some (.int (w : Int)) → 1 ≤ m → m ≤ 5 → w ≤ 11 → PySem.W.KIN.Hid ((?T : Option V → Option V → Prop) z1 z2)) => ?main) ?rest
  case main =>
    refine ite2 (fun _ => ?_) (fun _ => ?_)
    · refine ⟨_, rfl, _, _, rfl, _, _, rfl, ?_⟩
      obtain ⟨m1', em1, k1', k5'⟩ : ∃ m1' : Nat, (if (4 : Int) < (if (2 : Int) > (m0 : Int) then (2 : Int) else (m0 : Int)) then (4 : Int) else (if (2 : Int) > (m0 : Int) then (2 : Int) else (m0 : Int))) = (m1' : Int) ∧ 1 ≤ m1' ∧ m1' ≤ 5 := by
        refine ⟨(if (4 : Int) < (if (2 : Int) > (m0 : Int) then (2 : Int) else (m0 : Int)) then (4 : Int) else (if (2 : Int) > (m0 : Int) then (2 : Int) else (m0 : Int))).toNat, ?_, ?_, ?_⟩ <;> split <;> split <;> omega
      show gName 1 (.int (if (4 : Int) < (if (2 : Int) > (m0 : Int) then (2 : Int) else (m0 : Int)) then (4 : Int) else (if (2 : Int) > (m0 : Int) then (2 : Int) else (m0 : Int)))) _ _ _
      rw [em1]
      dsimp only [gName]
      show tAsg _ _ _ [some (.ref a), some (.int (m1' : Int)), some (.int 8), none, none, none, none] H2
      dsimp only [tAsg, tC, gName]
      show tSeq _ _ _ [some (.ref a), some (.int (m1' : Int)), some (.int ((11 : Nat) : Int)), none, none, none, none] H2
      generalize h7 : (some (.int (m1' : Int)) : Option V) = z7
      generalize h8 : (some (.int ((11 : Nat) : Int)) : Option V) = z8
      exact (hrest z7 z8 m1' 11 h7.symm h8.symm k1' k5' (by omega)).out
    · show tSeq _ _ _ [some (.ref a), some (.int (m0 : Int)), some (.int ((8 : Nat) : Int)), none, none, none, none] H2
      generalize h7 : (some (.int (m0 : Int)) : Option V) = z7
      generalize h8 : (some (.int ((8 : Nat) : Int)) : Option V) = z8
      exact (hrest z7 z8 m0 8 h7.symm h8.symm l1 l5 (by omega)).out
  case rest =>
  intro z1 z2 m w h7 h8 hm1 hm5 hw
  subst h7 h8
  refine ⟨?_⟩
  refine ⟨_, rfl, _, rfl, _, rfl, a, ns, m, w, rfl, s02.seq hS, h63, hm1, by omega, fun r us ds H3 s3 nr er hR hK nh hl => ?_⟩
  refine ⟨_, rfl, _, rfl, (m : Int), r, us, ds, rfl, by omega, by omega, SqL.of er, hR, hK, by omega, fun n l H4 s4 nl NT4 => ?_⟩
  have pt : ∀ d ∈ ds, PtOk (m : Int) d.2.1 d.2.2.1 := fun d hd => ⟨(hK d hd).1, (hK d hd).2.1, (hK d hd).2.2.1, (hK d hd).2.2.2.1⟩
  have NP4 : NtP CN K H4 n l m ds := ⟨NT4, pt, hm1, by omega, by omega⟩
  have s04 := s02.trans (s3.trans s4)
  refine ⟨_, rfl, a, ns, 2, 2, rfl, rfl, s04.seq hS, h63, fun c1 HX1 sX1 => ?_⟩
  refine ⟨_, rfl, c1, 1, m, rfl, by decide, by decide, by omega, fun x1 HX2 x10 x11 sX2 => ?_⟩
  refine ⟨_, rfl, a, ns, 3, 3, rfl, rfl, (s04.trans (sX1.trans sX2)).seq hS, h63, fun c2 HX3 sX3 => ?_⟩
  refine ⟨_, rfl, c2, 2, m, rfl, by decide, by decide, by omega, fun x2 HX4 x20 x21 sX4 => ?_⟩
  obtain ⟨ea, rfl⟩ : ∃ ea : Nat, x1 = (ea : Int) := ⟨x1.toNat, by omega⟩
  obtain ⟨eb, rfl⟩ : ∃ eb : Nat, x2 = (eb : Int) := ⟨x2.toNat, by omega⟩
  refine ⟨by show 2 ≤ sizeLine; decide, fun ed hed => ?_⟩
  have sX5 := same_new hed (.tup [.int (ea : Int), .int (eb : Int)])
  have hE : SqT K (upd HX4 ed (.tup [.int (ea : Int), .int (eb : Int)])) ed [.int (ea : Int), .int (eb : Int)] := SqT.of upd_same
  generalize upd HX4 ed (.tup [.int (ea : Int), .int (eb : Int)]) = H4x at sX5 hE ⊢
  have sX := sX1.trans (sX2.trans (sX3.trans (sX4.trans sX5)))
  replace s4 := s4.trans sX
  replace NP4 := NP4.same sX
  replace NT4 := NT4.same sX
  refine ⟨_, rfl, _, rfl, _, rfl, _, rfl, n, l, r, us, ed, m, ea, eb, ds, rfl, hE, by omega, by omega, NP4, hm5, nh, by omega, SqL.of (s4 _ _ er), hR.same s4, hK, fun H5 s5 => ⟨_, rfl, iteF ?_⟩⟩
  have s35 := s4.trans s5
  have s05 := s02.trans (s3.trans s35)
  have er5 := s35 _ _ er
  refine ⟨_, rfl, a, ns, 3, 3, rfl, rfl, s05.seq hS, h63, fun c H6 s6 => ?_⟩
  have er6 := s6 _ _ er5
  refine ⟨_, rfl, .inl ⟨rfl, _, SqL.of er6⟩, _, rfl, _, rfl, c, 1, m, rfl, by decide, by decide, by omega, fun i H7 i0 i1 s7 => ?_⟩
  refine ⟨_, rfl, _, rfl, c, 4, m, rfl, by decide, by decide, by omega, fun j H8 j0 j1 s8 => ?_⟩
  refine ⟨by show 2 ≤ sizeLine; decide, fun zz hzz => ?_⟩
  have s9 := same_new hzz (.tup [.int 5, .int 4])
  have ez : Fq K (upd H8 zz (.tup [.int 5, .int 4])) zz (5, 4) := Fq.of upd_same
  generalize upd H8 zz (.tup [.int 5, .int 4]) = H9 at s9 ez ⊢
  refine ⟨by show 4 ≤ sizeLine; decide, fun t ht => ?_⟩
  have s10 := same_new ht (.tup [.str "piece", .int i, .int j, .ref zz])
  have et : SqT K (upd H9 t (.tup [.str "piece", .int i, .int j, .ref zz])) t [.str Kd.pc.wd, .int i, .int j, .ref zz] := SqT.of upd_same
  generalize upd H9 t (.tup [.str "piece", .int i, .int j, .ref zz]) = H10 at s10 et ⊢
  have s6A := s7.trans (s8.trans (s9.trans s10))
  have s5A := s6.trans s6A
  have lus := hR.length
  have erA := s6A _ _ er6
  refine ⟨r, us, .ref t, rfl, rfl, erA, small1000 (by omega), ?_⟩
  have hRA : Rts K H10 (us ++ [.ref t]) (ds ++ [(Kd.pc, i, j, ((5, 4) : Mq.Q2))]) := ((hR.same (s35.trans s5A)).app (.cons et (s10.fq ez) .nil))
  have nlr : l ≠ r := fun z => by rw [z, er] at nl; cases nl
  have NTA : NetAt CN K H10 n l (m : Int) ds := NT4.same (s5.trans s5A)
  have NTB : NetAt CN K (upd H10 r (.lst (us ++ [.ref t]))) n l (m : Int) ds := NTA.x erA (SameX.write (fun b o h _ => h)) nlr
  have etB : SqT K (upd H10 r (.lst (us ++ [.ref t]))) t [.str Kd.pc.wd, .int i, .int j, .ref zz] := (SameX.write (fun b o h _ => h)).seqT erA et
  have ezB : Fq K (upd H10 r (.lst (us ++ [.ref t]))) zz (5, 4) := (SameX.write (fun b o h _ => h)).seqT erA (s10.fq ez)
  have hEB0 : SqT K (upd H10 r (.lst (us ++ [.ref t]))) ed [.int (ea : Int), .int (eb : Int)] := (SameX.write (fun b o h _ => h)).seqT erA ((s5.trans s5A).seqT hE)
  have hRB := Rts.upd (o := .lst (us ++ [.ref t])) erA hRA
  have erB : upd H10 r (.lst (us ++ [.ref t])) r = some (.lst (us ++ [.ref t])) := upd_same
  generalize upd H10 r (.lst (us ++ [.ref t])) = HB at NTB etB ezB hRB erB hEB0 ⊢
  have rdn : RdOk (m : Int) (Kd.pc, i, j, ((5, 4) : Mq.Q2)) := ⟨i0, i1, j0, j1, (show Mq.Low (5, 4) from ⟨by decide, by decide⟩), (fun _ => show (0 : Int) < 5 by decide), (show Mq.Bd 100 (5, 4) from ⟨B_of (by decide) (by decide), B_of (by decide) (by decide)⟩)⟩
  obtain ⟨dn, hnB⟩ := NTB.ob
  refine ⟨_, rfl, n, dn, _, rfl, hnB, nflds_no _ _ (by decide +kernel) (by decide +kernel), _, rfl, _, rfl, r, _, _, _, rfl, rfl, SqL.of erB, atI_last _ _, t, _, _, _, _, rfl, etB, .pc, rfl, fun y HC sC ny rw => ?_⟩
  refine ⟨n, l, y, zz, m, ds, .pc, i, j, (5, 4), rfl, NTB.same sC, rw, sC.fq ezB, rdn, by omega, fun HD xD ND => ?_⟩
  have hKD : ∀ d ∈ ds ++ [(Kd.pc, i, j, ((5, 4) : Mq.Q2))], RdOk (m : Int) d := fun d hd => by
    rcases List.mem_append.mp hd with z | z
    · exact hK d z
    · have : d = (Kd.pc, i, j, (5, 4)) := by simpa using z
      rw [this]; exact rdn
  have nhD : NoHo (ds ++ [(Kd.pc, i, j, ((5, 4) : Mq.Q2))]) := fun d hd => by
    rcases List.mem_append.mp hd with z | z
    · exact nh d z
    · have : d = (Kd.pc, i, j, (5, 4)) := by simpa using z
      rw [this]; show Kd.pc ≠ Kd.ho; decide
  have lD : (ds ++ [(Kd.pc, i, j, ((5, 4) : Mq.Q2))]).length = ds.length + 1 := by rw [List.length_append]; rfl
  obtain ⟨tsC, hlC, _⟩ := (NTB.same sC).ls
  have NPD : NtP CN K HD n l m (ds ++ [(Kd.pc, i, j, ((5, 4) : Mq.Q2))]) := ⟨ND, fun d hd => ⟨(hKD d hd).1, (hKD d hd).2.1, (hKD d hd).2.2.1, (hKD d hd).2.2.2.1⟩, hm1, by omega, by omega⟩
  have hEB : SqT K HB ed [.int (ea : Int), .int (eb : Int)] := hEB0
  exact ⟨_, rfl, _, rfl, _, rfl, _, rfl, n, l, r, _, ed, m, ea, eb, _, rfl, xD.seqT hlC (sC.seqT hEB), by omega, by omega, NPD, hm5, nhD, by omega, SqL.of (xD _ _ (sC _ _ erB) (Ne.symm nlr)), xD.rts hlC (hRB.same sC), hKD, fun HE _ => q HE⟩
end
end K64

set_option Elab.async false
set_option linter.all false
namespace L2
open PySem PySem.W
theorem walkX_of {q : Program} {loose : List Str} {XP : (Str → Option Value) → Heap → Prop} {K : Params → PySem.W.Frag} {bs : List Addr} {n t : Nat} {r : RowW} {d : DefRec} {kwd : List (Str × Expr)} {run : Value → List Value → Sem Value}
    (e : ∀ P, bs = (K P).map (·.1)) (h : WalkO q loose XP (fun w h => (K w.params).In h) r d kwd run) : WalkX q loose XP (PySem.W.X.obsZ bs) (PySem.W.X.valZ K n t) r d kwd run :=
  fun w s₀ s₁ mg mb G y a o pm cd doc dV kV h1 h2 h3 h4 h5 h6 args vals as' L => h w s₀ s₁ mg mb G (InK.keeps w _ _ (PySem.W.X.z_facts e y).2.1 L.keeps) a o pm cd doc dV kV h1 h2 h3 h4 h5 h6 args vals as'
end L2

set_option Elab.async false
set_option linter.all false
set_option maxRecDepth 100000
set_option maxHeartbeats 4000000
namespace K64
open PySem L2
theorem all_mk {l : PySem.W.OpenLaw} {w : World} {K : PySem.W.Frag} {h : Heap} {mg : Str → Option Value} {fa : Addr} (X : K.In h) (G : h.Ns mainGlobals mg) (hfa : mg "law" = some (.ref fa))
    {c_Row : Addr}
    {c_Piece : Addr}
    {c_Push : Addr}
    {c_Hold : Addr}
    {c_Net : Addr}
    {f1 : Addr} {od1 an1 : Option Addr} {sl1 : Array (Option Value)} {oc1 kV1 dc1 pm1 cd1 ct1 : Value}
    {f2 : Addr} {od2 an2 : Option Addr} {sl2 : Array (Option Value)} {oc2 kV2 dc2 pm2 cd2 ct2 : Value}
    {f3 : Addr} {od3 an3 : Option Addr} {sl3 : Array (Option Value)} {oc3 kV3 dc3 pm3 cd3 ct3 : Value}
    {f4 : Addr} {od4 an4 : Option Addr} {sl4 : Array (Option Value)} {oc4 kV4 dc4 pm4 cd4 ct4 : Value}
    {f5 : Addr} {od5 an5 : Option Addr} {sl5 : Array (Option Value)} {oc5 kV5 dc5 pm5 cd5 ct5 : Value}
    {f6 : Addr} {od6 an6 : Option Addr} {sl6 : Array (Option Value)} {oc6 kV6 dc6 pm6 cd6 ct6 : Value}
    {f7 : Addr} {od7 an7 : Option Addr} {sl7 : Array (Option Value)} {oc7 kV7 dc7 pm7 cd7 ct7 : Value}
    {f8 : Addr} {od8 an8 : Option Addr} {sl8 : Array (Option Value)} {oc8 kV8 dc8 pm8 cd8 ct8 : Value}
    {f9 : Addr} {od9 an9 : Option Addr} {sl9 : Array (Option Value)} {oc9 kV9 dc9 pm9 cd9 ct9 : Value}
    {f10 : Addr} {od10 an10 : Option Addr} {sl10 : Array (Option Value)} {oc10 kV10 dc10 pm10 cd10 ct10 : Value}
    {f11 : Addr} {od11 an11 : Option Addr} {sl11 : Array (Option Value)} {oc11 kV11 dc11 pm11 cd11 ct11 : Value}
    {f12 : Addr} {od12 an12 : Option Addr} {sl12 : Array (Option Value)} {oc12 kV12 dc12 pm12 cd12 ct12 : Value}
    {f13 : Addr} {od13 an13 : Option Addr} {sl13 : Array (Option Value)} {oc13 kV13 dc13 pm13 cd13 ct13 : Value}
    {f14 : Addr} {od14 an14 : Option Addr} {sl14 : Array (Option Value)} {oc14 kV14 dc14 pm14 cd14 ct14 : Value}
    {f15 : Addr} {od15 an15 : Option Addr} {sl15 : Array (Option Value)} {oc15 kV15 dc15 pm15 cd15 ct15 : Value}
    {f16 : Addr} {od16 an16 : Option Addr} {sl16 : Array (Option Value)} {oc16 kV16 dc16 pm16 cd16 ct16 : Value}
    {f17 : Addr} {od17 an17 : Option Addr} {sl17 : Array (Option Value)} {oc17 kV17 dc17 pm17 cd17 ct17 : Value}
    {f18 : Addr} {od18 an18 : Option Addr} {sl18 : Array (Option Value)} {oc18 kV18 dc18 pm18 cd18 ct18 : Value}
    {f19 : Addr} {od19 an19 : Option Addr} {sl19 : Array (Option Value)} {oc19 kV19 dc19 pm19 cd19 ct19 : Value}
    {f20 : Addr} {od20 an20 : Option Addr} {sl20 : Array (Option Value)} {oc20 kV20 dc20 pm20 cd20 ct20 : Value}
    {f21 : Addr} {od21 an21 : Option Addr} {sl21 : Array (Option Value)} {oc21 kV21 dc21 pm21 cd21 ct21 : Value}
    {f22 : Addr} {od22 an22 : Option Addr} {sl22 : Array (Option Value)} {oc22 kV22 dc22 pm22 cd22 ct22 : Value}
    {f23 : Addr} {od23 an23 : Option Addr} {sl23 : Array (Option Value)} {oc23 kV23 dc23 pm23 cd23 ct23 : Value}
    {f24 : Addr} {od24 an24 : Option Addr} {sl24 : Array (Option Value)} {oc24 kV24 dc24 pm24 cd24 ct24 : Value}
    {f25 : Addr} {od25 an25 : Option Addr} {sl25 : Array (Option Value)} {oc25 kV25 dc25 pm25 cd25 ct25 : Value}
    {f26 : Addr} {od26 an26 : Option Addr} {sl26 : Array (Option Value)} {oc26 kV26 dc26 pm26 cd26 ct26 : Value}
    {f27 : Addr} {od27 an27 : Option Addr} {sl27 : Array (Option Value)} {oc27 kV27 dc27 pm27 cd27 ct27 : Value}
    {f28 : Addr} {od28 an28 : Option Addr} {sl28 : Array (Option Value)} {oc28 kV28 dc28 pm28 cd28 ct28 : Value}
    {f29 : Addr} {od29 an29 : Option Addr} {sl29 : Array (Option Value)} {oc29 kV29 dc29 pm29 cd29 ct29 : Value}
    {f30 : Addr} {od30 an30 : Option Addr} {sl30 : Array (Option Value)} {oc30 kV30 dc30 pm30 cd30 ct30 : Value}
    {f31 : Addr} {od31 an31 : Option Addr} {sl31 : Array (Option Value)} {oc31 kV31 dc31 pm31 cd31 ct31 : Value}
    {f32 : Addr} {od32 an32 : Option Addr} {sl32 : Array (Option Value)} {oc32 kV32 dc32 pm32 cd32 ct32 : Value}
    {f33 : Addr} {od33 an33 : Option Addr} {sl33 : Array (Option Value)} {oc33 kV33 dc33 pm33 cd33 ct33 : Value}
    {f34 : Addr} {od34 an34 : Option Addr} {sl34 : Array (Option Value)} {oc34 kV34 dc34 pm34 cd34 ct34 : Value}
    {f35 : Addr} {od35 an35 : Option Addr} {sl35 : Array (Option Value)} {oc35 kV35 dc35 pm35 cd35 ct35 : Value}
    {f36 : Addr} {od36 an36 : Option Addr} {sl36 : Array (Option Value)} {oc36 kV36 dc36 pm36 cd36 ct36 : Value}
    {f37 : Addr} {od37 an37 : Option Addr} {sl37 : Array (Option Value)} {oc37 kV37 dc37 pm37 cd37 ct37 : Value}
    {f38 : Addr} {od38 an38 : Option Addr} {sl38 : Array (Option Value)} {oc38 kV38 dc38 pm38 cd38 ct38 : Value}
    {aN : Addr} {dN : Option Addr} {nN : Nat} {sN : Array (Option Value)} {t0 t1 : Tok}
    {tM : Tok}
    {tR : Tok}
    {tP : Tok}
    (y_Row : PySem.W.nsIn K mainGlobals "Row" = some (some (.ref c_Row)))
    (y_Piece : PySem.W.nsIn K mainGlobals "Piece" = some (some (.ref c_Piece)))
    (y_Push : PySem.W.nsIn K mainGlobals "Push" = some (some (.ref c_Push)))
    (y_Hold : PySem.W.nsIn K mainGlobals "Hold" = some (some (.ref c_Hold)))
    (y_Net : PySem.W.nsIn K mainGlobals "Net" = some (some (.ref c_Net)))
    (a1 : PySem.W.nsIn K mainGlobals "is_whole" = some (some (.ref f1)))
    (l1 : K.lookup f1 = some ⟨oc1, od1, .func (PySem.W.fnOf "is_whole" "is_whole" (defArgs sWhole) (defBody sWhole) (defScope sWhole) .none kV1 dc1 pm1 an1 cd1 ct1), sl1⟩) (c1 : PySem.W.codeIn K cd1 "is_whole" = true) (k1 : PySem.W.keepIn K (.ref f1) = true)
    (a2 : PySem.W.nsIn K mainGlobals "greatest_common" = some (some (.ref f2)))
    (l2 : K.lookup f2 = some ⟨oc2, od2, .func (PySem.W.fnOf "greatest_common" "greatest_common" (defArgs sGc) (defBody sGc) (defScope sGc) .none kV2 dc2 pm2 an2 cd2 ct2), sl2⟩) (c2 : PySem.W.codeIn K cd2 "greatest_common" = true) (k2 : PySem.W.keepIn K (.ref f2) = true)
    (a3 : PySem.W.nsIn K mainGlobals "under" = some (some (.ref f3)))
    (l3 : K.lookup f3 = some ⟨oc3, od3, .func (PySem.W.fnOf "under" "under" (defArgs sUnder) (defBody sUnder) (defScope sUnder) .none kV3 dc3 pm3 an3 cd3 ct3), sl3⟩) (c3 : PySem.W.codeIn K cd3 "under" = true) (k3 : PySem.W.keepIn K (.ref f3) = true)
    (a4 : PySem.W.nsIn K mainGlobals "is_fraction" = some (some (.ref f4)))
    (l4 : K.lookup f4 = some ⟨oc4, od4, .func (PySem.W.fnOf "is_fraction" "is_fraction" (defArgs sIsF) (defBody sIsF) (defScope sIsF) .none kV4 dc4 pm4 an4 cd4 ct4), sl4⟩) (c4 : PySem.W.codeIn K cd4 "is_fraction" = true) (k4 : PySem.W.keepIn K (.ref f4) = true)
    (a5_0 : PySem.W.findIn K (.ref c_Piece) "__init__" = some (some (.ref f5)))
    (a5_1 : PySem.W.findIn K (.ref c_Push) "__init__" = some (some (.ref f5)))
    (a5_2 : PySem.W.findIn K (.ref c_Hold) "__init__" = some (some (.ref f5)))
    (i5 : PySem.W.isFn K (.ref f5) = true)
    (l5 : K.lookup f5 = some ⟨oc5, od5, .func (PySem.W.fnOf "__init__" "Row.__init__" (defArgs sRInit) (defBody sRInit) (defScope sRInit) .none kV5 dc5 pm5 an5 cd5 ct5), sl5⟩) (c5 : PySem.W.codeIn K cd5 "Row.__init__" = true) (k5 : PySem.W.keepIn K (.ref f5) = true)
    (a6_0 : PySem.W.findIn K (.ref c_Piece) "word" = some (some (.ref f6)))
    (i6 : PySem.W.isFn K (.ref f6) = true)
    (l6 : K.lookup f6 = some ⟨oc6, od6, .func (PySem.W.fnOf "word" "Piece.word" (defArgs sWord_pc) (defBody sWord_pc) (defScope sWord_pc) .none kV6 dc6 pm6 an6 cd6 ct6), sl6⟩) (c6 : PySem.W.codeIn K cd6 "Piece.word" = true) (k6 : PySem.W.keepIn K (.ref f6) = true)
    (a7_0 : PySem.W.findIn K (.ref c_Push) "word" = some (some (.ref f7)))
    (i7 : PySem.W.isFn K (.ref f7) = true)
    (l7 : K.lookup f7 = some ⟨oc7, od7, .func (PySem.W.fnOf "word" "Push.word" (defArgs sWord_pu) (defBody sWord_pu) (defScope sWord_pu) .none kV7 dc7 pm7 an7 cd7 ct7), sl7⟩) (c7 : PySem.W.codeIn K cd7 "Push.word" = true) (k7 : PySem.W.keepIn K (.ref f7) = true)
    (a8_0 : PySem.W.findIn K (.ref c_Hold) "word" = some (some (.ref f8)))
    (i8 : PySem.W.isFn K (.ref f8) = true)
    (l8 : K.lookup f8 = some ⟨oc8, od8, .func (PySem.W.fnOf "word" "Hold.word" (defArgs sWord_ho) (defBody sWord_ho) (defScope sWord_ho) .none kV8 dc8 pm8 an8 cd8 ct8), sl8⟩) (c8 : PySem.W.codeIn K cd8 "Hold.word" = true) (k8 : PySem.W.keepIn K (.ref f8) = true)
    (a9_0 : PySem.W.findIn K (.ref c_Piece) "told" = some (some (.ref f9)))
    (a9_1 : PySem.W.findIn K (.ref c_Push) "told" = some (some (.ref f9)))
    (a9_2 : PySem.W.findIn K (.ref c_Hold) "told" = some (some (.ref f9)))
    (i9 : PySem.W.isFn K (.ref f9) = true)
    (l9 : K.lookup f9 = some ⟨oc9, od9, .func (PySem.W.fnOf "told" "Row.told" (defArgs sRTold) (defBody sRTold) (defScope sRTold) .none kV9 dc9 pm9 an9 cd9 ct9), sl9⟩) (c9 : PySem.W.codeIn K cd9 "Row.told" = true) (k9 : PySem.W.keepIn K (.ref f9) = true)
    (a10 : PySem.W.nsIn K mainGlobals "row_of" = some (some (.ref f10)))
    (l10 : K.lookup f10 = some ⟨oc10, od10, .func (PySem.W.fnOf "row_of" "row_of" (defArgs sRowOf) (defBody sRowOf) (defScope sRowOf) .none kV10 dc10 pm10 an10 cd10 ct10), sl10⟩) (c10 : PySem.W.codeIn K cd10 "row_of" = true) (k10 : PySem.W.keepIn K (.ref f10) = true)
    (a11 : PySem.W.nsIn K mainGlobals "is_piece_size" = some (some (.ref f11)))
    (l11 : K.lookup f11 = some ⟨oc11, od11, .func (PySem.W.fnOf "is_piece_size" "is_piece_size" (defArgs sPS) (defBody sPS) (defScope sPS) .none kV11 dc11 pm11 an11 cd11 ct11), sl11⟩) (c11 : PySem.W.codeIn K cd11 "is_piece_size" = true) (k11 : PySem.W.keepIn K (.ref f11) = true)
    (a12 : PySem.W.nsIn K mainGlobals "is_number_below" = some (some (.ref f12)))
    (l12 : K.lookup f12 = some ⟨oc12, od12, .func (PySem.W.fnOf "is_number_below" "is_number_below" (defArgs sNB) (defBody sNB) (defScope sNB) .none kV12 dc12 pm12 an12 cd12 ct12), sl12⟩) (c12 : PySem.W.codeIn K cd12 "is_number_below" = true) (k12 : PySem.W.keepIn K (.ref f12) = true)
    (a13 : PySem.W.nsIn K mainGlobals "refuse_size" = some (some (.ref f13)))
    (l13 : K.lookup f13 = some ⟨oc13, od13, .func (PySem.W.fnOf "refuse_size" "refuse_size" (defArgs sRS) (defBody sRS) (defScope sRS) .none kV13 dc13 pm13 an13 cd13 ct13), sl13⟩) (c13 : PySem.W.codeIn K cd13 "refuse_size" = true) (k13 : PySem.W.keepIn K (.ref f13) = true)
    (a14 : PySem.W.nsIn K mainGlobals "refuse_points" = some (some (.ref f14)))
    (l14 : K.lookup f14 = some ⟨oc14, od14, .func (PySem.W.fnOf "refuse_points" "refuse_points" (defArgs sRP) (defBody sRP) (defScope sRP) .none kV14 dc14 pm14 an14 cd14 ct14), sl14⟩) (c14 : PySem.W.codeIn K cd14 "refuse_points" = true) (k14 : PySem.W.keepIn K (.ref f14) = true)
    (a15_0 : PySem.W.findIn K (.ref c_Net) "__init__" = some (some (.ref f15)))
    (i15 : PySem.W.isFn K (.ref f15) = true)
    (l15 : K.lookup f15 = some ⟨oc15, od15, .func (PySem.W.fnOf "__init__" "Net.__init__" (defArgs sNInit) (defBody sNInit) (defScope sNInit) .none kV15 dc15 pm15 an15 cd15 ct15), sl15⟩) (c15 : PySem.W.codeIn K cd15 "Net.__init__" = true) (k15 : PySem.W.keepIn K (.ref f15) = true)
    (a16_0 : PySem.W.findIn K (.ref c_Net) "many" = some (some (.ref f16)))
    (i16 : PySem.W.isFn K (.ref f16) = true)
    (l16 : K.lookup f16 = some ⟨oc16, od16, .func (PySem.W.fnOf "many" "Net.many" (defArgs sMany) (defBody sMany) (defScope sMany) .none kV16 dc16 pm16 an16 cd16 ct16), sl16⟩) (c16 : PySem.W.codeIn K cd16 "Net.many" = true) (k16 : PySem.W.keepIn K (.ref f16) = true)
    (a17_0 : PySem.W.findIn K (.ref c_Net) "add" = some (some (.ref f17)))
    (i17 : PySem.W.isFn K (.ref f17) = true)
    (l17 : K.lookup f17 = some ⟨oc17, od17, .func (PySem.W.fnOf "add" "Net.add" (defArgs sAdd) (defBody sAdd) (defScope sAdd) .none kV17 dc17 pm17 an17 cd17 ct17), sl17⟩) (c17 : PySem.W.codeIn K cd17 "Net.add" = true) (k17 : PySem.W.keepIn K (.ref f17) = true)
    (a18_0 : PySem.W.findIn K (.ref c_Net) "rows" = some (some (.ref f18)))
    (i18 : PySem.W.isFn K (.ref f18) = true)
    (l18 : K.lookup f18 = some ⟨oc18, od18, .func (PySem.W.fnOf "rows" "Net.rows" (defArgs sRows) (defBody sRows) (defScope sRows) .none kV18 dc18 pm18 an18 cd18 ct18), sl18⟩) (c18 : PySem.W.codeIn K cd18 "Net.rows" = true) (k18 : PySem.W.keepIn K (.ref f18) = true)
    (a19 : PySem.W.nsIn K mainGlobals "joined" = some (some (.ref f19)))
    (l19 : K.lookup f19 = some ⟨oc19, od19, .func (PySem.W.fnOf "joined" "joined" (defArgs sJoined) (defBody sJoined) (defScope sJoined) .none kV19 dc19 pm19 an19 cd19 ct19), sl19⟩) (c19 : PySem.W.codeIn K cd19 "joined" = true) (k19 : PySem.W.keepIn K (.ref f19) = true)
    (a20 : PySem.W.nsIn K mainGlobals "refuse_holds" = some (some (.ref f20)))
    (l20 : K.lookup f20 = some ⟨oc20, od20, .func (PySem.W.fnOf "refuse_holds" "refuse_holds" (defArgs sRHo) (defBody sRHo) (defScope sRHo) .none kV20 dc20 pm20 an20 cd20 ct20), sl20⟩) (c20 : PySem.W.codeIn K cd20 "refuse_holds" = true) (k20 : PySem.W.keepIn K (.ref f20) = true)
    (a21 : PySem.W.nsIn K mainGlobals "piece_numbers" = some (some (.ref f21)))
    (l21 : K.lookup f21 = some ⟨oc21, od21, .func (PySem.W.fnOf "piece_numbers" "piece_numbers" (defArgs sPNum) (defBody sPNum) (defScope sPNum) .none kV21 dc21 pm21 an21 cd21 ct21), sl21⟩) (c21 : PySem.W.codeIn K cd21 "piece_numbers" = true) (k21 : PySem.W.keepIn K (.ref f21) = true)
    (a22 : PySem.W.nsIn K mainGlobals "is_behind" = some (some (.ref f22)))
    (l22 : K.lookup f22 = some ⟨oc22, od22, .func (PySem.W.fnOf "is_behind" "is_behind" (defArgs sBeh) (defBody sBeh) (defScope sBeh) .none kV22 dc22 pm22 an22 cd22 ct22), sl22⟩) (c22 : PySem.W.codeIn K cd22 "is_behind" = true) (k22 : PySem.W.keepIn K (.ref f22) = true)
    (a23 : PySem.W.nsIn K mainGlobals "larger_forests" = some (some (.ref f23)))
    (l23 : K.lookup f23 = some ⟨oc23, od23, .func (PySem.W.fnOf "larger_forests" "larger_forests" (defArgs sLar) (defBody sLar) (defScope sLar) .none kV23 dc23 pm23 an23 cd23 ct23), sl23⟩) (c23 : PySem.W.codeIn K cd23 "larger_forests" = true) (k23 : PySem.W.keepIn K (.ref f23) = true)
    (a24 : PySem.W.nsIn K mainGlobals "forests" = some (some (.ref f24)))
    (l24 : K.lookup f24 = some ⟨oc24, od24, .func (PySem.W.fnOf "forests" "forests" (defArgs sFors) (defBody sFors) (defScope sFors) .none kV24 dc24 pm24 an24 cd24 ct24), sl24⟩) (c24 : PySem.W.codeIn K cd24 "forests" = true) (k24 : PySem.W.keepIn K (.ref f24) = true)
    (a25 : PySem.W.nsIn K mainGlobals "refuse_many_pieces" = some (some (.ref f25)))
    (l25 : K.lookup f25 = some ⟨oc25, od25, .func (PySem.W.fnOf "refuse_many_pieces" "refuse_many_pieces" (defArgs sRMP) (defBody sRMP) (defScope sRMP) .none kV25 dc25 pm25 an25 cd25 ct25), sl25⟩) (c25 : PySem.W.codeIn K cd25 "refuse_many_pieces" = true) (k25 : PySem.W.keepIn K (.ref f25) = true)
    (a26 : PySem.W.nsIn K mainGlobals "partings" = some (some (.ref f26)))
    (l26 : K.lookup f26 = some ⟨oc26, od26, .func (PySem.W.fnOf "partings" "partings" (defArgs sPtgs) (defBody sPtgs) (defScope sPtgs) .none kV26 dc26 pm26 an26 cd26 ct26), sl26⟩) (c26 : PySem.W.codeIn K cd26 "partings" = true) (k26 : PySem.W.keepIn K (.ref f26) = true)
    (a27 : PySem.W.nsIn K mainGlobals "_law_draw" = some (some (.ref f27)))
    (l27 : K.lookup f27 = some ⟨oc27, od27, .func (PySem.W.fnOf "_law_draw" "_law_draw" (defArgs sDraw) (defBody sDraw) (defScope sDraw) .none kV27 dc27 pm27 an27 cd27 ct27), sl27⟩) (c27 : PySem.W.codeIn K cd27 "_law_draw" = true) (k27 : PySem.W.keepIn K (.ref f27) = true)
    (a28 : PySem.W.nsIn K mainGlobals "_law_mix" = some (some (.ref f28)))
    (l28 : K.lookup f28 = some ⟨oc28, od28, .func (PySem.W.fnOf "_law_mix" "_law_mix" (defArgs sMix) (defBody sMix) (defScope sMix) .none kV28 dc28 pm28 an28 cd28 ct28), sl28⟩) (c28 : PySem.W.codeIn K cd28 "_law_mix" = true) (k28 : PySem.W.keepIn K (.ref f28) = true)
    (a29 : PySem.W.nsIn K mainGlobals "_law_part" = some (some (.ref f29)))
    (l29 : K.lookup f29 = some ⟨oc29, od29, .func (PySem.W.fnOf "_law_part" "_law_part" (defArgs sPart) (defBody sPart) (defScope sPart) .none kV29 dc29 pm29 an29 cd29 ct29), sl29⟩) (c29 : PySem.W.codeIn K cd29 "_law_part" = true) (k29 : PySem.W.keepIn K (.ref f29) = true)
    (a30 : PySem.W.nsIn K mainGlobals "_law_lowest" = some (some (.ref f30)))
    (l30 : K.lookup f30 = some ⟨oc30, od30, .func (PySem.W.fnOf "_law_lowest" "_law_lowest" (defArgs sLowest) (defBody sLowest) (defScope sLowest) .none kV30 dc30 pm30 an30 cd30 ct30), sl30⟩) (c30 : PySem.W.codeIn K cd30 "_law_lowest" = true) (k30 : PySem.W.keepIn K (.ref f30) = true)
    (a31 : PySem.W.nsIn K mainGlobals "_law_numbers" = some (some (.ref f31)))
    (l31 : K.lookup f31 = some ⟨oc31, od31, .func (PySem.W.fnOf "_law_numbers" "_law_numbers" (defArgs sNums) (defBody sNums) (defScope sNums) .none kV31 dc31 pm31 an31 cd31 ct31), sl31⟩) (c31 : PySem.W.codeIn K cd31 "_law_numbers" = true) (k31 : PySem.W.keepIn K (.ref f31) = true)
    (a32 : PySem.W.nsIn K mainGlobals "_law_rising" = some (some (.ref f32)))
    (l32 : K.lookup f32 = some ⟨oc32, od32, .func (PySem.W.fnOf "_law_rising" "_law_rising" (defArgs sRis) (defBody sRis) (defScope sRis) .none kV32 dc32 pm32 an32 cd32 ct32), sl32⟩) (c32 : PySem.W.codeIn K cd32 "_law_rising" = true) (k32 : PySem.W.keepIn K (.ref f32) = true)
    (a33 : PySem.W.nsIn K mainGlobals "_law_marks" = some (some (.ref f33)))
    (l33 : K.lookup f33 = some ⟨oc33, od33, .func (PySem.W.fnOf "_law_marks" "_law_marks" (defArgs sMrk) (defBody sMrk) (defScope sMrk) .none kV33 dc33 pm33 an33 cd33 ct33), sl33⟩) (c33 : PySem.W.codeIn K cd33 "_law_marks" = true) (k33 : PySem.W.keepIn K (.ref f33) = true)
    (a34 : PySem.W.nsIn K mainGlobals "_law_count" = some (some (.ref f34)))
    (l34 : K.lookup f34 = some ⟨oc34, od34, .func (PySem.W.fnOf "_law_count" "_law_count" (defArgs sCnt) (defBody sCnt) (defScope sCnt) .none kV34 dc34 pm34 an34 cd34 ct34), sl34⟩) (c34 : PySem.W.codeIn K cd34 "_law_count" = true) (k34 : PySem.W.keepIn K (.ref f34) = true)
    (a35 : PySem.W.nsIn K mainGlobals "_law_net" = some (some (.ref f35)))
    (l35 : K.lookup f35 = some ⟨oc35, od35, .func (PySem.W.fnOf "_law_net" "_law_net" (defArgs sNet63) (defBody sNet63) (defScope sNet63) .none kV35 dc35 pm35 an35 cd35 ct35), sl35⟩) (c35 : PySem.W.codeIn K cd35 "_law_net" = true) (k35 : PySem.W.keepIn K (.ref f35) = true)
    (a36 : PySem.W.nsIn K mainGlobals "_law_rows" = some (some (.ref f36)))
    (l36 : K.lookup f36 = some ⟨oc36, od36, .func (PySem.W.fnOf "_law_rows" "_law_rows" (defArgs sRowsL) (defBody sRowsL) (defScope sRowsL) .none kV36 dc36 pm36 an36 cd36 ct36), sl36⟩) (c36 : PySem.W.codeIn K cd36 "_law_rows" = true) (k36 : PySem.W.keepIn K (.ref f36) = true)
    (a37 : PySem.W.nsIn K mainGlobals "_law_listed" = some (some (.ref f37)))
    (l37 : K.lookup f37 = some ⟨oc37, od37, .func (PySem.W.fnOf "_law_listed" "_law_listed" (defArgs sLst) (defBody sLst) (defScope sLst) .none kV37 dc37 pm37 an37 cd37 ct37), sl37⟩) (c37 : PySem.W.codeIn K cd37 "_law_listed" = true) (k37 : PySem.W.keepIn K (.ref f37) = true)
    (a38 : PySem.W.nsIn K mainGlobals "law" = some (some (.ref f38)))
    (l38 : K.lookup f38 = some ⟨oc38, od38, .func (PySem.W.fnOf "law" "law" (defArgs sLaw) (defBody sLaw) (defScope sLaw) .none kV38 dc38 pm38 an38 cd38 ct38), sl38⟩) (c38 : PySem.W.codeIn K cd38 "law" = true) (k38 : PySem.W.keepIn K (.ref f38) = true)
    (v_NOUGHT : PySem.W.nsIn K mainGlobals "NOUGHT" = some (some (.ref aN)))
    (v_MOST_POINTS : PySem.W.nsIn K mainGlobals "MOST_POINTS" = some (some (.int 20 tM)))
    (v_MOST_ROWS : PySem.W.nsIn K mainGlobals "MOST_ROWS" = some (some (.int 40 tR)))
    (v_MOST_PIECES : PySem.W.nsIn K mainGlobals "MOST_PIECES" = some (some (.int 12 tP)))
    (lN : K.lookup aN = some ⟨.type "tuple", dN, .seq #[.int 0 t0, .int 1 t1] nN, sN⟩)
    (pg_Piece : PySem.W.plainGet K c_Piece Str.empty = true)
    (hd_Piece : PySem.W.hasDictIn K c_Piece = true)
    (po_Piece : PySem.W.plainOver K c_Piece = true)
    (sa_Piece : PySem.W.findIn K (.ref c_Piece) "__setattr__" = some (some (.builtin "object.__setattr__")))
    (mk_Piece : PySem.W.makesIn K c_Piece = true)
    (kc_Piece : PySem.W.keepIn K (.ref c_Piece) = true)
    (t1_Piece : PySem.W.findIn K (.ref c_Piece) "__class__" = some (some (.builtin "object.__class__")))
    (t4_Piece : PySem.W.mroIn K c_Piece (.type "object") = some true)
    (na_Piece_start : PySem.W.findIn K (.ref c_Piece) "start" = some none)
    (na_Piece_goal : PySem.W.findIn K (.ref c_Piece) "goal" = some none)
    (na_Piece_size : PySem.W.findIn K (.ref c_Piece) "size" = some none)
    (pg_Push : PySem.W.plainGet K c_Push Str.empty = true)
    (hd_Push : PySem.W.hasDictIn K c_Push = true)
    (po_Push : PySem.W.plainOver K c_Push = true)
    (sa_Push : PySem.W.findIn K (.ref c_Push) "__setattr__" = some (some (.builtin "object.__setattr__")))
    (mk_Push : PySem.W.makesIn K c_Push = true)
    (kc_Push : PySem.W.keepIn K (.ref c_Push) = true)
    (t1_Push : PySem.W.findIn K (.ref c_Push) "__class__" = some (some (.builtin "object.__class__")))
    (t4_Push : PySem.W.mroIn K c_Push (.type "object") = some true)
    (na_Push_start : PySem.W.findIn K (.ref c_Push) "start" = some none)
    (na_Push_goal : PySem.W.findIn K (.ref c_Push) "goal" = some none)
    (na_Push_size : PySem.W.findIn K (.ref c_Push) "size" = some none)
    (pg_Hold : PySem.W.plainGet K c_Hold Str.empty = true)
    (hd_Hold : PySem.W.hasDictIn K c_Hold = true)
    (po_Hold : PySem.W.plainOver K c_Hold = true)
    (sa_Hold : PySem.W.findIn K (.ref c_Hold) "__setattr__" = some (some (.builtin "object.__setattr__")))
    (mk_Hold : PySem.W.makesIn K c_Hold = true)
    (kc_Hold : PySem.W.keepIn K (.ref c_Hold) = true)
    (t1_Hold : PySem.W.findIn K (.ref c_Hold) "__class__" = some (some (.builtin "object.__class__")))
    (t4_Hold : PySem.W.mroIn K c_Hold (.type "object") = some true)
    (na_Hold_start : PySem.W.findIn K (.ref c_Hold) "start" = some none)
    (na_Hold_goal : PySem.W.findIn K (.ref c_Hold) "goal" = some none)
    (na_Hold_size : PySem.W.findIn K (.ref c_Hold) "size" = some none)
    (tt2 : PySem.W.specialIn K (.builtin "object.__class__") "__get__" = some (some (.builtin "getset_descriptor.__get__")))
    (tt3 : PySem.W.takesIn K (.builtin "object.__class__") = some true)
    (isR_Piece : PySem.W.kitOne K (.ref c_Piece) (.ref c_Row) = some true)
    (isR_Push : PySem.W.kitOne K (.ref c_Push) (.ref c_Row) = some true)
    (isR_Hold : PySem.W.kitOne K (.ref c_Hold) (.ref c_Row) = some true)
    (isK_Piece_Push : PySem.W.kitOne K (.ref c_Piece) (.ref c_Push) = some false)
    (isK_Piece_Hold : PySem.W.kitOne K (.ref c_Piece) (.ref c_Hold) = some false)
    (isK_Push_Piece : PySem.W.kitOne K (.ref c_Push) (.ref c_Piece) = some false)
    (isK_Push_Hold : PySem.W.kitOne K (.ref c_Push) (.ref c_Hold) = some false)
    (isK_Hold_Piece : PySem.W.kitOne K (.ref c_Hold) (.ref c_Piece) = some false)
    (isK_Hold_Push : PySem.W.kitOne K (.ref c_Hold) (.ref c_Push) = some false)
    (pg_Net : PySem.W.plainGet K c_Net Str.empty = true)
    (hd_Net : PySem.W.hasDictIn K c_Net = true)
    (po_Net : PySem.W.plainOver K c_Net = true)
    (sa_Net : PySem.W.findIn K (.ref c_Net) "__setattr__" = some (some (.builtin "object.__setattr__")))
    (mk_Net : PySem.W.makesIn K c_Net = true)
    (kc_Net : PySem.W.keepIn K (.ref c_Net) = true)
    (t1_Net : PySem.W.findIn K (.ref c_Net) "__class__" = some (some (.builtin "object.__class__")))
    (t4_Net : PySem.W.mroIn K c_Net (.type "object") = some true)
    (na_Net_point_count : PySem.W.findIn K (.ref c_Net) "point_count" = some none)
    (na_Net_kept : PySem.W.findIn K (.ref c_Net) "kept" = some none)
    (z1 : PySem.W.nsIn K mainGlobals "isinstance" = some none)
    (z2 : PySem.W.nsIn K mainGlobals "int" = some none)
    (z3 : PySem.W.nsIn K mainGlobals "bool" = some none)
    (z4 : PySem.W.nsIn K mainGlobals "abs" = some none)
    (z5 : PySem.W.nsIn K mainGlobals "len" = some none)
    (z6 : PySem.W.nsIn K mainGlobals "range" = some none)
    (z7 : PySem.W.nsIn K mainGlobals "str" = some none)
    (z8 : PySem.W.nsIn K mainGlobals "tuple" = some none)
    (z9 : PySem.W.nsIn K mainGlobals "list" = some none)
    (z10 : PySem.W.nsIn K mainGlobals "all" = some none)
    (z11 : PySem.W.nsIn K mainGlobals "enumerate" = some none)
    (z12 : PySem.W.nsIn K mainGlobals "set" = some none)
    (z13 : PySem.W.nsIn K mainGlobals "min" = some none)
    (z14 : PySem.W.nsIn K mainGlobals "max" = some none) :
    ∃ fd : FuncData, (∀ (s : Shared) (v : Value), BindsTo s fd ⟨[v], []⟩ [("_law_script", v)]) ∧ ∀ base : Heap, K.In base → base.Ns mainGlobals mg → FnOk l.prog w K mg base CX0 10 fa fd ["_law_script"] (spLaw K) := by
  have e := hfa.symm.trans (PySem.W.mg_of X G a38)
  cases e
  have mc_Row := PySem.W.mg_of X G y_Row
  have mc_Piece := PySem.W.mg_of X G y_Piece
  have mc_Push := PySem.W.mg_of X G y_Push
  have mc_Hold := PySem.W.mg_of X G y_Hold
  have mc_Net := PySem.W.mg_of X G y_Net
  have F1 := fund_mk (st := sWhole) l1 c1 k1
  have m1 := PySem.W.mg_of X G a1
  have b1 := F1.binds (ps := ["thing"]) fun _ _ _ _ _ _ us hl => match us, hl with | [_], _ => rfl
  have F2 := fund_mk (st := sGc) l2 c2 k2
  have m2 := PySem.W.mg_of X G a2
  have b2 := F2.binds (ps := ["one", "other"]) fun _ _ _ _ _ _ us hl => match us, hl with | [_, _], _ => rfl
  have F3 := fund_mk (st := sUnder) l3 c3 k3
  have m3 := PySem.W.mg_of X G a3
  have b3 := F3.binds (ps := ["one", "other"]) fun _ _ _ _ _ _ us hl => match us, hl with | [_, _], _ => rfl
  have F4 := fund_mk (st := sIsF) l4 c4 k4
  have m4 := PySem.W.mg_of X G a4
  have b4 := F4.binds (ps := ["thing"]) fun _ _ _ _ _ _ us hl => match us, hl with | [_], _ => rfl
  have F5 := fund_mk (st := sRInit) l5 c5 k5
  have b5 := F5.binds (ps := ["self", "start", "goal", "size"]) fun _ _ _ _ _ _ us hl => match us, hl with | [_, _, _, _], _ => rfl
  have F6 := fund_mk (st := sWord_pc) l6 c6 k6
  have b6 := F6.binds (ps := ["self"]) fun _ _ _ _ _ _ us hl => match us, hl with | [_], _ => rfl
  have F7 := fund_mk (st := sWord_pu) l7 c7 k7
  have b7 := F7.binds (ps := ["self"]) fun _ _ _ _ _ _ us hl => match us, hl with | [_], _ => rfl
  have F8 := fund_mk (st := sWord_ho) l8 c8 k8
  have b8 := F8.binds (ps := ["self"]) fun _ _ _ _ _ _ us hl => match us, hl with | [_], _ => rfl
  have F9 := fund_mk (st := sRTold) l9 c9 k9
  have b9 := F9.binds (ps := ["self"]) fun _ _ _ _ _ _ us hl => match us, hl with | [_], _ => rfl
  have F10 := fund_mk (st := sRowOf) l10 c10 k10
  have m10 := PySem.W.mg_of X G a10
  have b10 := F10.binds (ps := ["told"]) fun _ _ _ _ _ _ us hl => match us, hl with | [_], _ => rfl
  have F11 := fund_mk (st := sPS) l11 c11 k11
  have m11 := PySem.W.mg_of X G a11
  have b11 := F11.binds (ps := ["thing"]) fun _ _ _ _ _ _ us hl => match us, hl with | [_], _ => rfl
  have F12 := fund_mk (st := sNB) l12 c12 k12
  have m12 := PySem.W.mg_of X G a12
  have b12 := F12.binds (ps := ["thing", "bound"]) fun _ _ _ _ _ _ us hl => match us, hl with | [_, _], _ => rfl
  have F13 := fund_mk (st := sRS) l13 c13 k13
  have m13 := PySem.W.mg_of X G a13
  have b13 := F13.binds (ps := ["word", "size"]) fun _ _ _ _ _ _ us hl => match us, hl with | [_, _], _ => rfl
  have F14 := fund_mk (st := sRP) l14 c14 k14
  have m14 := PySem.W.mg_of X G a14
  have b14 := F14.binds (ps := ["some", "many"]) fun _ _ _ _ _ _ us hl => match us, hl with | [_, _], _ => rfl
  have F15 := fund_mk (st := sNInit) l15 c15 k15
  have b15 := F15.binds (ps := ["self", "many"]) fun _ _ _ _ _ _ us hl => match us, hl with | [_, _], _ => rfl
  have F16 := fund_mk (st := sMany) l16 c16 k16
  have b16 := F16.binds (ps := ["self"]) fun _ _ _ _ _ _ us hl => match us, hl with | [_], _ => rfl
  have F17 := fund_mk (st := sAdd) l17 c17 k17
  have b17 := F17.binds (ps := ["self", "row"]) fun _ _ _ _ _ _ us hl => match us, hl with | [_, _], _ => rfl
  have F18 := fund_mk (st := sRows) l18 c18 k18
  have b18 := F18.binds (ps := ["self"]) fun _ _ _ _ _ _ us hl => match us, hl with | [_], _ => rfl
  have F19 := fund_mk (st := sJoined) l19 c19 k19
  have m19 := PySem.W.mg_of X G a19
  have b19 := F19.binds (ps := ["marks", "row"]) fun _ _ _ _ _ _ us hl => match us, hl with | [_, _], _ => rfl
  have F20 := fund_mk (st := sRHo) l20 c20 k20
  have m20 := PySem.W.mg_of X G a20
  have b20 := F20.binds (ps := ["net"]) fun _ _ _ _ _ _ us hl => match us, hl with | [_], _ => rfl
  have F21 := fund_mk (st := sPNum) l21 c21 k21
  have m21 := PySem.W.mg_of X G a21
  have b21 := F21.binds (ps := ["net"]) fun _ _ _ _ _ _ us hl => match us, hl with | [_], _ => rfl
  have F22 := fund_mk (st := sBeh) l22 c22 k22
  have m22 := PySem.W.mg_of X G a22
  have b22 := F22.binds (ps := ["number", "numbers"]) fun _ _ _ _ _ _ us hl => match us, hl with | [_, _], _ => rfl
  have F23 := fund_mk (st := sLar) l23 c23 k23
  have m23 := PySem.W.mg_of X G a23
  have b23 := F23.binds (ps := ["net", "found"]) fun _ _ _ _ _ _ us hl => match us, hl with | [_, _], _ => rfl
  have F24 := fund_mk (st := sFors) l24 c24 k24
  have m24 := PySem.W.mg_of X G a24
  have b24 := F24.binds (ps := ["net", "size"]) fun _ _ _ _ _ _ us hl => match us, hl with | [_, _], _ => rfl
  have F25 := fund_mk (st := sRMP) l25 c25 k25
  have m25 := PySem.W.mg_of X G a25
  have b25 := F25.binds (ps := ["net"]) fun _ _ _ _ _ _ us hl => match us, hl with | [_], _ => rfl
  have F26 := fund_mk (st := sPtgs) l26 c26 k26
  have m26 := PySem.W.mg_of X G a26
  have b26 := F26.binds (ps := ["net", "a", "b"]) fun _ _ _ _ _ _ us hl => match us, hl with | [_, _, _], _ => rfl
  have F27 := fund_mk (st := sDraw) l27 c27 k27
  have m27 := PySem.W.mg_of X G a27
  have b27 := F27.binds (ps := ["_law_script", "_law_k"]) fun _ _ _ _ _ _ us hl => match us, hl with | [_, _], _ => rfl
  have F28 := fund_mk (st := sMix) l28 c28 k28
  have m28 := PySem.W.mg_of X G a28
  have b28 := F28.binds (ps := ["_law_cell", "_law_turn", "_law_many"]) fun _ _ _ _ _ _ us hl => match us, hl with | [_, _, _], _ => rfl
  have F29 := fund_mk (st := sPart) l29 c29 k29
  have m29 := PySem.W.mg_of X G a29
  have b29 := F29.binds (ps := ["_law_cell", "_law_k"]) fun _ _ _ _ _ _ us hl => match us, hl with | [_, _], _ => rfl
  have F30 := fund_mk (st := sLowest) l30 c30 k30
  have m30 := PySem.W.mg_of X G a30
  have b30 := F30.binds (ps := ["_law_top", "_law_bottom"]) fun _ _ _ _ _ _ us hl => match us, hl with | [_, _], _ => rfl
  have F31 := fund_mk (st := sNums) l31 c31 k31
  have m31 := PySem.W.mg_of X G a31
  have b31 := F31.binds (ps := ["_law_found"]) fun _ _ _ _ _ _ us hl => match us, hl with | [_], _ => rfl
  have F32 := fund_mk (st := sRis) l32 c32 k32
  have m32 := PySem.W.mg_of X G a32
  have b32 := F32.binds (ps := ["_law_found"]) fun _ _ _ _ _ _ us hl => match us, hl with | [_], _ => rfl
  have F33 := fund_mk (st := sMrk) l33 c33 k33
  have m33 := PySem.W.mg_of X G a33
  have b33 := F33.binds (ps := ["_law_rows_here", "_law_numbers_here", "_law_many"]) fun _ _ _ _ _ _ us hl => match us, hl with | [_, _, _], _ => rfl
  have F34 := fund_mk (st := sCnt) l34 c34 k34
  have m34 := PySem.W.mg_of X G a34
  have b34 := F34.binds (ps := ["_law_rows_here", "_law_pieces", "_law_many", "_law_ends"]) fun _ _ _ _ _ _ us hl => match us, hl with | [_, _, _, _], _ => rfl
  have F35 := fund_mk (st := sNet63) l35 c35 k35
  have m35 := PySem.W.mg_of X G a35
  have b35 := F35.binds (ps := ["_law_many", "_law_rows_here"]) fun _ _ _ _ _ _ us hl => match us, hl with | [_, _], _ => rfl
  have F36 := fund_mk (st := sRowsL) l36 c36 k36
  have m36 := PySem.W.mg_of X G a36
  have b36 := F36.binds (ps := ["_law_script", "_law_many", "_law_most"]) fun _ _ _ _ _ _ us hl => match us, hl with | [_, _, _], _ => rfl
  have F37 := fund_mk (st := sLst) l37 c37 k37
  have m37 := PySem.W.mg_of X G a37
  have b37 := F37.binds (ps := ["_law_net_here", "_law_rows_here", "_law_many", "_law_ends"]) fun _ _ _ _ _ _ us hl => match us, hl with | [_, _, _, _], _ => rfl
  have F38 := fund_mk (st := sLaw) l38 c38 k38
  have m38 := PySem.W.mg_of X G a38
  have b38 := F38.binds (ps := ["_law_script"]) fun _ _ _ _ _ _ us hl => match us, hl with | [_], _ => rfl
  have mv_NOUGHT := PySem.W.mg_of X G v_NOUGHT
  have mv_MOST_POINTS := PySem.W.mg_of X G v_MOST_POINTS
  have mv_MOST_ROWS := PySem.W.mg_of X G v_MOST_ROWS
  have mv_MOST_PIECES := PySem.W.mg_of X G v_MOST_PIECES
  have n_isinstance := PySem.W.mg_none_of X G z1
  have n_int := PySem.W.mg_none_of X G z2
  have n_bool := PySem.W.mg_none_of X G z3
  have n_abs := PySem.W.mg_none_of X G z4
  have n_len := PySem.W.mg_none_of X G z5
  have n_range := PySem.W.mg_none_of X G z6
  have n_str := PySem.W.mg_none_of X G z7
  have n_tuple := PySem.W.mg_none_of X G z8
  have n_list := PySem.W.mg_none_of X G z9
  have n_all := PySem.W.mg_none_of X G z10
  have n_enumerate := PySem.W.mg_none_of X G z11
  have n_set := PySem.W.mg_none_of X G z12
  have n_min := PySem.W.mg_none_of X G z13
  have n_max := PySem.W.mg_none_of X G z14
  refine ⟨PySem.W.fnOf "law" "law" (defArgs sLaw) (defBody sLaw) (defScope sLaw) .none kV38 dc38 pm38 an38 cd38 ct38, fun s v => .of_eq rfl, fun base _ _ => ?_⟩
  have bl : Bl mg := ⟨n_isinstance, n_int, n_bool, n_abs⟩
  have T : RT K mg c_Row (kd3 c_Piece c_Push c_Hold) := ⟨all3 ⟨pg_Piece, hd_Piece, po_Piece, sa_Piece⟩ ⟨pg_Push, hd_Push, po_Push, sa_Push⟩ ⟨pg_Hold, hd_Hold, po_Hold, sa_Hold⟩, all3 na_Piece_start na_Push_start na_Hold_start, all3 na_Piece_goal na_Push_goal na_Hold_goal, all3 na_Piece_size na_Push_size na_Hold_size, all3 t1_Piece t1_Push t1_Hold, tt2, tt3, all3 t4_Piece t4_Push t4_Hold, all3 isR_Piece isR_Push isR_Hold, all3 (all3 (kit_self _ _) isK_Piece_Push isK_Piece_Hold) (all3 isK_Push_Piece (kit_self _ _) isK_Push_Hold) (all3 isK_Hold_Piece isK_Hold_Push (kit_self _ _)), mc_Row, all3 mc_Piece mc_Push mc_Hold⟩
  have fN : ∀ H, Fq K H aN (0, 1) := Fq.mod lN
  have NTx : NT K mg c_Net := ⟨⟨pg_Net, hd_Net, po_Net, sa_Net⟩, na_Net_point_count, na_Net_kept, t1_Net, tt2, tt3, t4_Net, mc_Net⟩
  have R1 := ok_whole (P := l.prog) (w := w) (K := K) (mg := mg) (base := base) (CX := CX0) F1 bl
  have R2 := ok_gc (P := l.prog) (w := w) (K := K) (mg := mg) (base := base) (CX := CX0) F2 bl
  have R3 := ok_under (P := l.prog) (w := w) (K := K) (mg := mg) (base := base) (CX := CX0) F3 
  have R4 := ok_isf (P := l.prog) (w := w) (K := K) (mg := mg) (base := base) (CX := CX0) F4 bl n_len n_tuple R1 b1 k1 m1 R2 b2 k2 m2
  have R5 := ok_rinit (P := l.prog) (w := w) (K := K) (mg := mg) (base := base) (CX := CX0) F5 T
  have R6 := ok_word_pc (P := l.prog) (w := w) (K := K) (mg := mg) (base := base) (CX := CX0) F6 
  have R7 := ok_word_pu (P := l.prog) (w := w) (K := K) (mg := mg) (base := base) (CX := CX0) F7 
  have R8 := ok_word_ho (P := l.prog) (w := w) (K := K) (mg := mg) (base := base) (CX := CX0) F8 
  have GW : ∀ k, FnOk l.prog w K mg base CX0 1 (kd3 f6 f7 f8 k) (kd3 _ _ _ k) ["self"] (spWord k) := all3 (R6) (R7) (R8)
  have bW : ∀ k, Binds K (kd3 _ _ _ k) ["self"] [] := all3 (b6) (b7) (b8)
  have mW : ∀ k, Meth K (kd3 c_Piece c_Push c_Hold k) "word" (kd3 f6 f7 f8 k) := all3 (⟨a6_0, i6, k6⟩) (⟨a7_0, i7, k7⟩) (⟨a8_0, i8, k8⟩)
  have R9 := ok_rtold (P := l.prog) (w := w) (K := K) (mg := mg) (base := base) (CX := CX0) F9 T GW bW mW
  have mT : ∀ k, Meth K (kd3 c_Piece c_Push c_Hold k) "told" f9 := all3 (⟨a9_0, i9, k9⟩) (⟨a9_1, i9, k9⟩) (⟨a9_2, i9, k9⟩)
  have MK : ∀ k, Mk K (kd3 c_Piece c_Push c_Hold k) f5 := all3 (⟨mk_Piece, a5_0, i5, kc_Piece⟩) (⟨mk_Push, a5_1, i5, kc_Push⟩) (⟨mk_Hold, a5_2, i5, kc_Hold⟩)
  have R10 := ok_rowof (P := l.prog) (w := w) (K := K) (mg := mg) (base := base) (CX := CX0) F10 T bl n_str R5 b5 MK
  have R11 := ok_ps (P := l.prog) (w := w) (K := K) (mg := mg) (base := base) (CX := CX0) F11 fN mv_NOUGHT (isf_good R4) b4 k4 m4 R3 b3 k3 m3
  have R12 := ok_nb (P := l.prog) (w := w) (K := K) (mg := mg) (base := base) (CX := CX0) F12  R1 b1 k1 m1
  have R13 := ok_rs (P := l.prog) (w := w) (K := K) (mg := mg) (base := base) (CX := CX0) F13 (isf_good R4) b4 k4 m4 R11 b11 k11 m11
  have R14 := ok_rp (P := l.prog) (w := w) (K := K) (mg := mg) (base := base) (CX := CX0) F14 n_all R12 b12 k12 m12
  have R15 := ok_ninit (P := l.prog) (w := w) (K := K) (mg := mg) (base := base) (CX := CX0) F15 NTx mv_MOST_POINTS R1 b1 k1 m1
  have R16 := ok_many (P := l.prog) (w := w) (K := K) (mg := mg) (base := base) (CX := CX0) F16 NTx
  have R17 := ok_add (P := l.prog) (w := w) (K := K) (mg := mg) (base := base) (CX := CX0) F17 NTx mv_MOST_ROWS n_len T R9 b9 mT R14 b14 k14 m14 R13 b13 k13 m13
  have R18 := ok_rows (P := l.prog) (w := w) (K := K) (mg := mg) (base := base) (CX := CX0) F18 NTx R10 b10 k10 m10
  have MN : Mk K c_Net f15 := ⟨mk_Net, a15_0, i15, kc_Net⟩
  have R19 := ok_joined (P := l.prog) (w := w) (K := K) (mg := mg) (base := base) (CX := CX0) F19 T
  have R20 := ok_rho (P := l.prog) (w := w) (K := K) (mg := mg) (base := base) (CX := CX0) F20 n_enumerate NTx T GW bW mW R18 b18 ⟨a18_0, i18, k18⟩
  have R21 := ok_pnum (P := l.prog) (w := w) (K := K) (mg := mg) (base := base) (CX := CX0) F21 n_enumerate NTx T GW bW mW R18 b18 ⟨a18_0, i18, k18⟩
  have R22 := ok_beh (P := l.prog) (w := w) (K := K) (mg := mg) (base := base) (CX := CX0) F22 n_len
  have R23 := ok_lar (P := l.prog) (w := w) (K := K) (mg := mg) (base := base) (CX := CX0) F23 NTx T R18 b18 ⟨a18_0, i18, k18⟩ R21 b21 k21 m21 R22 b22 k22 m22 R19 b19 k19 m19
  have R24 := ok_fors (P := l.prog) (w := w) (K := K) (mg := mg) (base := base) (CX := CX0) F24 n_list n_range NTx R16 b16 ⟨a16_0, i16, k16⟩ R23 b23 k23 m23
  have R25 := ok_rmp (P := l.prog) (w := w) (K := K) (mg := mg) (base := base) (CX := CX0) F25 mv_MOST_PIECES n_len R21 b21 k21 m21
  have R26 := ok_ptgs (P := l.prog) (w := w) (K := K) (mg := mg) (base := base) (CX := CX0) F26 NTx R16 b16 ⟨a16_0, i16, k16⟩ R20 b20 k20 m20 R25 b25 k25 m25 R24 b24 k24 m24 R14 b14 k14 m14
  have R27 := ok_draw (P := l.prog) (w := w) (K := K) (mg := mg) (base := base) (CX := CX0) F27 
  have R28 := ok_mix (P := l.prog) (w := w) (K := K) (mg := mg) (base := base) (CX := CX0) F28 n_range
  have R29 := ok_part (P := l.prog) (w := w) (K := K) (mg := mg) (base := base) (CX := CX0) F29 n_range
  have R30 := ok_lowest (P := l.prog) (w := w) (K := K) (mg := mg) (base := base) (CX := CX0) F30 bl
  have R31 := ok_nums (P := l.prog) (w := w) (K := K) (mg := mg) (base := base) (CX := CX0) F31 bl n_list
  have R32 := ok_ris (P := l.prog) (w := w) (K := K) (mg := mg) (base := base) (CX := CX0) F32 n_len n_range
  have R33 := ok_mrk (P := l.prog) (w := w) (K := K) (mg := mg) (base := base) (CX := CX0) F33 n_list n_range
  have R34 := ok_cnt (P := l.prog) (w := w) (K := K) (mg := mg) (base := base) (CX := CX0) F34 n_list n_range n_len n_set
  have R35 := ok_net63 (P := l.prog) (w := w) (K := K) (mg := mg) (base := base) (CX := CX0) F35 NTx R17 b17 ⟨a17_0, i17, k17⟩ R15 b15 MN R10 b10 k10 m10
  have R36 := ok_rowsl (P := l.prog) (w := w) (K := K) (mg := mg) (base := base) (CX := CX0) F36 bl n_range R28 b28 k28 m28 R29 b29 k29 m29 R30 b30 k30 m30 R27 b27 k27 m27
  have R37 := ok_lst (P := l.prog) (w := w) (K := K) (mg := mg) (base := base) (CX := CX0) F37 bl n_range n_len n_all n_list R26 b26 k26 m26 R32 b32 k32 m32 R31 b31 k31 m31 R33 b33 k33 m33 R34 b34 k34 m34
  exact ok_law (P := l.prog) (w := w) (K := K) (mg := mg) (base := base) (CX := CX0) F38 NTx n_max n_min R17 b17 ⟨a17_0, i17, k17⟩ R27 b27 k27 m27 R36 b36 k36 m36 R35 b35 k35 m35 R37 b37 k37 m37 R28 b28 k28 m28 R10 b10 k10 m10
theorem walk {l : PySem.W.OpenLaw} {q : Program} {loose : List Str} {XP : (Str → Option Value) → Heap → Prop} {YP : World → Heap → Prop} {d : DefRec} {K : Params → PySem.W.Frag} (hn : l.most = some 63) (hdf : d.params.defaults = [])
    (hY : ∀ (w : World) (h : Heap), YP w h → (K w.params).In h)
    (F : ∀ (w : World) (mg : Str → Option Value) (fa : Addr) (h : Heap), (K w.params).In h → h.Ns mainGlobals mg → mg d.name = some (.ref fa) →
      ∃ fd : FuncData, (∀ (s : Shared) (u : Value), BindsTo s fd ⟨[u], []⟩ [("_law_script", u)]) ∧ ∀ base : Heap, (K w.params).In base → base.Ns mainGlobals mg → FnOk l.prog w (K w.params) mg base CX0 10 fa fd ["_law_script"] (spLaw (K w.params))) :
    PySem.W.WalkO q loose XP YP l.row.toRowW d [] (fun f vs => PySem.call f vs) :=
  L2.walk_of (n := 63) (k := 10) (x := "_law_script") (CX := fun _ => CX0) (sp := fun w => spLaw (K w.params)) hn (by decide) hdf ⟨rfl, by decide, by decide⟩ hY F (fun _ _ a ns hl _ hS => ⟨a, ns, rfl, hS, hl, fun _ => rfl⟩) fun _ _ _ _ _ z => z
end K64
def PySem.W.Fast.tw4976425905197303015 : Nat := 0
def PySem.W.Fast.tw8854126343244284900 : Nat := 0
def PySem.W.Fast.tw1959755494746334779 : Nat := 0
def PySem.W.Fast.tw2170252114595393320 : Nat := 0
def PySem.W.Fast.tw4845052936119577770 : Nat := 0
def PySem.W.Fast.tw12691483885344895046 : Nat := 0
def PySem.W.Fast.tw4651370690957056274 : Nat := 0
def PySem.W.Fast.tw3660652799692270848 : Nat := 0
def PySem.W.Fast.tw12904691013540755733 : Nat := 0
def PySem.W.Fast.tw6463048884102089324 : Nat := 0
def PySem.W.Fast.tw2897860492811811450 : Nat := 0
def PySem.W.Fast.tw5586098051912446937 : Nat := 0
def PySem.W.Fast.tw7374655988635698353 : Nat := 0
def PySem.W.Fast.tw9146850012007995366 : Nat := 0
def PySem.W.Fast.tw10185248145055889965 : Nat := 0
def PySem.W.Fast.tw3156062265682962153 : Nat := 0
def PySem.W.Fast.tw71352923948431103 : Nat := 0
def PySem.W.Fast.tw8932209877835383102 : Nat := 0
def PySem.W.Fast.tw13958249386235172429 : Nat := 0
open PySem PySem.W PyProof.Rows
set_option maxRecDepth 100000 in
set_option maxHeartbeats 0 in
theorem PySem.Challenge.cw_ohmyard_k64_partings_listed_holds : PySem.Challenge.rw_ohmyard_k64_partings_listed.Holds := by
  w_on; o_law; z_head; (case hw => w_witness2)
  k_fill
  refine L2.walkX_of (fun _ => by kernel_rfl) (K64.walk (l := PySem.Challenge.rw_ohmyard_k64_partings_listed) rfl rfl (fun w h Y => Y) ?F)
  case F =>
    intro w mg fa h KX G hmg
    refine' K64.all_mk KX G hmg ?y_Row ?y_Piece ?y_Push ?y_Hold ?y_Net ?a1 ?l1 ?c1 ?k1 ?a2 ?l2 ?c2 ?k2 ?a3 ?l3 ?c3 ?k3 ?a4 ?l4 ?c4 ?k4 ?a5_0 ?a5_1 ?a5_2 ?i5 ?l5 ?c5 ?k5 ?a6_0 ?i6 ?l6 ?c6 ?k6 ?a7_0 ?i7 ?l7 ?c7 ?k7 ?a8_0 ?i8 ?l8 ?c8 ?k8 ?a9_0 ?a9_1 ?a9_2 ?i9 ?l9 ?c9 ?k9 ?a10 ?l10 ?c10 ?k10 ?a11 ?l11 ?c11 ?k11 ?a12 ?l12 ?c12 ?k12 ?a13 ?l13 ?c13 ?k13 ?a14 ?l14 ?c14 ?k14 ?a15_0 ?i15 ?l15 ?c15 ?k15 ?a16_0 ?i16 ?l16 ?c16 ?k16 ?a17_0 ?i17 ?l17 ?c17 ?k17 ?a18_0 ?i18 ?l18 ?c18 ?k18 ?a19 ?l19 ?c19 ?k19 ?a20 ?l20 ?c20 ?k20 ?a21 ?l21 ?c21 ?k21 ?a22 ?l22 ?c22 ?k22 ?a23 ?l23 ?c23 ?k23 ?a24 ?l24 ?c24 ?k24 ?a25 ?l25 ?c25 ?k25 ?a26 ?l26 ?c26 ?k26 ?a27 ?l27 ?c27 ?k27 ?a28 ?l28 ?c28 ?k28 ?a29 ?l29 ?c29 ?k29 ?a30 ?l30 ?c30 ?k30 ?a31 ?l31 ?c31 ?k31 ?a32 ?l32 ?c32 ?k32 ?a33 ?l33 ?c33 ?k33 ?a34 ?l34 ?c34 ?k34 ?a35 ?l35 ?c35 ?k35 ?a36 ?l36 ?c36 ?k36 ?a37 ?l37 ?c37 ?k37 ?a38 ?l38 ?c38 ?k38 ?v_NOUGHT ?v_MOST_POINTS ?v_MOST_ROWS ?v_MOST_PIECES ?lN ?pg_Piece ?hd_Piece ?po_Piece ?sa_Piece ?mk_Piece ?kc_Piece ?t1_Piece ?t4_Piece ?na_Piece_start ?na_Piece_goal ?na_Piece_size ?pg_Push ?hd_Push ?po_Push ?sa_Push ?mk_Push ?kc_Push ?t1_Push ?t4_Push ?na_Push_start ?na_Push_goal ?na_Push_size ?pg_Hold ?hd_Hold ?po_Hold ?sa_Hold ?mk_Hold ?kc_Hold ?t1_Hold ?t4_Hold ?na_Hold_start ?na_Hold_goal ?na_Hold_size ?tt2 ?tt3 ?isR_Piece ?isR_Push ?isR_Hold ?isK_Piece_Push ?isK_Piece_Hold ?isK_Push_Piece ?isK_Push_Hold ?isK_Hold_Piece ?isK_Hold_Push ?pg_Net ?hd_Net ?po_Net ?sa_Net ?mk_Net ?kc_Net ?t1_Net ?t4_Net ?na_Net_point_count ?na_Net_kept ?z1 ?z2 ?z3 ?z4 ?z5 ?z6 ?z7 ?z8 ?z9 ?z10 ?z11 ?z12 ?z13 ?z14
    (case y_Row => k_is)
    (case y_Piece => k_is)
    (case y_Push => k_is)
    (case y_Hold => k_is)
    (case y_Net => k_is)
    (case a1 => k_is); (case l1 => k_is); (case c1 => k_is); (case k1 => k_is)
    (case a2 => k_is); (case l2 => k_is); (case c2 => k_is); (case k2 => k_is)
    (case a3 => k_is); (case l3 => k_is); (case c3 => k_is); (case k3 => k_is)
    (case a4 => k_is); (case l4 => k_is); (case c4 => k_is); (case k4 => k_is)
    (case a5_0 => k_is); (case a5_1 => k_is); (case a5_2 => k_is); (case i5 => k_is); (case l5 => k_is); (case c5 => k_is); (case k5 => k_is)
    (case a6_0 => k_is); (case i6 => k_is); (case l6 => k_is); (case c6 => k_is); (case k6 => k_is)
    (case a7_0 => k_is); (case i7 => k_is); (case l7 => k_is); (case c7 => k_is); (case k7 => k_is)
    (case a8_0 => k_is); (case i8 => k_is); (case l8 => k_is); (case c8 => k_is); (case k8 => k_is)
    (case a9_0 => k_is); (case a9_1 => k_is); (case a9_2 => k_is); (case i9 => k_is); (case l9 => k_is); (case c9 => k_is); (case k9 => k_is)
    (case a10 => k_is); (case l10 => k_is); (case c10 => k_is); (case k10 => k_is)
    (case a11 => k_is); (case l11 => k_is); (case c11 => k_is); (case k11 => k_is)
    (case a12 => k_is); (case l12 => k_is); (case c12 => k_is); (case k12 => k_is)
    (case a13 => k_is); (case l13 => k_is); (case c13 => k_is); (case k13 => k_is)
    (case a14 => k_is); (case l14 => k_is); (case c14 => k_is); (case k14 => k_is)
    (case a15_0 => k_is); (case i15 => k_is); (case l15 => k_is); (case c15 => k_is); (case k15 => k_is)
    (case a16_0 => k_is); (case i16 => k_is); (case l16 => k_is); (case c16 => k_is); (case k16 => k_is)
    (case a17_0 => k_is); (case i17 => k_is); (case l17 => k_is); (case c17 => k_is); (case k17 => k_is)
    (case a18_0 => k_is); (case i18 => k_is); (case l18 => k_is); (case c18 => k_is); (case k18 => k_is)
    (case a19 => k_is); (case l19 => k_is); (case c19 => k_is); (case k19 => k_is)
    (case a20 => k_is); (case l20 => k_is); (case c20 => k_is); (case k20 => k_is)
    (case a21 => k_is); (case l21 => k_is); (case c21 => k_is); (case k21 => k_is)
    (case a22 => k_is); (case l22 => k_is); (case c22 => k_is); (case k22 => k_is)
    (case a23 => k_is); (case l23 => k_is); (case c23 => k_is); (case k23 => k_is)
    (case a24 => k_is); (case l24 => k_is); (case c24 => k_is); (case k24 => k_is)
    (case a25 => k_is); (case l25 => k_is); (case c25 => k_is); (case k25 => k_is)
    (case a26 => k_is); (case l26 => k_is); (case c26 => k_is); (case k26 => k_is)
    (case a27 => k_is); (case l27 => k_is); (case c27 => k_is); (case k27 => k_is)
    (case a28 => k_is); (case l28 => k_is); (case c28 => k_is); (case k28 => k_is)
    (case a29 => k_is); (case l29 => k_is); (case c29 => k_is); (case k29 => k_is)
    (case a30 => k_is); (case l30 => k_is); (case c30 => k_is); (case k30 => k_is)
    (case a31 => k_is); (case l31 => k_is); (case c31 => k_is); (case k31 => k_is)
    (case a32 => k_is); (case l32 => k_is); (case c32 => k_is); (case k32 => k_is)
    (case a33 => k_is); (case l33 => k_is); (case c33 => k_is); (case k33 => k_is)
    (case a34 => k_is); (case l34 => k_is); (case c34 => k_is); (case k34 => k_is)
    (case a35 => k_is); (case l35 => k_is); (case c35 => k_is); (case k35 => k_is)
    (case a36 => k_is); (case l36 => k_is); (case c36 => k_is); (case k36 => k_is)
    (case a37 => k_is); (case l37 => k_is); (case c37 => k_is); (case k37 => k_is)
    (case a38 => k_is); (case l38 => k_is); (case c38 => k_is); (case k38 => k_is)
    (case v_NOUGHT => k_is)
    (case v_MOST_POINTS => k_is)
    (case v_MOST_ROWS => k_is)
    (case v_MOST_PIECES => k_is)
    (case lN => k_is)
    (case pg_Piece => k_is)
    (case hd_Piece => k_is)
    (case po_Piece => k_is)
    (case sa_Piece => k_is)
    (case mk_Piece => k_is)
    (case kc_Piece => k_is)
    (case t1_Piece => k_is)
    (case t4_Piece => k_is)
    (case na_Piece_start => k_is)
    (case na_Piece_goal => k_is)
    (case na_Piece_size => k_is)
    (case pg_Push => k_is)
    (case hd_Push => k_is)
    (case po_Push => k_is)
    (case sa_Push => k_is)
    (case mk_Push => k_is)
    (case kc_Push => k_is)
    (case t1_Push => k_is)
    (case t4_Push => k_is)
    (case na_Push_start => k_is)
    (case na_Push_goal => k_is)
    (case na_Push_size => k_is)
    (case pg_Hold => k_is)
    (case hd_Hold => k_is)
    (case po_Hold => k_is)
    (case sa_Hold => k_is)
    (case mk_Hold => k_is)
    (case kc_Hold => k_is)
    (case t1_Hold => k_is)
    (case t4_Hold => k_is)
    (case na_Hold_start => k_is)
    (case na_Hold_goal => k_is)
    (case na_Hold_size => k_is)
    (case tt2 => k_is)
    (case tt3 => k_is)
    (case isR_Piece => kit_is)
    (case isR_Push => kit_is)
    (case isR_Hold => kit_is)
    (case isK_Piece_Push => kit_is)
    (case isK_Piece_Hold => kit_is)
    (case isK_Push_Piece => kit_is)
    (case isK_Push_Hold => kit_is)
    (case isK_Hold_Piece => kit_is)
    (case isK_Hold_Push => kit_is)
    (case pg_Net => k_is)
    (case hd_Net => k_is)
    (case po_Net => k_is)
    (case sa_Net => k_is)
    (case mk_Net => k_is)
    (case kc_Net => k_is)
    (case t1_Net => k_is)
    (case t4_Net => k_is)
    (case na_Net_point_count => k_is)
    (case na_Net_kept => k_is)
    (case z1 => k_is)
    (case z2 => k_is)
    (case z3 => k_is)
    (case z4 => k_is)
    (case z5 => k_is)
    (case z6 => k_is)
    (case z7 => k_is)
    (case z8 => k_is)
    (case z9 => k_is)
    (case z10 => k_is)
    (case z11 => k_is)
    (case z12 => k_is)
    (case z13 => k_is)
    (case z14 => k_is)
