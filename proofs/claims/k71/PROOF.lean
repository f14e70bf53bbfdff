import PyProof.Rows.All
import Wide.All
import OpenK.AllK
import Wide.FinOn
import Lean
import PyProof.EqAt
import PyProof.EqKinds
import PyProof.TupleCall
import PyProof.Cells
import PyProof.SumWalkG
import PyProof.EnumStmt
import PyProof.EnumMake
import PyProof.InstStoreFacts
import KE.KDictList
import PyProof.Rows.SortWalk
import PySem.Challenge.RW_ohmyard_k71_blocks
set_option Elab.async false
set_option linter.all false
set_option maxRecDepth 100000
namespace L2
open PySem PySem.Spec PyProof.Rows

abbrev Key := Sum Int Str
def keyIs : Key → Value → Bool
  | .inl k, v => Value.isInt k v
  | .inr x, v => Value.isStrOf x v
def keyH (w : World) : Key → Int
  | .inl k => hashInt k
  | .inr x => hashStr w x
theorem keyIs_shape : ∀ {k : Key} {v : Value}, keyIs k v = true → (∃ i t, k = Sum.inl i ∧ v = Value.int i t) ∨ (∃ x t, k = Sum.inr x ∧ v = Value.str x t)
  | .inl i, v, h => by
    obtain ⟨t, e⟩ := Value.isInt_shape (k := i) (v := v) h
    exact .inl ⟨i, t, rfl, e⟩
  | .inr x, v, h => by
    obtain ⟨t, e⟩ := Value.isStrOf_shape (x := x) (v := v) h
    exact .inr ⟨x, t, rfl, e⟩
theorem keyIs_int (i : Int) (t : Tok) : keyIs (.inl i) (.int i t) = true := by simp [keyIs, Value.isInt]
theorem keyIs_str (x : Str) (t : Tok) : keyIs (.inr x) (.str x t) = true := by simp [keyIs, Value.isStrOf]
theorem key_ll (a b : Int) : decide ((Sum.inl a : Key) = Sum.inl b) = (a == b) := by
  by_cases e : a = b
  · subst e; simp
  · have h : ¬ (Sum.inl a : Key) = Sum.inl b := fun q => e (Sum.inl.inj q)
    rw [decide_eq_false h]
    exact (beq_eq_false_iff_ne.mpr e).symm
theorem key_rr (a b : Str) : decide ((Sum.inr a : Key) = Sum.inr b) = decide (a = b) := by
  by_cases e : a = b
  · subst e; simp
  · have h : ¬ (Sum.inr a : Key) = Sum.inr b := fun q => e (Sum.inr.inj q)
    rw [decide_eq_false h, decide_eq_false e]
theorem key_lr (a : Int) (b : Str) : decide ((Sum.inl a : Key) = Sum.inr b) = false := decide_eq_false (fun q => nomatch q)
theorem key_rl (a : Str) (b : Int) : decide ((Sum.inr a : Key) = Sum.inl b) = false := decide_eq_false (fun q => nomatch q)

def mixKind (prog : Program) (w : World) : PySem.KeyKind prog w Key where
  is := keyIs
  hash := keyH w
  inj := fun v a b ha hb => by
    rcases keyIs_shape ha with ⟨i, t, rfl, rfl⟩ | ⟨x, t, rfl, rfl⟩
    · rcases keyIs_shape hb with ⟨j, u, rfl, e⟩ | ⟨y, u, rfl, e⟩
      · injection e with e1 _; rw [e1]
      · exact nomatch e
    · rcases keyIs_shape hb with ⟨j, u, rfl, e⟩ | ⟨y, u, rfl, e⟩
      · exact nomatch e
      · injection e with e1 _; rw [e1]
  byValue := fun k v h => by
    rcases keyIs_shape h with ⟨i, t, rfl, rfl⟩ | ⟨x, t, rfl, rfl⟩ <;> rfl
  pyHash := fun hv h => by
    rcases keyIs_shape hv with ⟨i, t, rfl, rfl⟩ | ⟨x, t, rfl, rfl⟩
    · exact wpAny_pyHash_int h
    · exact wpAny_pyHash_str h
  eqBool := fun hu hv h => by
    rcases keyIs_shape hu with ⟨i, t, rfl, rfl⟩ | ⟨x, t, rfl, rfl⟩
    · rcases keyIs_shape hv with ⟨j, u, rfl, rfl⟩ | ⟨y, u, rfl, rfl⟩
      · rw [key_ll] at h; exact wpAny_eqBool_int h
      · rw [key_lr] at h; exact SeqAt.EqAt.int_str i t y u _ _ _ _ h
    · rcases keyIs_shape hv with ⟨j, u, rfl, rfl⟩ | ⟨y, u, rfl, rfl⟩
      · rw [key_rl] at h; exact SeqAt.EqAt.str_int x t j u _ _ _ _ h
      · rw [key_rr] at h; exact wpAny_eqBool_str h
  «strs» := fun k x t v h => by
    rcases keyIs_shape h with ⟨i, u, rfl, e⟩ | ⟨y, u, rfl, e⟩
    · exact nomatch e
    · injection e with e1 _
      subst e1
      cases v <;> rfl

theorem mixKind_int (prog : Program) (w : World) (i : Int) (t : Tok) : (mixKind prog w).is (.inl i) (.int i t) = true := keyIs_int i t
theorem mixKind_str (prog : Program) (w : World) (x : Str) (t : Tok) : (mixKind prog w).is (.inr x) (.str x t) = true := keyIs_str x t
end L2

namespace L2
open PySem PySem.Spec PyProof.Rows

inductive V where
  | non | bl (b : Bool) | int (i : Int) | str (x : Str) | byt (b : Array UInt8) | flt (b : UInt64) | ref (a : Addr) | ty (n : String)
  deriving DecidableEq

def RelV : V → Value → Prop
  | .non, u => u = Value.none
  | .bl b, u => u = Value.bool b
  | .int i, u => ∃ t, u = Value.int i t
  | .str x, u => ∃ t, u = Value.str x t
  | .byt b, u => ∃ t, u = Value.bytes b t
  | .flt b, u => ∃ t, u = Value.float b t
  | .ref a, u => u = Value.ref a
  | .ty n, u => u = Value.type n

abbrev Vals : List V → List Value → Prop := Paired RelV
theorem Vals.length {xs : List V} {us : List Value} (r : Vals xs us) : xs.length = us.length := Paired.length r
theorem Vals.get : ∀ {xs : List V} {us : List Value} {i : Nat} {x : V}, Vals xs us → xs[i]? = some x → ∃ u, us[i]? = some u ∧ RelV x u
  | _, _, _, _, .nil, e => by simp at e
  | _, _, 0, _, .cons r _, e => by simp at e; subst e; exact ⟨_, rfl, r⟩
  | _, _, i + 1, x, .cons _ t, e => by
    obtain ⟨u, h1, h2⟩ := Vals.get (i := i) (x := x) t (by simpa using e)
    exact ⟨u, by simpa using h1, h2⟩
theorem Vals.append : ∀ {xs ys : List V} {us ws : List Value}, Vals xs us → Vals ys ws → Vals (xs ++ ys) (us ++ ws)
  | _, _, _, _, .nil, s => s
  | _, _, _, _, .cons r t, s => .cons r (Vals.append t s)
theorem Vals.take : ∀ {xs : List V} {us : List Value} (n : Nat), Vals xs us → Vals (xs.take n) (us.take n)
  | _, _, 0, _ => .nil
  | _, _, _ + 1, .nil => .nil
  | _, _, n + 1, .cons r t => .cons r (Vals.take n t)
theorem Vals.drop : ∀ {xs : List V} {us : List Value} (n : Nat), Vals xs us → Vals (xs.drop n) (us.drop n)
  | _, _, 0, r => r
  | _, _, _ + 1, .nil => .nil
  | _, _, n + 1, .cons _ t => Vals.drop n t
def RelO : Option V → Option Value → Prop
  | some v, some u => RelV v u
  | none, none => True
  | _, _ => False
def KV {κ : Type} : List (κ × V) → List (κ × Value) → Prop := Paired fun (p : κ × V) (q : κ × Value) => p.1 = q.1 ∧ RelV p.2 q.2

def kV : Key → V
  | .inl i => .int i
  | .inr x => .str x

inductive HO where
  | lst (xs : List V)
  | tup (xs : List V)
  | dK (kvs : List (Key × V)) | dT (kvs : List (List Key × V))
  | set (S : Int → Bool) (n : Nat)
  | ins (C dx : Addr) (fs : List (Str × V))
  | own (x : Addr)
  | xd (fs : List (Str × V))
  | met (f x : Addr)
  | rng (lo hi : Int)
  | frz (o : Obj) (u : HO)
  | tbl (ps : Array Value)
  | ext (φ : Heap → Prop)

abbrev Hp := Addr → Option HO
def upd (H : Hp) (a : Addr) (o : HO) : Hp := fun b => if b = a then some o else H b
theorem upd_same {H : Hp} {a : Addr} {o : HO} : upd H a o a = some o := by unfold upd; rw [if_pos rfl]
theorem upd_ne {H : Hp} {a b : Addr} {o : HO} (h : b ≠ a) : upd H a o b = H b := by unfold upd; rw [if_neg h]
theorem upd_upd {H : Hp} {a : Addr} {o u : HO} : upd (upd H a o) a u = upd H a u := by
  funext b; unfold upd; split <;> rfl
theorem ne_of {H : Hp} {a b : Addr} {o u : HO} (h : H a = some o) (h' : H b = some u) (d : o ≠ u) : a ≠ b := by
  intro e; subst e; rw [h] at h'; exact d (Option.some.inj h')
theorem ne_of_none {H : Hp} {a b : Addr} {o : HO} (h : H a = some o) (h' : H b = none) : a ≠ b := by
  intro e; subst e; rw [h] at h'; cases h'

section
variable (P : Program) (w : World)
def ObjOk (H : Hp) (h : Heap) (a : Addr) : HO → Prop
  | .lst xs => xs.length ≤ sizeLine ∧ ∃ (its : List Value) (n : Nat), Vals xs its ∧ h.get? a = some { cls := .type "list", data := .seq its.toArray n }
  | .tup xs => xs.length ≤ sizeLine ∧ ∃ its : List Value, Vals xs its ∧ IsTup h a its.toArray
  | .dK kvs => kvs.length ≤ sizeLine ∧ (a == sysModules) = false ∧ ∃ vs, KV kvs vs ∧ h.DictOf (mixKind P w) a vs
  | .dT kvs => kvs.length ≤ sizeLine ∧ (a == sysModules) = false ∧ ∃ xs : List (List Key × Addr × Value),
      Paired (fun (p : List Key × V) (q : List Key × Addr × Value) => p.1 = q.1 ∧ H q.2.1 = some (.tup (p.1.map kV)) ∧ RelV p.2 q.2.2) kvs xs ∧
      ∃ o es ep, h.get? a = some o ∧ o.ExactDict ∧ o.data = .dict es ep ∧ es.toList = xs.map (entryOfKey (tupleKind (mixKind P w))) ∧ (xs.map (·.1)).Nodup
  | .set S n => h.SetOf (intKind P w) a S n
  | .ins C dx fs => H dx = some (.own a) ∧ fs.length ≤ 1000 ∧ dx ≠ a ∧ h.get? a = some (PySem.W.instObj C dx) ∧
      ∃ mA, h.Ns1 dx mA ∧ (∀ f, RelO (fs.lookup f) (mA f)) ∧ PySem.Within mA (fs.map (·.1))
  | .own _ => ∃ o, h.get? a = some o
  | .xd fs => ∃ mA, h.Ns1 a mA ∧ ∀ f, RelO (fs.lookup f) (mA f)
  | .rng lo hi => ∃ t u v, h.get? a = some { cls := .type "range", data := .fields #[.int lo t, .int hi u, .int 1 v] }
  | .frz o u => h.get? a = some o ∧ ObjOk H h a u
  | .tbl ps => h.get? a = some { cls := .none, data := .fields ps }
  | .met f x => h.get? a = some (PySem.W.methodObj (.ref f) (.ref x))
  | .ext φ => φ h ∧ (∃ o, h.get? a = some o) ∧ ∀ h1 h2 : Heap, φ h1 → (∀ o, h1.get? a = some o → h2.get? a = some o) → φ h2
def HOk (H : Hp) (h : Heap) : Prop := ∀ a o, H a = some o → ObjOk P w H h a o
end

section
variable {P : Program} {w : World} {H H' : Hp} {h h' : Heap} {a : Addr} {o : HO}
theorem ObjOk.lt (x : ObjOk P w H h a o) : a < h.objs.size := by
  cases o with
  | lst xs => obtain ⟨_, _, _, _, e⟩ := x; exact Heap.lt_size e
  | tup xs => obtain ⟨_, _, _, p⟩ := x; exact p.lt
  | dK kvs => obtain ⟨_, _, _, _, o, _, _, e, _⟩ := x; exact Heap.lt_size e
  | dT kvs => obtain ⟨_, _, _, _, o, _, _, e, _⟩ := x; exact Heap.lt_size e
  | set S n => obtain ⟨o, _, _, _, e, _⟩ := x; exact Heap.lt_size e
  | ins C dx fs => obtain ⟨_, _, _, e, _⟩ := x; exact Heap.lt_size e
  | own y => obtain ⟨_, e⟩ := x; exact Heap.lt_size e
  | xd fs => obtain ⟨_, ⟨_, _, _, e, _⟩, _⟩ := x; exact Heap.lt_size e
  | rng lo hi => obtain ⟨_, _, _, e⟩ := x; exact Heap.lt_size e
  | frz ob u => obtain ⟨e, _⟩ := x; exact Heap.lt_size e
  | tbl ps => exact Heap.lt_size (show h.get? a = some _ from x)
  | met f y => exact Heap.lt_size (show h.get? a = some _ from x)
  | ext φ => obtain ⟨_, ⟨_, e⟩, _⟩ := x; exact Heap.lt_size e
theorem Paired.mapP {α β : Type} {F G : α → β → Prop} : ∀ {l₁ : List α} {l₂ : List β}, Paired F l₁ l₂ → (∀ a b, F a b → G a b) → Paired G l₁ l₂
  | _, _, .nil, _ => .nil
  | _, _, .cons r t, f => .cons (f _ _ r) (Paired.mapP t f)
theorem ObjOk.stay (x : ObjOk P w H h a o) (k : ∀ b u, (b = a ∨ H b = some (.own a)) → h.get? b = some u → h'.get? b = some u)
    (ho : ∀ b, H b = some (.own a) → H' b = some (.own a)) (ht : ∀ b xs, H b = some (.tup xs) → H' b = some (.tup xs)) : ObjOk P w H' h' a o := by
  induction o with
  | lst xs => obtain ⟨z, its, n, r, e⟩ := x; exact ⟨z, its, n, r, k _ _ (.inl rfl) e⟩
  | tup xs => obtain ⟨z, its, r, ob, e, c⟩ := x; exact ⟨z, its, r, ob, k _ _ (.inl rfl) e, c⟩
  | dK kvs => obtain ⟨z, y, vs, r, ob, es, ep, e, c⟩ := x; exact ⟨z, y, vs, r, ob, es, ep, k _ _ (.inl rfl) e, c⟩
  | dT kvs =>
    obtain ⟨z, y, xs, r, ob, es, ep, e, c⟩ := x
    exact ⟨z, y, xs, Paired.mapP r fun p q z => ⟨z.1, ht _ _ z.2.1, z.2.2⟩, ob, es, ep, k _ _ (.inl rfl) e, c⟩
  | set S n => obtain ⟨ob, es, ep, t, e, c⟩ := x; exact ⟨ob, es, ep, t, k _ _ (.inl rfl) e, c⟩
  | ins C dx fs =>
    obtain ⟨d, z, ne, e, mA, ⟨od, es, ep, e2, c⟩, r⟩ := x
    exact ⟨ho _ d, z, ne, k _ _ (.inl rfl) e, mA, ⟨od, es, ep, k _ _ (.inr d) e2, c⟩, r⟩
  | own y => obtain ⟨ob, e⟩ := x; exact ⟨ob, k _ _ (.inl rfl) e⟩
  | xd fs => obtain ⟨mA, ⟨od, es, ep, e, c⟩, r⟩ := x; exact ⟨mA, ⟨od, es, ep, k _ _ (.inl rfl) e, c⟩, r⟩
  | rng lo hi => obtain ⟨t, u, v, e⟩ := x; exact ⟨t, u, v, k _ _ (.inl rfl) e⟩
  | frz ob u ih => obtain ⟨e, q⟩ := x; exact ⟨k _ _ (.inl rfl) e, ih q⟩
  | tbl ps =>
    have e : h.get? a = some { cls := .none, data := .fields ps } := x
    show h'.get? a = some { cls := .none, data := .fields ps }
    exact k a _ (.inl rfl) e
  | met f y =>
    have e : h.get? a = some (PySem.W.methodObj (.ref f) (.ref y)) := x
    show h'.get? a = some (PySem.W.methodObj (.ref f) (.ref y))
    exact k a _ (.inl rfl) e
  | ext φ => obtain ⟨p, ⟨o, e⟩, st⟩ := x; exact ⟨st _ _ p fun o q => k _ _ (.inl rfl) q, ⟨o, k _ _ (.inl rfl) e⟩, st⟩
theorem HOk.lt (x : HOk P w H h) (e : H a = some o) : a < h.objs.size := (x a o e).lt
theorem HOk.fresh (x : HOk P w H h) (e : h.objs.size ≤ a) : H a = none := by
  cases q : H a with
  | none => rfl
  | some u => exact absurd (Nat.lt_of_lt_of_le (x.lt q) e) (Nat.lt_irrefl _)
theorem HOk.kept (x : HOk P w H h) (k : ∀ b u, h.get? b = some u → h'.get? b = some u) : HOk P w H h' := fun a o e =>
  (x a o e).stay (fun b u _ q => k b u q) (fun _ q => q) fun _ _ q => q
theorem HOk.laid (x : HOk P w H h) (k : ∀ b u, h.get? b = some u → h'.get? b = some u) (hp : h.objs.size ≤ a) (new : ObjOk P w (upd H a o) h' a o) : HOk P w (upd H a o) h' := fun b u e => by
  have hn := x.fresh hp
  by_cases hb : b = a
  · subst hb; rw [upd_same] at e; cases e; exact new
  · rw [upd_ne hb] at e
    exact (x b u e).stay (fun c v _ q => k c v q) (fun c q => by rw [upd_ne (ne_of_none q hn)]; exact q) fun c xs q => by rw [upd_ne (ne_of_none q hn)]; exact q
end

def Rd (H : Hp) (a : Addr) (u : HO) : Prop := H a = some u ∨ ∃ o, H a = some (.frz o u)
theorem Rd.ok {P : Program} {w : World} {H : Hp} {h : Heap} {a : Addr} {u : HO} (r : Rd H a u) (x : HOk P w H h) : ObjOk P w H h a u := by
  rcases r with r | ⟨o, r⟩
  · exact x a u r
  · obtain ⟨_, q⟩ := x a _ r
    exact q
def Mut : Option HO → Prop
  | some (.lst _) => True
  | some (.dK _) => True
  | some (.dT _) => True
  | some (.set _ _) => True
  | some (.ins _ _ _) => True
  | some (.ext _) => True
  | _ => False
section
variable {P : Program} {w : World} {H : Hp} {h h' : Heap} {x e : Addr} {o' : HO}
theorem HOk.write (ok : HOk P w H h) (mu : Mut (H x)) (he : e = x ∨ H e = some (.own x)) (k : ∀ b u, b ≠ e → h.get? b = some u → h'.get? b = some u) (heo : ∃ u, h'.get? e = some u)
    (new : ObjOk P w (upd H x o') h' x o') : HOk P w (upd H x o') h' := fun b u q => by
  have nown : ∀ c y, H c = some (.own y) → c ≠ x := fun c y r z => by subst z; rw [r] at mu; exact mu
  have ntup : ∀ c xs, H c = some (.tup xs) → c ≠ x := fun c xs r z => by subst z; rw [r] at mu; exact mu
  by_cases hb : b = x
  · subst hb; rw [upd_same] at q; cases q; exact new
  · rw [upd_ne hb] at q
    by_cases hbe : b = e
    · have q' : H b = some (.own x) := by
        rcases he with z | z
        · exact absurd (hbe.trans z) hb
        · rw [hbe]; exact z
      rw [q] at q'; cases q'
      obtain ⟨v, hv⟩ := heo
      exact ⟨v, by rw [hbe]; exact hv⟩
    · refine (ok b u q).stay (fun c v hc r => k c v ?_ r) (fun c r => by rw [upd_ne (nown c b r)]; exact r) fun c xs r => by rw [upd_ne (ntup c xs r)]; exact r
      rcases hc with rfl | hc
      · exact hbe
      · rintro rfl
        rcases he with z | z
        · exact nown c b hc z
        · rw [hc] at z; cases z; exact hb rfl
end

structure Un (fs ex : List Addr) (H H' : Hp) (h h' : Heap) : Prop where
  keep : ∀ b o, h.get? b = some o → H b = none → b ∉ fs → b ∉ ex → h'.get? b = some o
  slot : ∀ b o, h.get? b = some o → H b = none → b ∈ fs → b ∉ ex → ∃ sl, h'.get? b = some { o with slots := sl }
  free : ∀ b o, h.get? b = some o → H b = none → b ∉ ex → H' b = none
  there : ∀ b o, h.get? b = some o → b ∉ ex → ∃ o', h'.get? b = some o'
  tups : ∀ b xs, H b = some (.tup xs) → H' b = some (.tup xs)
  frzs : ∀ b o u, H b = some (.frz o u) → H' b = some (.frz o u)
  tbls : ∀ b ps, H b = some (.tbl ps) → ∃ more, H' b = some (.tbl (ps ++ more))
section
variable {fs fs' ex ex' : List Addr} {H H1 H2 : Hp} {h h1 h2 h' : Heap} {a x e : Addr} {o : HO}
theorem Un.any (u : Un fs ex H H1 h h1) {b : Addr} {ob : Obj} (q : h.get? b = some ob) (n : H b = none) (hx : b ∉ ex) : ∃ sl, h1.get? b = some { ob with slots := sl } := by
  by_cases hb : b ∈ fs
  · exact u.slot b ob q n hb hx
  · exact ⟨ob.slots, u.keep b ob q n hb hx⟩
theorem Un.kept (k : ∀ b u, h.get? b = some u → h'.get? b = some u) : Un fs ex H H h h' :=
  ⟨fun b ob q _ _ _ => k b ob q, fun b ob q _ _ _ => ⟨ob.slots, k b ob q⟩, fun _ _ _ n _ => n, fun b ob q _ => ⟨ob, k b ob q⟩, fun _ _ q => q, fun _ _ _ q => q, fun _ ps q => ⟨#[], by rw [q]; simp⟩⟩
theorem Un.refl : Un fs ex H H h h := Un.kept fun _ _ q => q
theorem Un.laid (k : ∀ b u, h.get? b = some u → h'.get? b = some u) (hp : h.objs.size ≤ a) (hn : H a = none) : Un fs ex H (upd H a o) h h' where
  keep := fun b u q _ _ _ => k b u q
  slot := fun b u q _ _ _ => ⟨u.slots, k b u q⟩
  free := fun b u q n _ => by rw [upd_ne (Nat.ne_of_lt (Nat.lt_of_lt_of_le (Heap.lt_size q) hp))]; exact n
  there := fun b u q _ => ⟨u, k b u q⟩
  tups := fun b xs q => by rw [upd_ne (ne_of_none q hn)]; exact q
  frzs := fun b u xs q => by rw [upd_ne (ne_of_none q hn)]; exact q
  tbls := fun b ps q => ⟨#[], by rw [upd_ne (ne_of_none q hn), q]; simp⟩
theorem Un.write (mu : Mut (H x)) (he : e = x ∨ H e = some (.own x)) (k : ∀ b u, b ≠ e → h.get? b = some u → h'.get? b = some u) (heo : ∃ u, h'.get? e = some u) : Un fs ex H (upd H x o) h h' := by
  have hx : ∀ b, H b = none → b ≠ x := fun b n z => by subst z; rw [n] at mu; exact mu
  have hb : ∀ b, H b = none → b ≠ e := fun b n z => by
    subst z
    rcases he with r | r
    · exact hx b n r
    · rw [n] at r; cases r
  have hm : ∀ b u, H b = some u → ¬ Mut (some u) → b ≠ x := fun b u q nm z => by subst z; rw [q] at mu; exact nm mu
  refine ⟨fun b u q n _ _ => k b u (hb b n) q, fun b u q n _ _ => ⟨u.slots, k b u (hb b n) q⟩, fun b u q n _ => by rw [upd_ne (hx b n)]; exact n, fun b u q _ => ?_,
    fun b xs q => by rw [upd_ne (hm b _ q fun z => z)]; exact q, fun b u xs q => by rw [upd_ne (hm b _ q fun z => z)]; exact q, fun b ps q => ⟨#[], by rw [upd_ne (hm b _ q fun z => z), q]; simp⟩⟩
  by_cases hbe : b = e
  · subst hbe; exact heo
  · exact ⟨u, k b u hbe q⟩
end

def trk (h : Heap) (H : Hp) : List Addr := (List.range h.objs.size).filter fun a => (H a).isSome
def hidT (h : Heap) (H : Hp) : Heap := PySem.W.hideAll h (trk h H)
theorem hidT_size (h : Heap) (H : Hp) : (hidT h H).objs.size = h.objs.size := PySem.W.hideAll_size _ _
theorem hidT_get {h : Heap} {H : Hp} {b : Addr} {o : Obj} (e : h.get? b = some o) (n : H b = none) : (hidT h H).get? b = some o :=
  PySem.W.hideAll_get _ e fun hm => by
    have q : (H b).isSome = true := (List.mem_filter.mp hm).2
    rw [n] at q; simp at q
theorem of_hidT {h : Heap} {H : Hp} {b : Addr} {o : Obj} (e : (hidT h H).get? b = some o) : h.get? b = some o ∧ H b = none := by
  have e' : h.get? b = some o := PySem.W.of_hideAll (trk h H) e
  refine ⟨e', ?_⟩
  cases q : H b with
  | none => rfl
  | some x =>
    have hm : b ∈ trk h H := List.mem_filter.mpr ⟨List.mem_range.mpr (Heap.lt_size e'), by simp [q]⟩
    have z : (hidT h H).get? b = none := PySem.W.hideAll_none (trk h H) hm
    rw [z] at e; cases e

end L2

namespace L2
open PySem PySem.Spec PyProof.Rows

structure Mod (K : PySem.W.Frag) (mg : Str → Option Value) (base : Heap) : Prop where
  kin : K.In base
  glob : base.Ns mainGlobals mg
  blt : ∃ mb, base.Ns builtinsNs mb ∧ ∀ x : Str, x ≠ "__name__" → mb x = bootBuiltins x
  nolimit : base.NoLimit

structure Cx where
  prog : Program
  w : World
  K : PySem.W.Frag
  mg : Str → Option Value
  base : Heap
  A : Around
  N : List Str
  s₀ : Shared
  H₀ : Hp
  env : Env
  outer : List Env
  stack : List Env
  ex : List Addr
  fn : Str → Bool
  calm : Bool
  pn : List (Addr × Obj)
  xe : Value → Shared → Prop
def frs (l : List Env) : List Addr := l.filterMap (·.frame)
abbrev Cx.fs (X : Cx) : List Addr := frs X.outer

def Vis (sc : Scope) (x : Str) : Prop := sc.names.lookup x = some .local ∨ sc.names.lookup x = some .cell ∨ sc.names.lookup x = some .free
def Loc (sc : Scope) (x : Str) : Prop := sc.names.lookup x = some .local ∨ sc.names.lookup x = some .cell
def Look (env : Env) (h : Heap) (m : Str → Option Value) (x : Str) (u : Value) : Prop :=
  (env.kindOf x = some .local ∧ m x = some u) ∨ ((env.kindOf x = some .cell ∨ env.kindOf x = some .free) ∧ ∃ c, env.cells.lookup x = some c ∧ h.IsCell c (some u))

structure Cx.Ok (X : Cx) : Prop where
  mod : Mod X.K X.mg X.base
  kind : X.env.scope.kind = .function
  glob : X.env.globals = mainGlobals
  blt : X.env.builtins = builtinsNs
  above : X.s₀.heap.objs.size ≤ X.env.locals
  inj : ∀ x y c, X.env.cells.lookup x = some c → X.env.cells.lookup y = some c → x = y
  has : ∀ x, (X.env.kindOf x = some .cell ∨ X.env.kindOf x = some .free) → ∃ c, X.env.cells.lookup x = some c
  cab : ∀ x c, X.fn x = true → X.env.cells.lookup x = some c → X.s₀.heap.objs.size ≤ c
  hd : X.calm = true → X.A.handled = none
  frames : X.A.frames = some X.stack
  stk : X.stack = X.outer ∨ (X.stack = X.env :: X.outer ∧ X.env.frame = some X.env.locals)
  exf : ∀ b ∈ X.ex, b ≠ X.env.locals ∧ ∀ x c, X.env.cells.lookup x = some c → c ≠ b
  bs : ∀ b o, X.base.get? b = some o → X.s₀.heap.get? b = some o ∧ X.H₀ b = none
  bsz : X.base.objs.size ≤ X.s₀.heap.objs.size
  noex : ∀ b o, X.base.get? b = some o → b ∉ X.ex
  exfs : ∀ b ∈ X.ex, b ∉ X.fs
  funs : X.s₀.heap.FunFrames X.base X.outer
  frf : ∀ b ∈ X.fs, X.H₀ b = none

structure Inv (X : Cx) (pins : List (Addr × Obj)) (σ : List (Option V)) (H : Hp) (s : Shared) : Prop where
  ok : X.Ok
  os : s.os = X.s₀.os
  bare : AllBare s.gens
  base : Un X.fs X.ex X.H₀ H X.s₀.heap s.heap
  loc : ∃ m, s.heap.Ns X.env.locals m ∧ ∀ (i : Nat) (x : Str) (v : V), X.N[i]? = some x → σ[i]? = some (some v) → Vis X.env.scope x → ∃ u, RelV v u ∧ Look X.env s.heap m x u
  cell : ∀ x c, X.env.cells.lookup x = some c → ∃ v, s.heap.IsCell c v
  free : H X.env.locals = none
  freeC : ∀ x c, X.env.cells.lookup x = some c → H c = none
  pin : ∀ p ∈ X.pn ++ pins, s.heap.get? p.1 = some p.2 ∧ H p.1 = none ∧ p.1 ≠ X.env.locals ∧ p.1 ∉ X.fs ∧ ∀ v, p.2.data ≠ .cell v
  hok : HOk X.prog X.w H s.heap
  len : σ.length = X.N.length

section
variable {X : Cx} {pins : List (Addr × Obj)} {σ : List (Option V)} {H H' : Hp} {s : Shared} {h' : Heap}

theorem Cx.Ok.nofr (ok : X.Ok) {b : Addr} {o : Obj} (e : X.base.get? b = some o) : b ∉ X.fs := fun hb => by
  have := (ok.funs.mem hb).1
  rw [e] at this; cases this
theorem Inv.bs (I : Inv X pins σ H s) : ∀ b o, X.base.get? b = some o → s.heap.get? b = some o ∧ H b = none := fun b o e =>
  ⟨I.base.keep b o (I.ok.bs b o e).1 (I.ok.bs b o e).2 (I.ok.nofr e) (I.ok.noex b o e), I.base.free b o (I.ok.bs b o e).1 (I.ok.bs b o e).2 (I.ok.noex b o e)⟩
theorem Inv.bk (I : Inv X pins σ H s) : ∀ b o, X.base.get? b = some o → s.heap.get? b = some o := fun b o e => (I.bs b o e).1
theorem Inv.mod (I : Inv X pins σ H s) : Mod X.K X.mg X.base := I.ok.mod
theorem Inv.kIn (I : Inv X pins σ H s) : X.K.In s.heap := I.ok.mod.kin.keeps I.bk
theorem Inv.lt (I : Inv X pins σ H s) : X.env.locals < s.heap.objs.size := let ⟨_, hn, _⟩ := I.loc; hn.lt
theorem Inv.sz (I : Inv X pins σ H s) : X.s₀.heap.objs.size ≤ s.heap.objs.size := Nat.le_trans I.ok.above (Nat.le_of_lt I.lt)
theorem Inv.nofs (I : Inv X pins σ H s) {a : Addr} (h : s.heap.objs.size ≤ a) : a ∉ X.fs := fun hb => by
  obtain ⟨_, o, ho, _⟩ := I.ok.funs.mem hb
  exact absurd (Nat.lt_of_lt_of_le (Heap.lt_size ho) (Nat.le_trans I.sz h)) (Nat.lt_irrefl _)
theorem Inv.cne (I : Inv X pins σ H s) : ∀ x c, X.env.cells.lookup x = some c → c ≠ X.env.locals := fun x c e z => by
  obtain ⟨v, o, ho, hd⟩ := I.cell x c e
  obtain ⟨m, ⟨o', es, ep, ho', hd', _⟩, _⟩ := I.loc
  rw [z, ho'] at ho; cases ho; rw [hd'] at hd; cases hd
theorem Inv.funs (I : Inv X pins σ H s) : s.heap.FunFrames X.base X.outer := by
  have all : ∀ (l : List Env), (∀ b ∈ frs l, b ∈ X.fs) → X.s₀.heap.FunFrames X.base l → s.heap.FunFrames X.base l := by
    intro l
    induction l with
    | nil => intro _ _; trivial
    | cons env r ih =>
      intro hs hl
      obtain ⟨hk, ⟨L, o, hf, hn, ho, hd⟩, hr⟩ := hl
      have hL : L ∈ X.fs := hs L (by unfold frs; rw [List.filterMap_cons, hf]; exact List.mem_cons_self)
      obtain ⟨sl, e⟩ := I.base.slot L o ho (I.ok.frf L hL) hL fun z => I.ok.exfs L z hL
      exact ⟨hk, ⟨L, _, hf, hn, e, hd⟩, ih (fun b hb => hs b (by unfold frs; rw [List.filterMap_cons, hf]; exact List.mem_cons_of_mem _ hb)) hr⟩
  exact all X.outer (fun _ hb => hb) I.ok.funs

theorem Inv.stack (I : Inv X pins σ H s) : s.heap.FunFrames X.base X.stack := by
  rcases I.ok.stk with e | ⟨e, hf⟩
  · rw [e]; exact I.funs
  · rw [e]
    obtain ⟨m, hn, _⟩ := I.loc
    refine .cons (by rw [I.ok.kind]; decide) hf hn ?_ I.funs
    exact Heap.get?_none_of_le (Nat.le_trans I.ok.bsz I.ok.above)
theorem Inv.stkSub (I : Inv X pins σ H s) : ∀ b ∈ frs X.stack, b ∈ X.env.locals :: X.fs := fun b hb => by
  rcases I.ok.stk with e | ⟨e, hf⟩
  · rw [e] at hb; exact List.mem_cons_of_mem _ hb
  · rw [e] at hb
    unfold frs at hb
    rw [List.filterMap_cons, hf] at hb
    exact hb
theorem Inv.stkFree (I : Inv X pins σ H s) : ∀ b ∈ frs X.stack, H b = none := fun b hb => by
  rcases List.mem_cons.mp (I.stkSub b hb) with e | hb
  · rw [e]; exact I.free
  · obtain ⟨_, o, ho, _⟩ := I.ok.funs.mem hb
    exact I.base.free b o ho (I.ok.frf b hb) fun z => I.ok.exfs b z hb

theorem Inv.step {g' : Array GenState} {t' : Nat} {d' : Drawn} {ch : List Addr} (I : Inv X pins σ H s)
    (hch : ∀ b ∈ ch, (b ∈ X.ex ∨ X.s₀.heap.objs.size ≤ b) ∧ b ≠ X.env.locals ∧ (∀ x c, X.env.cells.lookup x = some c → c ≠ b) ∧ ∀ p ∈ X.pn ++ pins, p.1 ≠ b)
    (keep : ∀ b o, b ≠ X.env.locals → b ∉ X.fs → b ∉ ch → s.heap.get? b = some o → H b = none → h'.get? b = some o)
    (slot : ∀ b o, b ≠ X.env.locals → b ∈ X.fs → b ∉ ch → s.heap.get? b = some o → H b = none → ∃ sl, h'.get? b = some { o with slots := sl }) (free : ∀ b o, b ∉ ch → s.heap.get? b = some o → H b = none → H' b = none)
    (there : ∀ b o, b ∉ ch → s.heap.get? b = some o → ∃ o', h'.get? b = some o')
    (tups : ∀ b xs, H b = some (.tup xs) → H' b = some (.tup xs)) (frzs : ∀ b o u, H b = some (.frz o u) → H' b = some (.frz o u)) (tbls : ∀ b ps, H b = some (.tbl ps) → ∃ more, H' b = some (.tbl (ps ++ more)))
    (ns : ∀ m, s.heap.Ns X.env.locals m → h'.Ns X.env.locals m) (hok : HOk X.prog X.w H' h') (hg : AllBare g') :
    Inv X pins σ H' { s with heap := h', gens := g', drawn := d', toks := t' } := by
  have neL : ∀ b o, X.s₀.heap.get? b = some o → b ≠ X.env.locals := fun b o e => Nat.ne_of_lt (Nat.lt_of_lt_of_le (Heap.lt_size e) I.ok.above)
  have neC : ∀ b o, X.s₀.heap.get? b = some o → b ∉ X.ex → b ∉ ch := fun b o e hx hb => by
    rcases (hch b hb).1 with z | z
    · exact hx z
    · exact absurd (Nat.lt_of_lt_of_le (Heap.lt_size e) z) (Nat.lt_irrefl _)
  have cellK : ∀ x c, X.env.cells.lookup x = some c → ∀ v, s.heap.IsCell c v → h'.IsCell c v := fun x c e v ⟨o, ho, hd⟩ => by
    have nch : c ∉ ch := fun z => (hch c z).2.2.1 x c e rfl
    by_cases hc : c ∈ X.fs
    · obtain ⟨sl, q⟩ := slot c o (I.cne x c e) hc nch ho (I.freeC x c e)
      exact ⟨_, q, hd⟩
    · exact ⟨o, keep c o (I.cne x c e) hc nch ho (I.freeC x c e), hd⟩
  refine ⟨I.ok, I.os, hg, ⟨fun b o e n hb hx => ?_, fun b o e n hb hx => ?_, fun b o e n hx => ?_, fun b o e hx => ?_, fun b xs e => tups b xs (I.base.tups b xs e), fun b o xs e => frzs b o xs (I.base.frzs b o xs e), fun b ps e => ?_⟩, ?_, fun x c e => ?_, ?_, fun x c e => ?_, fun p hp => ?_, hok, I.len⟩
  · exact keep b o (neL b o e) hb (neC b o e hx) (I.base.keep b o e n hb hx) (I.base.free b o e n hx)
  · obtain ⟨sl, e1⟩ := I.base.slot b o e n hb hx
    obtain ⟨sl', e2⟩ := slot b _ (neL b o e) hb (neC b o e hx) e1 (I.base.free b o e n hx)
    exact ⟨sl', e2⟩
  · obtain ⟨o', e1⟩ := I.base.there b o e hx
    exact free b o' (neC b o e hx) e1 (I.base.free b o e n hx)
  · obtain ⟨o', e1⟩ := I.base.there b o e hx
    exact there b o' (neC b o e hx) e1
  · obtain ⟨m1, e1⟩ := I.base.tbls b ps e
    obtain ⟨m2, e2⟩ := tbls b _ e1
    exact ⟨m1 ++ m2, by rw [e2, Array.append_assoc]⟩
  · obtain ⟨m, hn, hl⟩ := I.loc
    refine ⟨m, ns m hn, fun i x v e1 e2 e3 => ?_⟩
    obtain ⟨u, r, l⟩ := hl i x v e1 e2 e3
    refine ⟨u, r, ?_⟩
    rcases l with l | ⟨k, c, e, z⟩
    · exact .inl l
    · exact .inr ⟨k, c, e, cellK x c e _ z⟩
  · obtain ⟨v, z⟩ := I.cell x c e
    exact ⟨v, cellK x c e v z⟩
  · obtain ⟨m, ⟨o, _, _, ho, _⟩, _⟩ := I.loc
    exact free _ o (fun z => (hch _ z).2.1 rfl) ho I.free
  · obtain ⟨v, o, ho, hd⟩ := I.cell x c e
    exact free c o (fun z => (hch c z).2.2.1 x c e rfl) ho (I.freeC x c e)
  · obtain ⟨e, n, ne, nf, d⟩ := I.pin p hp
    have nch : p.1 ∉ ch := fun z => (hch p.1 z).2.2.2 p hp rfl
    exact ⟨keep p.1 p.2 ne nf nch e n, free p.1 p.2 nch e n, ne, nf, d⟩
theorem Inv.un {t' : Nat} (I : Inv X pins σ H s) (u : Un X.fs [] H H' s.heap h') (hok : HOk X.prog X.w H' h') : Inv X pins σ H' { s with heap := h', toks := t' } := by
  obtain ⟨m, ⟨o, es, ep, ho, r⟩, _⟩ := id I.loc
  obtain ⟨sl, hL⟩ := u.any ho I.free (by simp)
  exact I.step (g' := s.gens) (d' := s.drawn) (ch := []) (fun _ z => nomatch z) (fun b o _ hb _ e n => u.keep b o e n hb (by simp)) (fun b o _ hb _ e n => u.slot b o e n hb (by simp)) (fun b o _ e n => u.free b o e n (by simp)) (fun b o _ e => u.there b o e (by simp)) u.tups u.frzs u.tbls (fun m' hm => by
    obtain ⟨o', es', ep', ho', r'⟩ := hm
    rw [ho] at ho'; cases ho'
    exact ⟨_, es', ep', hL, r'⟩) hok I.bare
theorem Inv.call {g' : Array GenState} {t' : Nat} {d' : Drawn} {ch : List Addr} (I : Inv X pins σ H s) (u : Un (frs X.stack) ch H H' s.heap h') (hok : HOk X.prog X.w H' h') (hg : AllBare g')
    (hch : ∀ b ∈ ch, (b ∈ X.ex ∨ X.s₀.heap.objs.size ≤ b) ∧ b ≠ X.env.locals ∧ (∀ x c, X.env.cells.lookup x = some c → c ≠ b) ∧ ∀ p ∈ X.pn ++ pins, p.1 ≠ b) :
    Inv X pins σ H' { s with heap := h', gens := g', drawn := d', toks := t' } := by
  obtain ⟨m, ⟨o, es, ep, ho, r⟩, _⟩ := id I.loc
  obtain ⟨sl, hL⟩ := u.any ho I.free fun z => (hch _ z).2.1 rfl
  exact I.step (ch := ch) hch (fun b o hL hb hc e n => u.keep b o e n (fun z => (List.mem_cons.mp (I.stkSub b z)).elim hL hb) hc) (fun b o _ _ hc e n => u.any e n hc) (fun b o hc e n => u.free b o e n hc) (fun b o hc e => u.there b o e hc) u.tups u.frzs u.tbls (fun m' hm => by
    obtain ⟨o', es', ep', ho', r'⟩ := hm
    rw [ho] at ho'; cases ho'
    exact ⟨_, es', ep', hL, r'⟩) hok hg
theorem Inv.turned {t' : Nat} {it : Addr} (I : Inv X pins σ H s) (k : ∀ b o, b ≠ it → s.heap.get? b = some o → h'.get? b = some o) (hn : H it = none) (hL : it ≠ X.env.locals)
    (h1 : it ∈ X.ex ∨ X.s₀.heap.objs.size ≤ it) (h2 : ∀ x c, X.env.cells.lookup x = some c → c ≠ it) (h3 : ∀ p ∈ X.pn ++ pins, p.1 ≠ it) : Inv X pins σ H { s with heap := h', toks := t' } := by
  have nit : ∀ b u, H b = some u → b ≠ it := fun b u e z => by rw [z, hn] at e; cases e
  refine I.step (g' := s.gens) (d' := s.drawn) (ch := [it]) (fun b hb => ?_) (fun b o _ _ hc e _ => k b o (fun z => hc (by simp [z])) e) (fun b o _ _ hc e _ => ⟨o.slots, k b o (fun z => hc (by simp [z])) e⟩) (fun _ _ _ _ n => n)
    (fun b o hc e => ⟨o, k b o (fun z => hc (by simp [z])) e⟩) (fun _ _ e => e) (fun _ _ _ e => e) (fun b ps e => ⟨#[], by rw [e]; simp⟩) (fun m hm => ?_) (fun b u e => ?_) I.bare
  · have e : b = it := by simpa using hb
    subst e
    exact ⟨h1, hL, h2, h3⟩
  · obtain ⟨o, es, ep, ho, r⟩ := hm
    exact ⟨o, es, ep, k _ o (Ne.symm hL) ho, r⟩
  · refine (I.hok b u e).stay (fun c v hc q => k c v ?_ q) (fun _ q => q) fun _ _ q => q
    rcases hc with z | z
    · rw [z]; exact nit b u e
    · exact nit c _ z
theorem Inv.tok (I : Inv X pins σ H s) (t : Nat) : Inv X pins σ H { s with toks := t } := I.un (h' := s.heap) (t' := t) Un.refl I.hok
theorem Inv.kept {t' : Nat} (I : Inv X pins σ H s) (k : ∀ b u, s.heap.get? b = some u → h'.get? b = some u) : Inv X pins σ H { s with heap := h', toks := t' } := I.un (Un.kept k) (I.hok.kept k)
theorem Inv.laid {a : Addr} {o : HO} {t' : Nat} (I : Inv X pins σ H s) (k : ∀ b u, s.heap.get? b = some u → h'.get? b = some u) (hp : s.heap.objs.size ≤ a) (new : ObjOk X.prog X.w (upd H a o) h' a o) :
    Inv X pins σ (upd H a o) { s with heap := h', toks := t' } := I.un (Un.laid k hp (I.hok.fresh hp)) (I.hok.laid k hp new)
theorem Inv.write {x e : Addr} {o : HO} {t' : Nat} (I : Inv X pins σ H s) (mu : Mut (H x)) (he : e = x ∨ H e = some (.own x)) (k : ∀ b u, b ≠ e → s.heap.get? b = some u → h'.get? b = some u) (heo : ∃ u, h'.get? e = some u)
    (new : ObjOk X.prog X.w (upd H x o) h' x o) : Inv X pins σ (upd H x o) { s with heap := h', toks := t' } := I.un (Un.write mu he k heo) (I.hok.write mu he k heo new)
theorem Inv.weak {σ' : List (Option V)} (I : Inv X pins σ H s) (hl : σ'.length = σ.length) (w : ∀ (i : Nat) v, σ'[i]? = some (some v) → σ[i]? = some (some v)) : Inv X pins σ' H s :=
  ⟨I.ok, I.os, I.bare, I.base, let ⟨m, hn, hl'⟩ := I.loc; ⟨m, hn, fun i x v e1 e2 e3 => hl' i x v e1 (w i v e2) e3⟩, I.cell, I.free, I.freeC, I.pin, I.hok, hl.trans I.len⟩
theorem Inv.pins_of {pins' : List (Addr × Obj)} (I : Inv X pins σ H s) (h : ∀ p ∈ pins', s.heap.get? p.1 = some p.2 ∧ H p.1 = none ∧ p.1 ≠ X.env.locals ∧ p.1 ∉ X.fs ∧ ∀ v, p.2.data ≠ .cell v) : Inv X pins' σ H s :=
  ⟨I.ok, I.os, I.bare, I.base, I.loc, I.cell, I.free, I.freeC, fun p hp => (List.mem_append.mp hp).elim (fun z => I.pin p (List.mem_append_left _ z)) (h p), I.hok, I.len⟩

theorem nodup_ix {N : List Str} (hN : N.Nodup) {i j : Nat} {x : Str} (a : N[i]? = some x) (b : N[j]? = some x) : i = j := by
  obtain ⟨h1, e1⟩ := List.getElem?_eq_some_iff.mp a
  obtain ⟨h2, e2⟩ := List.getElem?_eq_some_iff.mp b
  exact (List.getElem_inj hN).mp (e1.trans e2.symm)

theorem store_ok2 {M : Model} {A : Around} {E : Value → Shared → Prop} {i : Nat} {x : Str} {v : V} {u : Value} {Q : Unit → Shared → Prop} (I : Inv X pins σ H s) (hN : X.N.Nodup) (hi : X.N[i]? = some x) (hx : Loc X.env.scope x) (r : RelV v u)
    (h : ∀ s', Inv X pins (σ.set i (some v)) H s' → (∃ a, Heap.SameBut a s.heap s'.heap ∧ (a = X.env.locals ∨ X.env.cells.lookup x = some a)) → Q () s') (hf : X.fn x = true ∨ X.env.scope.names.lookup x = some .local := by first | exact .inl rfl | exact .inr rfl | assumption) : wpAny M A (storeName X.env x u) Q E s := by
  obtain ⟨m, hn, hl⟩ := id I.loc
  have hcls : (X.env.scope.kind == .class || (X.env.scope.kind == .module && X.env.locals != X.env.globals)) = false := by rw [I.ok.kind]; rfl
  have hiσ : i < σ.length := by rw [I.len]; exact (List.getElem?_eq_some_iff.mp hi).1
  have cne := I.cne
  have tracked : ∀ {a : Addr} {h' : Heap}, (∃ o, s.heap.get? a = some o ∧ H a = none) → Heap.SameBut a s.heap h' → HOk X.prog X.w H h' := fun {a h'} ha hs b ob e => by
    obtain ⟨_, _, hfree⟩ := ha
    refine (I.hok b ob e).stay (fun c w' hc q => (hs.2 c ?_).trans q) (fun _ q => q) fun _ _ q => q
    rintro rfl
    rcases hc with rfl | hc
    · rw [hfree] at e; cases e
    · rw [hfree] at hc; cases hc
  rcases hx with hk | hk
  · refine wpAny_storeName_local hk hn (fun h' hn' hs => ?_) hcls
    obtain ⟨oL, _, _, hoL, _⟩ := id hn
    refine h _ ⟨I.ok, I.os, I.bare, ⟨fun b o e n hb hx => ?_, fun b o e n hb hx => ?_, I.base.free, fun b o e hx => ?_, I.base.tups, I.base.frzs, I.base.tbls⟩, ⟨_, hn', fun j y v' e1 e2 e3 => ?_⟩, fun y c e => ?_, I.free, I.freeC, fun p hp => ?_, tracked ⟨oL, hoL, I.free⟩ hs, by simpa using I.len⟩ ⟨_, hs, .inl rfl⟩
    · exact (hs.2 b (Nat.ne_of_lt (Nat.lt_of_lt_of_le (Heap.lt_size e) I.ok.above))).trans (I.base.keep b o e n hb hx)
    · obtain ⟨sl, e1⟩ := I.base.slot b o e n hb hx
      exact ⟨sl, (hs.2 b (Nat.ne_of_lt (Nat.lt_of_lt_of_le (Heap.lt_size e) I.ok.above))).trans e1⟩
    · obtain ⟨o', e1⟩ := I.base.there b o e hx
      exact ⟨o', (hs.2 b (Nat.ne_of_lt (Nat.lt_of_lt_of_le (Heap.lt_size e) I.ok.above))).trans e1⟩
    · by_cases hj : j = i
      · subst hj
        rw [hi] at e1; cases e1
        rw [List.getElem?_set_self hiσ] at e2
        cases e2
        exact ⟨u, r, .inl ⟨hk, by simp⟩⟩
      · rw [List.getElem?_set_ne (Ne.symm hj)] at e2
        obtain ⟨u', r', q⟩ := hl j y v' e1 e2 e3
        refine ⟨u', r', ?_⟩
        rcases q with ⟨k, e⟩ | ⟨k, c, e, z⟩
        · refine .inl ⟨k, ?_⟩
          have : y ≠ x := fun e => hj (nodup_ix hN e1 (e ▸ hi))
          simp [this, e]
        · exact .inr ⟨k, c, e, z.sameBut hs (cne y c e)⟩
    · obtain ⟨w', z⟩ := I.cell y c e
      exact ⟨w', z.sameBut hs (cne y c e)⟩
    · obtain ⟨e, n, ne, nf, d⟩ := I.pin p hp
      exact ⟨(hs.2 p.1 ne).trans e, n, ne, nf, d⟩
  · have hfn : X.fn x = true := by
      rcases hf with z | z
      · exact z
      · rw [z] at hk; cases hk
    obtain ⟨c, hc⟩ := I.ok.has x (.inl hk)
    obtain ⟨w', z⟩ := I.cell x c hc
    refine wpAny_storeName_cell I.ok.kind hk hc z (fun h' hc' hs => ?_)
    obtain ⟨oc, hoc, hocd⟩ := id z
    refine h { s with heap := h' } ⟨I.ok, I.os, I.bare, ⟨fun b o e n hb hx => ?_, fun b o e n hb hx => ?_, I.base.free, fun b o e hx => ?_, I.base.tups, I.base.frzs, I.base.tbls⟩, ⟨m, hn.sameBut hs (Ne.symm (cne x c hc)), fun j y v' e1 e2 e3 => ?_⟩, fun y c' e => ?_, I.free, I.freeC, fun p hp => ?_, tracked ⟨oc, hoc, I.freeC x c hc⟩ hs, by simpa using I.len⟩ ⟨c, hs, .inr hc⟩
    · exact (hs.2 b (Nat.ne_of_lt (Nat.lt_of_lt_of_le (Heap.lt_size e) (I.ok.cab x c hfn hc)))).trans (I.base.keep b o e n hb hx)
    · obtain ⟨sl, e1⟩ := I.base.slot b o e n hb hx
      exact ⟨sl, (hs.2 b (Nat.ne_of_lt (Nat.lt_of_lt_of_le (Heap.lt_size e) (I.ok.cab x c hfn hc)))).trans e1⟩
    · obtain ⟨o', e1⟩ := I.base.there b o e hx
      exact ⟨o', (hs.2 b (Nat.ne_of_lt (Nat.lt_of_lt_of_le (Heap.lt_size e) (I.ok.cab x c hfn hc)))).trans e1⟩
    · by_cases hj : j = i
      · subst hj
        rw [hi] at e1; cases e1
        rw [List.getElem?_set_self hiσ] at e2
        cases e2
        exact ⟨u, r, .inr ⟨.inl hk, c, hc, hc'⟩⟩
      · rw [List.getElem?_set_ne (Ne.symm hj)] at e2
        obtain ⟨u', r', q⟩ := hl j y v' e1 e2 e3
        refine ⟨u', r', ?_⟩
        rcases q with q | ⟨k, c', e, z'⟩
        · exact .inl q
        · refine .inr ⟨k, c', e, z'.sameBut hs ?_⟩
          rintro rfl
          exact hj (nodup_ix hN e1 (I.ok.inj _ _ _ e hc ▸ hi))
    · by_cases hcc : c' = c
      · subst hcc; exact ⟨_, hc'⟩
      · obtain ⟨w2, z2⟩ := I.cell y c' e
        exact ⟨w2, z2.sameBut hs hcc⟩
    · obtain ⟨e, n, ne, nf, d⟩ := I.pin p hp
      refine ⟨(hs.2 p.1 ?_).trans e, n, ne, nf, d⟩
      intro q
      rw [q, hoc] at e
      have q' : oc = p.2 := Option.some.inj e
      exact d w' (by rw [← q']; exact hocd)
theorem store_ok {M : Model} {A : Around} {E : Value → Shared → Prop} {i : Nat} {x : Str} {v : V} {u : Value} {Q : Unit → Shared → Prop} (I : Inv X pins σ H s) (hN : X.N.Nodup) (hi : X.N[i]? = some x) (hx : Loc X.env.scope x) (r : RelV v u)
    (h : ∀ s', Inv X pins (σ.set i (some v)) H s' → Q () s') (hf : X.fn x = true ∨ X.env.scope.names.lookup x = some .local := by first | exact .inl rfl | exact .inr rfl | assumption) : wpAny M A (storeName X.env x u) Q E s :=
  store_ok2 I hN hi hx r (fun s' I' _ => h s' I') hf
theorem Inv.call' {s' : Shared} {ch : List Addr} (I : Inv X pins σ H s) (ho : s'.os = s.os) (u : Un (frs X.stack) ch H H' s.heap s'.heap) (hok : HOk X.prog X.w H' s'.heap) (hg : AllBare s'.gens)
    (hch : ∀ b ∈ ch, (b ∈ X.ex ∨ X.s₀.heap.objs.size ≤ b) ∧ b ≠ X.env.locals ∧ (∀ x c, X.env.cells.lookup x = some c → c ≠ b) ∧ ∀ p ∈ X.pn ++ pins, p.1 ≠ b) : Inv X pins σ H' s' := by
  obtain ⟨h', g', d', t', o'⟩ := s'
  have e : o' = s.os := ho
  subst e
  exact I.call (g' := g') (t' := t') (d' := d') u hok hg hch
end

abbrev XK := Value → Option Addr → Hp → Prop
abbrev St := List (Option V)
abbrev VK := V → Hp → Prop
abbrev TE := St → Hp → VK → Prop
abbrev TT := St → Hp → (Bool → Hp → Prop) → Prop
abbrev TA := St → Hp → (List V → Hp → Prop) → Prop
structure Ends where
  nx : St → Hp → Prop
  rt : VK
  bk : St → Hp → Prop := fun _ _ => False
  ct : St → Hp → Prop := fun _ _ => False
abbrev TS := Ends → St → Hp → Prop

def EP (X : Cx) (pins : List (Addr × Obj)) (σ : St) (Q : VK) (u : Value) (s' : Shared) : Prop := ∃ v H', Inv X pins σ H' s' ∧ RelV v u ∧ Q v H'
def TP (X : Cx) (pins : List (Addr × Obj)) (σ : St) (Q : Bool → Hp → Prop) (b : Bool) (s' : Shared) : Prop := ∃ H', Inv X pins σ H' s' ∧ Q b H'
def AP (X : Cx) (pins : List (Addr × Obj)) (σ : St) (Q : List V → Hp → Prop) (us : List Value) (s' : Shared) : Prop := ∃ vs H', Inv X pins σ H' s' ∧ Vals vs us ∧ Q vs H'
def SP (X : Cx) (pins : List (Addr × Obj)) (D : Ends) (f : Flow) (s' : Shared) : Prop :=
  match f with
  | .next => ∃ σ' H', Inv X pins σ' H' s' ∧ D.nx σ' H'
  | .brk => ∃ σ' H', Inv X pins σ' H' s' ∧ D.bk σ' H'
  | .cont => ∃ σ' H', Inv X pins σ' H' s' ∧ D.ct σ' H'
  | .ret u => ∃ v σ' H', Inv X pins σ' H' s' ∧ RelV v u ∧ D.rt v H'

def PE (X : Cx) (e : Expr) (t : TE) : Prop :=
  ∀ (pins : List (Addr × Obj)) (s : Shared) (σ : St) (H : Hp) (Q : VK), Inv X pins σ H s → t σ H Q → wpAny (model X.prog X.w) X.A (eval e X.env) (EP X pins σ Q) X.xe s
def PT (X : Cx) (e : Expr) (t : TT) : Prop :=
  ∀ (pins : List (Addr × Obj)) (s : Shared) (σ : St) (H : Hp) (Q : Bool → Hp → Prop), Inv X pins σ H s → t σ H Q → wpAny (model X.prog X.w) X.A (isTrue e X.env (eval e X.env)) (TP X pins σ Q) X.xe s
def PW (X : Cx) (e : Expr) (t : TT) : Prop :=
  ∀ (whole : Sem Value) (pins : List (Addr × Obj)) (s : Shared) (σ : St) (H : Hp) (Q : Bool → Hp → Prop), Inv X pins σ H s → t σ H Q → wpAny (model X.prog X.w) X.A (isTrue e X.env whole) (TP X pins σ Q) X.xe s
theorem PW.pt {X : Cx} {e : Expr} {t : TT} (h : PW X e t) : PT X e t := h _
def PA (X : Cx) (es : List Expr) (t : TA) : Prop :=
  ∀ (pos : Pos) (pins : List (Addr × Obj)) (s : Shared) (σ : St) (H : Hp) (Q : List V → Hp → Prop), Inv X pins σ H s → t σ H Q → wpAny (model X.prog X.w) X.A (spliced (backTo pos (starEach es X.env))) (AP X pins σ Q) X.xe s
def PS (X : Cx) (st : Stmt) (t : TS) : Prop :=
  ∀ (pins : List (Addr × Obj)) (s : Shared) (σ : St) (H : Hp) (D : Ends), Inv X pins σ H s → t D σ H → wpAny (model X.prog X.w) X.A (exec st X.env) (SP X pins D) X.xe s
def PSs (X : Cx) (st : List Stmt) (t : TS) : Prop :=
  ∀ (pins : List (Addr × Obj)) (s : Shared) (σ : St) (H : Hp) (D : Ends), Inv X pins σ H s → t D σ H → wpAny (model X.prog X.w) X.A (execs st X.env) (SP X pins D) X.xe s
theorem thn {α : Type} {t : Sem α} {Q Q' : α → Shared → Prop} {M : Model} {A : Around} {E : Value → Shared → Prop} {s : Shared} (h : wpAny M A t Q E s) (hQ : ∀ a s, Q a s → Q' a s) : wpAny M A t Q' E s := wpAny_mono h hQ fun _ _ x => x
end L2

namespace L2
open PySem PySem.Spec PyProof.Rows
section
variable {X : Cx}

def tVar (i : Nat) : TE := fun σ H Q => ∃ v, σ[i]? = some (some v) ∧ Q v H
def tC (v : V) : TE := fun _ H Q => Q v H
theorem pe_var {i : Nat} {x : Str} {pos : Pos} (hN : X.N[i]? = some x) (hv : Vis X.env.scope x) (hd : (x == ("__debug__" : Str)) = false := by decide) (hcd : (x == ("__classdict__" : Str)) = false := by decide) : PE X (.Name x pos) (tVar i) := by
  intro pins s σ H Q I h
  obtain ⟨v, e, h⟩ := h
  obtain ⟨m, hn, hl⟩ := I.loc
  obtain ⟨u, r, l⟩ := hl i x v hN e hv
  have fin : EP X pins σ Q u s := ⟨v, H, I, r, h⟩
  rcases l with ⟨hk, hm⟩ | ⟨hk, c, hc, hcell⟩
  · exact wpAny_Name (wpAny_loadName_local I.ok.kind hk hn hm fin) hd
  · rcases hk with hk | hk
    · exact wpAny_Name (wpAny_loadName_cell I.ok.kind hk hc hcell fin) hd
    · exact wpAny_Name (wpAny_loadName_free I.ok.kind hk hc hcell fin hcd) hd
theorem pe_int {i j pos} : PE X (.Constant (.int i) j pos) (tC (.int i)) := fun _ _ _ H _ I h => wpAny_Constant_int ⟨.int i, H, I.tok _, ⟨_, rfl⟩, h⟩
theorem pe_bl {b j pos} : PE X (.Constant (.bool b) j pos) (tC (.bl b)) := fun _ _ _ H _ I h => Constant_bool ⟨.bl b, H, I, rfl, h⟩
theorem pe_str {x j pos} : PE X (.Constant (.str x) j pos) (tC (.str x)) := fun _ _ _ H _ I h => Calls.Constant_str ⟨.str x, H, I.tok _, ⟨_, rfl⟩, h⟩

def Gl (X : Cx) (x : Str) : Prop := X.env.kindOf x = some .globalImplicit
theorem ld_glob {E : Value → Shared → Prop} {pins : List (Addr × Obj)} {s : Shared} {σ : St} {H : Hp} {x : Str} {u : Value} {pos : Pos} {Q : Value → Shared → Prop} (I : Inv X pins σ H s) (hg : Gl X x) (hm : X.mg x = some u) (h : Q u s)
    (hd : (x == ("__debug__" : Str)) = false := by decide) : wpAny (model X.prog X.w) X.A (eval (.Name x pos) X.env) Q E s :=
  Calls.Name_function_global I.ok.kind hg (Calls.loadGlobal_global (by rw [I.ok.glob]; exact I.mod.glob.keeps I.bk) hm h) hd
theorem ld_blt {E : Value → Shared → Prop} {pins : List (Addr × Obj)} {s : Shared} {σ : St} {H : Hp} {x : Str} {u : Value} {pos : Pos} {Q : Value → Shared → Prop} (I : Inv X pins σ H s) (hg : Gl X x) (hm : X.mg x = none) (hv : bootBuiltins x = some u) (h : Q u s)
    (hn : x ≠ "__name__" := by decide) (hd : (x == ("__debug__" : Str)) = false := by decide) : wpAny (model X.prog X.w) X.A (eval (.Name x pos) X.env) Q E s := by
  obtain ⟨mb, h1, h2⟩ := I.mod.blt
  exact Calls.Name_function_global I.ok.kind hg (Calls.loadGlobal_builtin (by rw [I.ok.glob]; exact I.mod.glob.keeps I.bk) hm (by rw [I.ok.blt]; exact h1.keeps I.bk) ((h2 x hn).trans hv) h) hd
theorem pe_glob {x : Str} {v : V} {u : Value} {pos : Pos} (hg : Gl X x) (hm : X.mg x = some u) (r : RelV v u) (hd : (x == ("__debug__" : Str)) = false := by decide) : PE X (.Name x pos) (tC v) :=
  fun _ _ _ H _ I h => ld_glob I hg hm ⟨v, H, I, r, h⟩ hd
theorem pe_bltn {x : Str} {v : V} {u : Value} {pos : Pos} (hg : Gl X x) (hm : X.mg x = none) (hv : bootBuiltins x = some u) (r : RelV v u) (hn : x ≠ "__name__" := by decide) (hd : (x == ("__debug__" : Str)) = false := by decide) : PE X (.Name x pos) (tC v) :=
  fun _ _ _ H _ I h => ld_blt I hg hm hv ⟨v, H, I, r, h⟩ hn hd

variable {a b : Expr} {ta tb : TE} {pos : Pos}
def PC (X : Cx) (op : CmpOp) (a b : Expr) (t : TE) : Prop :=
  ∀ (pins : List (Addr × Obj)) (s : Shared) (σ : St) (H : Hp) (Q : VK), Inv X pins σ H s → t σ H Q →
    wpAny (model X.prog X.w) X.A (eval a X.env) (fun v s₁ => wpAny (model X.prog X.w) X.A (eval b X.env) (fun u s₂ => wpAny (model X.prog X.w) X.A (compareOp op v u) (EP X pins σ Q) X.xe s₂) X.xe s₁) X.xe s
theorem nobehind (b : Expr) {op : CmpOp} (h : op ≠ .In) (h2 : op ≠ .NotIn) : behindInMarks op b = false := by
  have e1 : (op == CmpOp.In) = false := by cases op <;> first | rfl | exact absurd rfl h
  have e2 : (op == CmpOp.NotIn) = false := by cases op <;> first | rfl | exact absurd rfl h2
  cases b <;> simp [behindInMarks, e1, e2]
def tIsN (ta : TE) : TE := fun σ H Q => ta σ H fun x H1 => Q (.bl (decide (x = .non))) H1
theorem RelV.none_iff {x : V} {v : Value} (r : RelV x v) : (v == Value.none) = decide (x = .non) := by
  cases x with
  | non => cases r; rfl
  | bl _ => cases r; rfl
  | int _ => obtain ⟨t, rfl⟩ := r; rfl
  | str _ => obtain ⟨t, rfl⟩ := r; rfl
  | byt _ => obtain ⟨t, rfl⟩ := r; rfl
  | flt _ => obtain ⟨t, rfl⟩ := r; rfl
  | ref _ => cases r; rfl
  | ty _ => cases r; rfl
theorem pc_isN {j pos'} (ha : PE X a ta) : PC X .Is a (.Constant .none j pos') (tIsN ta) := by
  intro pins s σ H Q I h
  refine thn (ha pins s σ H _ I h) fun v s1 ⟨x, H1, I1, r1, q1⟩ => ?_
  exact Constant_none (is_none_gen ⟨.bl _, H1, I1, by rw [r1.none_iff]; rfl, q1⟩)
def tB (t : TE) : TT := fun σ H Q => t σ H fun x H1 => ∃ c, x = .bl c ∧ Q c H1
theorem pt_cmp {op : CmpOp} {t : TE} (h : PC X op a b t) (h1 : behindInMarks op b = false := by first | exact nobehind _ (by decide) (by decide) | rfl) : PT X (.Compare a [op] [b] pos) (tB t) := by
  intro pins s σ H Q I hw
  refine wpAny_isTrue_Compare1 (thn (h pins s σ H _ I hw) fun v s1 h1 => thn h1 fun u s2 h2 => thn h2 fun c s3 ⟨x, H1, I1, r1, q1⟩ => ?_) h1
  obtain ⟨d, rfl, q⟩ := q1
  cases r1
  exact wpAny_truthy_bool ⟨H1, I1, q⟩
theorem pt_val {e : Expr} {t : TE} (h : PE X e t) (he : ∀ whole, isTrue e X.env whole = (do let v ← whole; standAt e.pos; holding [v] (truthy v)) := by intro _; rfl) : PT X e (tB t) := by
  intro pins s σ H Q I hw
  refine isTrue_plain (thn (h pins s σ H _ I hw) fun v s1 ⟨x, H1, I1, r1, q1⟩ => ?_) (he _)
  obtain ⟨d, rfl, q⟩ := q1
  cases r1
  exact wpAny_truthy_bool ⟨H1, I1, q⟩

variable {tA tB' : TT} {rest : List Expr}
def tAnd (t u : TT) : TT := fun σ H Q => t σ H fun c H1 => if c = true then u σ H1 Q else Q false H1
def tOr (t u : TT) : TT := fun σ H Q => t σ H fun c H1 => if c = true then Q true H1 else u σ H1 Q
def tNot (t : TT) : TT := fun σ H Q => t σ H fun c H1 => Q (!c) H1
theorem pw_and1 (ha : PT X a tA) : PW X (.BoolOp .And [a] pos) tA := by
  intro wh pins s σ H Q I h
  refine isTrue_and (thn (ha pins s σ H Q I h) fun c s1 e => ?_)
  cases c with
  | true => exact isTrue_and_nil e
  | false => exact e
theorem pw_or1 (ha : PT X a tA) : PW X (.BoolOp .Or [a] pos) tA := by
  intro wh pins s σ H Q I h
  refine isTrue_or (thn (ha pins s σ H Q I h) fun c s1 e => ?_)
  cases c with
  | false => exact isTrue_or_nil e
  | true => exact e
theorem pw_and (ha : PT X a tA) (hb : PW X (.BoolOp .And (b :: rest) pos) tB') : PW X (.BoolOp .And (a :: b :: rest) pos) (tAnd tA tB') := by
  intro wh pins s σ H Q I h
  refine isTrue_and (thn (ha pins s σ H _ I h) fun c s1 ⟨H1, I1, q1⟩ => ?_)
  cases c with
  | true => exact hb wh pins s1 σ H1 Q I1 q1
  | false => exact ⟨H1, I1, q1⟩
theorem pw_or (ha : PT X a tA) (hb : PW X (.BoolOp .Or (b :: rest) pos) tB') : PW X (.BoolOp .Or (a :: b :: rest) pos) (tOr tA tB') := by
  intro wh pins s σ H Q I h
  refine isTrue_or (thn (ha pins s σ H _ I h) fun c s1 ⟨H1, I1, q1⟩ => ?_)
  cases c with
  | true => exact ⟨H1, I1, q1⟩
  | false => exact hb wh pins s1 σ H1 Q I1 q1
theorem pt_not (ha : PT X a tA) : PT X (.UnaryOp .Not a pos) (tNot tA) := by
  intro pins s σ H Q I h
  exact isTrue_not (ha pins s σ H (fun c H1 => Q (!c) H1) I h)
def tAndV (ta tb : TE) : TE := fun σ H Q => ta σ H fun x H1 => ∃ c, x = .bl c ∧ if c = true then tb σ H1 Q else Q (.bl false) H1
def tNotV (ta : TE) : TE := fun σ H Q => ta σ H fun x H1 => ∃ c, x = .bl c ∧ Q (.bl (!c)) H1
theorem pe_one {op} {t : TE} (h : PE X a t) : PE X (.BoolOp op [a] pos) t := fun pins s σ H Q I hw => BoolOp_one (h pins s σ H Q I hw)
theorem pe_and (ha : PE X a ta) (hb : PE X (.BoolOp .And (b :: rest) pos) tb) : PE X (.BoolOp .And (a :: b :: rest) pos) (tAndV ta tb) := by
  intro pins s σ H Q I h
  refine BoolOp_and (thn (ha pins s σ H _ I h) fun v s1 ⟨x, H1, I1, r1, q1⟩ => ?_)
  obtain ⟨c, rfl, q1⟩ := q1
  cases r1
  refine wpAny_truthy_bool ?_
  cases c with
  | true => exact hb pins s1 σ H1 Q I1 q1
  | false => exact ⟨.bl false, H1, I1, rfl, q1⟩
theorem pe_not (ha : PE X a ta) : PE X (.UnaryOp .Not a pos) (tNotV ta) := by
  intro pins s σ H Q I h
  refine UnaryOp_ (thn (ha pins s σ H _ I h) fun v s1 ⟨x, H1, I1, r1, q1⟩ => ?_)
  obtain ⟨c, rfl, q1⟩ := q1
  cases r1
  exact not_of (wpAny_truthy_bool ⟨.bl (!c), H1, I1, rfl, q1⟩)
def tIf (t : TT) (ta tb : TE) : TE := fun σ H Q => t σ H fun c H1 => if c = true then ta σ H1 Q else tb σ H1 Q
theorem pe_ifExp {c : Expr} (hc : PT X c tA) (ha : PE X a ta) (hb : PE X b tb) : PE X (.IfExp c a b pos) (tIf tA ta tb) := by
  intro pins s σ H Q I h
  refine wpAny_IfExp (thn (hc pins s σ H _ I h) fun d s1 ⟨H1, I1, q1⟩ => ?_)
  cases d with
  | true => exact ha pins s1 σ H1 Q I1 q1
  | false => exact hb pins s1 σ H1 Q I1 q1
end
end L2

namespace L2
open PySem PySem.Spec PyProof.Rows

def SqL (K : PySem.W.Frag) (H : Hp) (a : Addr) (xs : List V) : Prop :=
  Rd H a (.lst xs) ∨
    ∃ (o : Obj) (its : Array Value) (n : Nat), K.lookup a = some o ∧ o.cls = .type "list" ∧ o.dict = none ∧ o.data = .seq its n ∧ its.size ≤ sizeLine ∧ Vals xs its.toList
def SqT (K : PySem.W.Frag) (H : Hp) (a : Addr) (xs : List V) : Prop :=
  Rd H a (.tup xs) ∨
    ∃ (o : Obj) (its : Array Value) (n : Nat), K.lookup a = some o ∧ o.cls = .type "tuple" ∧ o.data = .seq its n ∧ its.size ≤ sizeLine ∧ Vals xs its.toList
def absV : Value → Option V
  | .none => some .non
  | .bool b => some (.bl b)
  | .int i _ => some (.int i)
  | .str x _ => some (.str x)
  | .bytes b _ => some (.byt b)
  | .float b _ => some (.flt b)
  | .ref a => some (.ref a)
  | .type n => some (.ty n)
  | _ => none
theorem RelV.abs {x : V} {u : Value} (r : RelV x u) : absV u = some x := by
  cases x with
  | non => cases r; rfl
  | bl _ => cases r; rfl
  | int _ => obtain ⟨t, rfl⟩ := r; rfl
  | str _ => obtain ⟨t, rfl⟩ := r; rfl
  | byt _ => obtain ⟨t, rfl⟩ := r; rfl
  | flt _ => obtain ⟨t, rfl⟩ := r; rfl
  | ref _ => cases r; rfl
  | ty _ => cases r; rfl
theorem RelV.inj {x y : V} {u : Value} (r : RelV x u) (q : RelV y u) : x = y := Option.some.inj (r.abs.symm.trans q.abs)
theorem Vals.inj : ∀ {xs ys : List V} {us : List Value}, Vals xs us → Vals ys us → xs = ys
  | _, _, _, .nil, .nil => rfl
  | _, _, _, .cons r t, .cons r' t' => by rw [r.inj r', Vals.inj t t']
section
variable {X : Cx} {pins : List (Addr × Obj)} {σ : St} {H : Hp} {s : Shared} {a : Addr} {xs ys : List V}
theorem SqL.of {K : PySem.W.Frag} (h : H a = some (.lst xs)) : SqL K H a xs := .inl (.inl h)
theorem SqT.of {K : PySem.W.Frag} (h : H a = some (.tup xs)) : SqT K H a xs := .inl (.inl h)
theorem Inv.list (I : Inv X pins σ H s) (h : SqL X.K H a xs) : ∃ its : List Value, Vals xs its ∧ PlainL s.heap a its.toArray ∧ xs.length ≤ sizeLine := by
  rcases h with h | ⟨o, its, n, hk, hc, hd, hs, hz, r⟩
  · obtain ⟨z, its, n, r, e⟩ := h.ok I.hok
    exact ⟨its, r, ⟨_, n, e, rfl, rfl, rfl⟩, z⟩
  · refine ⟨its.toList, r, ⟨o, n, I.kIn a o hk, hc, hd, by simpa using hs⟩, ?_⟩
    have e := r.length
    simp only [Array.length_toList] at e
    omega
theorem Inv.tuple (I : Inv X pins σ H s) (h : SqT X.K H a xs) : ∃ its : List Value, Vals xs its ∧ IsTup s.heap a its.toArray ∧ xs.length ≤ sizeLine := by
  rcases h with h | ⟨o, its, n, hk, hc, hs, hz, r⟩
  · obtain ⟨z, its, r, p⟩ := h.ok I.hok
    exact ⟨its, r, p, z⟩
  · refine ⟨its.toList, r, ⟨o, I.kIn a o hk, hc, n, by simpa using hs⟩, ?_⟩
    have e := r.length
    simp only [Array.length_toList] at e
    omega
theorem Inv.list_inj (I : Inv X pins σ H s) (h : SqL X.K H a xs) (h' : SqL X.K H a ys) : xs = ys := by
  obtain ⟨its, r, ⟨o, n, e, _, _, d⟩, _⟩ := I.list h
  obtain ⟨its', r', ⟨o', n', e', _, _, d'⟩, _⟩ := I.list h'
  rw [e] at e'; cases e'
  rw [d] at d'
  injection d' with d1 _
  have : its = its' := by simpa using congrArg Array.toList d1
  subst this
  exact r.inj r'
end

abbrev Cx.wish (X : Cx) (E : Value → Shared → Prop) : Cx := { X with xe := E }
abbrev Cx.nox (X : Cx) : Cx := X.wish fun _ _ => False
theorem Cx.Ok.wish {X : Cx} (ok : X.Ok) (E : Value → Shared → Prop) : (X.wish E).Ok :=
  ⟨ok.mod, ok.kind, ok.glob, ok.blt, ok.above, ok.inj, ok.has, ok.cab, ok.hd, ok.frames, ok.stk, ok.exf, ok.bs, ok.bsz, ok.noex, ok.exfs, ok.funs, ok.frf⟩
theorem Cx.Ok.unwish {X : Cx} {E : Value → Shared → Prop} (ok : (X.wish E).Ok) : X.Ok :=
  ⟨ok.mod, ok.kind, ok.glob, ok.blt, ok.above, ok.inj, ok.has, ok.cab, ok.hd, ok.frames, ok.stk, ok.exf, ok.bs, ok.bsz, ok.noex, ok.exfs, ok.funs, ok.frf⟩
section
variable {X : Cx} {pins : List (Addr × Obj)} {σ : St} {H : Hp} {s : Shared} {E : Value → Shared → Prop}
theorem Inv.wish (I : Inv X pins σ H s) (E : Value → Shared → Prop) : Inv (X.wish E) pins σ H s := ⟨I.ok.wish E, I.os, I.bare, I.base, I.loc, I.cell, I.free, I.freeC, I.pin, I.hok, I.len⟩
theorem Inv.unwish (I : Inv (X.wish E) pins σ H s) : Inv X pins σ H s := ⟨I.ok.unwish, I.os, I.bare, I.base, I.loc, I.cell, I.free, I.freeC, I.pin, I.hok, I.len⟩
theorem SP.unwish {D : Ends} {f : Flow} {s' : Shared} (h : SP (X.wish E) pins D f s') : SP X pins D f s' := by
  cases f with
  | next => obtain ⟨σ', H', I, q⟩ := h; exact ⟨σ', H', I.unwish, q⟩
  | brk => obtain ⟨σ', H', I, q⟩ := h; exact ⟨σ', H', I.unwish, q⟩
  | cont => obtain ⟨σ', H', I, q⟩ := h; exact ⟨σ', H', I.unwish, q⟩
  | ret u => obtain ⟨v, σ', H', I, r, q⟩ := h; exact ⟨v, σ', H', I.unwish, r, q⟩
theorem PSs.nox {st : List Stmt} {t : TS} (h : PSs X.nox st t) : PSs X st t := fun pins s σ H D I hw =>
  wpAny_mono (h pins s σ H D (I.wish _) hw) (fun _ _ q => q.unwish) fun _ _ z => False.elim z
end

section
variable {X : Cx} {st : Stmt} {rest : List Stmt} {t u : TS} {e : Expr} {te : TE} {pos : Pos}
def tNext : TS := fun D σ H => D.nx σ H
def tSeq (t u : TS) : TS := fun D σ H => t { D with nx := u D } σ H
theorem pss_nil : PSs X [] tNext := fun _ _ σ H _ I h => wpAny_execs_nil ⟨σ, H, I, h⟩
theorem pss_cons (h1 : PS X st t) (h2 : PSs X rest u) : PSs X (st :: rest) (tSeq t u) := by
  intro pins s σ H D I h
  refine wpAny_execs_cons (thn (h1 pins s σ H { D with nx := u D } I h) fun f s1 q => ?_)
  cases f with
  | next =>
    obtain ⟨σ', H', I', q⟩ := q
    exact h2 pins s1 σ' H' D I' q
  | ret v => exact q
  | brk => exact q
  | cont => exact q
theorem pss_one (h1 : PS X st t) : PSs X [st] t := by
  intro pins s σ H D I h
  refine wpAny_execs_cons (thn (h1 pins s σ H D I h) fun f s1 q => ?_)
  cases f with
  | next => exact wpAny_execs_nil q
  | ret v => exact q
  | brk => exact q
  | cont => exact q
def tBreak : TS := fun D σ H => D.bk σ H
def tCont : TS := fun D σ H => D.ct σ H
theorem ps_break : PS X (.Break pos) tBreak := fun _ _ σ H _ I h => wpAny_Break ⟨σ, H, I, h⟩
theorem ps_continue : PS X (.Continue pos) tCont := fun _ _ σ H _ I h => wpAny_Continue ⟨σ, H, I, h⟩
theorem Inv.quiet {pins : List (Addr × Obj)} {σ : St} {H : Hp} {s : Shared} (I : Inv X pins σ H s) : interactive X.env = false := by simp [interactive, I.ok.kind]
def tDrop (te : TE) : TS := fun D σ H => te σ H fun _ H1 => D.nx σ H1
theorem ps_expr (he : PE X e te) (hs : swapsWith e none pos.line X.env = pure false := by rfl) : PS X (.Expr e pos) (tDrop te) := by
  intro pins s σ H D I h
  exact wpAny_Expr_any (thn (he pins s σ H _ I h) fun v s1 ⟨x, H1, I1, r1, q1⟩ => ⟨σ, H1, I1, q1⟩) I.quiet hs
def tRet (te : TE) : TS := fun D σ H => te σ H D.rt
theorem ps_ret (he : PE X e te) : PS X (.Return (some e) pos) (tRet te) := by
  intro pins s σ H D I h
  exact wpAny_Return_some (thn (he pins s σ H _ I h) fun v s1 ⟨x, H1, I1, r1, q1⟩ => ⟨x, σ, H1, I1, r1, q1⟩)
def tIfS (c : TT) (t u : TS) : TS := fun D σ H => c σ H fun b H1 => if b = true then t D σ H1 else u D σ H1
theorem ps_if {c : Expr} {a b : List Stmt} {tc : TT} (hc : PT X c tc) (ha : PSs X a t) (hb : PSs X b u) : PS X (.If c a b pos) (tIfS tc t u) := by
  intro pins s σ H D I h
  refine wpAny_If (thn (hc pins s σ H _ I h) fun d s1 ⟨H1, I1, q1⟩ => ?_)
  cases d with
  | true => exact ha pins s1 σ H1 D I1 q1
  | false => exact hb pins s1 σ H1 D I1 q1
def tNever : TS := fun _ _ _ => False
theorem ps_never : PS X st tNever := fun _ _ _ _ _ _ h => h.elim
end

abbrev TG := V → St → Hp → (St → Hp → Prop) → Prop
abbrev TGs := List V → St → Hp → (St → Hp → Prop) → Prop
def PG (X : Cx) (target : Expr) (t : TG) : Prop :=
  ∀ (pins : List (Addr × Obj)) (s : Shared) (σ : St) (H : Hp) (v : V) (u : Value) (Q : St → Hp → Prop), Inv X pins σ H s → RelV v u → t v σ H Q →
    wpAny (model X.prog X.w) X.A (assign target X.env u) (fun _ s' => ∃ σ' H', Inv X pins σ' H' s' ∧ Q σ' H') X.xe s
def PGs (X : Cx) (ts : List Expr) (t : TGs) : Prop :=
  ∀ (pins : List (Addr × Obj)) (s : Shared) (σ : St) (H : Hp) (vs : List V) (us : List Value) (Q : St → Hp → Prop), Inv X pins σ H s → Vals vs us → t vs σ H Q →
    wpAny (model X.prog X.w) X.A (assignInOrder ((assignEach ts X.env).map (·.2)) us) (fun _ s' => ∃ σ' H', Inv X pins σ' H' s' ∧ Q σ' H') X.xe s
section
variable {X : Cx} {pos : Pos}
def gName (i : Nat) : TG := fun v σ H Q => Q (σ.set i (some v)) H
theorem pg_name {i : Nat} {x : Str} (hN : X.N.Nodup) (hi : X.N[i]? = some x) (hx : Loc X.env.scope x) (hf : X.fn x = true ∨ X.env.scope.names.lookup x = some .local := by first | exact .inl rfl | exact .inr rfl | assumption) : PG X (.Name x pos) (gName i) := by
  intro pins s σ H v u Q I r h
  exact wpAny_assign_Name (store_ok I hN hi hx r (fun s' I' => ⟨_, H, I', h⟩) hf)
def gNil : TGs := fun vs σ H Q => vs = [] ∧ Q σ H
def gCons (t : TG) (u : TGs) : TGs := fun vs σ H Q => ∃ v r, vs = v :: r ∧ t v σ H fun σ' H' => u r σ' H' Q
theorem pgs_nil : PGs X [] gNil := by
  intro pins s σ H vs us Q I r h
  obtain ⟨e, h⟩ := h
  subst e
  cases r
  exact assignInOrder_nil ⟨σ, H, I, h⟩
theorem pgs_cons {e : Expr} {es : List Expr} {t : TG} {u : TGs} (h1 : PG X e t) (h2 : PGs X es u)
    (hs : (assignEach (e :: es) X.env).map (·.2) = assign e X.env :: (assignEach es X.env).map (·.2) := by rfl) : PGs X (e :: es) (gCons t u) := by
  intro pins s σ H vs us Q I r h
  obtain ⟨v, vr, e1, h⟩ := h
  subst e1
  cases r with
  | cons r rr =>
    rw [hs]
    refine assignInOrder_cons (thn (h1 pins s σ H _ _ _ I r h) fun _ s1 ⟨σ1, H1, I1, q1⟩ => ?_)
    exact h2 pins s1 σ1 H1 _ _ Q I1 rr q1
def gTup (K : PySem.W.Frag) (n : Nat) (t : TGs) : TG := fun v σ H Q => ∃ a xs, v = .ref a ∧ SqT K H a xs ∧ xs.length = n ∧ t xs σ H Q
theorem pg_tup {es : List Expr} {k : Nat} {t : TGs} {n : Nat} (hc : X.calm = true) (h : PGs X es t)
    (hn : (assignEach es X.env).length = n := by rfl) (hst : (assignEach es X.env).findIdx? (·.1) = none := by rfl) : PG X (.Tuple es k pos) (gTup X.K n t) := by
  intro pins s σ H v u Q I r hw
  obtain ⟨a, xs, e1, hq, hl, hw⟩ := hw
  subst e1
  cases r
  obtain ⟨its, rv, ht, hz⟩ := I.tuple hq
  refine assign_Tuple_tuple (I.ok.hd hc) ht (by simp [hn, ← hl, rv.length]) hst fun h' hx => ?_
  have I1 : Inv X pins σ H { s with heap := h' } := I.kept (t' := s.toks) fun b o e => hx b o (Nat.ne_of_lt (Heap.lt_size e)) e
  exact h pins _ σ H xs _ Q I1 (by simpa using rv) hw
def tAsg (te : TE) (g : TG) : TS := fun D σ H => te σ H fun x H1 => g x σ H1 D.nx
theorem ps_asg {tg e : Expr} {te : TE} {g : TG} (he : PE X e te) (hg : PG X tg g) (hs : swapsWithSole [tg] e pos.line X.env = pure false := by rfl) (hw : swappedStores [tg] e X.env = pure none := by rfl)
    (h1 : (assignEach [tg] X.env).map (·.2) = [assign tg X.env] := by rfl) : PS X (.Assign [tg] e pos) (tAsg te g) := by
  intro pins s σ H D I h
  refine wpAny_Assign_stores (thn (he pins s σ H _ I h) fun v s1 ⟨x, H1, I1, r1, q1⟩ => ?_) hs hw
  rw [h1]
  exact thn (hg pins s1 σ H1 x v _ I1 r1 q1) fun _ s2 q => q
theorem ps_set {i : Nat} {x : Str} {e : Expr} {te : TE} {pos' : Pos} (hN : X.N.Nodup) (hi : X.N[i]? = some x) (hx : Loc X.env.scope x) (he : PE X e te) (hs : swapsWith e (some (.Name x pos')) pos.line X.env = pure false := by rfl) (hf : X.fn x = true ∨ X.env.scope.names.lookup x = some .local := by first | exact .inl rfl | exact .inr rfl | assumption) :
    PS X (.Assign [.Name x pos'] e pos) (tAsg te (gName i)) := by
  intro pins s σ H D I h
  refine wpAny_Assign_Name (thn (he pins s σ H _ I h) fun v s1 ⟨y, H1, I1, r1, q1⟩ => ?_) hs
  exact store_ok I1 hN hi hx r1 (fun s2 I2 => ⟨_, H1, I2, q1⟩) hf
end

section
variable {X : Cx} {pos : Pos}
def tWhile (c : TT) (tb : TS) : TS := fun D σ H => ∃ W : Nat → St → Hp → Prop, (∃ m, W m σ H) ∧ ∀ m σ H, W m σ H →
  c σ H fun b H1 => if b = true then ∃ N : St → Hp → Prop, (∀ σ' H', N σ' H' → ∃ m', m' < m ∧ W m' σ' H') ∧ tb { D with nx := N, ct := N, bk := D.nx } σ H1 else D.nx σ H1
theorem ps_while {c : Expr} {body : List Stmt} {tc : TT} {tb : TS} (hp : PassesOwn (model X.prog X.w) X.A X.env X.xe) (hc : PT X c tc) (hb : PSs X body tb) : PS X (.While c body [] pos) (tWhile tc tb) := by
  intro pins s σ H D I h
  obtain ⟨W, ⟨m0, w0⟩, turn⟩ := h
  refine wpAny_While (codeAny_whileLoop (fun n s' => ∃ σ' H', Inv X pins σ' H' s' ∧ W n σ' H') ?_ m0 ⟨σ, H, I, w0⟩)
  rintro n s1 ⟨σ1, H1, I1, w1⟩
  refine wpAny_passesOwn hp (thn (hc pins s1 σ1 H1 _ I1 (turn n σ1 H1 w1)) fun b s2 ⟨H2, I2, q2⟩ => ?_)
  cases b with
  | true =>
    obtain ⟨N, hN, q2⟩ := q2
    rw [if_pos rfl]
    refine wpAny_passesOwn hp (thn (hb pins s2 σ1 H2 _ I2 q2) fun f s3 q3 => ?_)
    cases f with
    | next =>
      obtain ⟨σ3, H3, I3, n3⟩ := q3
      obtain ⟨m', hm, w3⟩ := hN σ3 H3 n3
      exact ⟨m', hm, σ3, H3, I3, w3⟩
    | cont =>
      obtain ⟨σ3, H3, I3, n3⟩ := q3
      obtain ⟨m', hm, w3⟩ := hN σ3 H3 n3
      exact ⟨m', hm, σ3, H3, I3, w3⟩
    | brk => exact q3
    | ret v => exact q3
  | false =>
    rw [if_neg Bool.false_ne_true]
    exact wpAny_execs_nil ⟨σ1, H2, I2, q2⟩
end

structure It where
  go : Nat → Hp → Prop
  yld : Nat → Hp → V → Hp → Prop
  stop : Nat → Hp → Prop
def FpOk (X : Cx) (pins : List (Addr × Obj)) (H : Hp) (b : Addr) : Prop :=
  H b = none ∧ b ≠ X.env.locals ∧ b ∉ X.fs ∧ (b ∈ X.ex ∨ X.s₀.heap.objs.size ≤ b) ∧ (∀ x c, X.env.cells.lookup x = some c → c ≠ b) ∧ ∀ p ∈ X.pn ++ pins, p.1 ≠ b
theorem Inv.fpOk {X : Cx} {pins : List (Addr × Obj)} {σ : St} {H H' : Hp} {s : Shared} {b : Addr} (I : Inv X pins σ H s) (hb : s.heap.objs.size ≤ b) (hn : H' b = none) : FpOk X pins H' b := by
  refine ⟨hn, Nat.ne_of_gt (Nat.lt_of_lt_of_le I.lt hb), I.nofs hb, .inr (Nat.le_trans I.sz hb), fun x c e z => ?_, fun p hp z => ?_⟩
  · obtain ⟨v, q⟩ := I.cell x c e
    exact absurd (Nat.lt_of_lt_of_le q.lt (by rw [z]; exact hb)) (Nat.lt_irrefl _)
  · exact absurd (Nat.lt_of_lt_of_le (Heap.lt_size (I.pin p hp).1) (by rw [z]; exact hb)) (Nat.lt_irrefl _)
structure Turn (P : Program) (w : World) (K : PySem.W.Frag) (tg : Expr) (J : It) (fp : List Addr) (it : Addr) (tn : Nat → Heap → Prop) : Prop where
  mem : it ∈ fp
  obj : ∀ i h, tn i h → ∀ b ∈ fp, ∃ o, h.get? b = some o ∧ ∀ v, o.data ≠ .cell v
  keep : ∀ i h h', tn i h → (∀ b ∈ fp, ∀ o, h.get? b = some o → h'.get? b = some o) → tn i h'
  item : ∀ (X : Cx), X.prog = P → X.w = w → X.K = K → X.calm = true → ∀ (i : Nat) (pins : List (Addr × Obj)) (s : Shared) (σ : St) (H : Hp) (E : Value → Shared → Prop), Inv X pins σ H s → (∀ b ∈ fp, FpOk X pins H b) → tn i s.heap → J.go i H →
    wpAny (model P w) X.A (pyNext (.ref it)) (fun r s1 => ∃ u, r = some u ∧
      wpAny (model P w) X.A (letOwnedTupleGo tg (.ref it) u) (fun _ s2 => ∃ x H', Inv X pins σ H' s2 ∧ RelV x u ∧ J.yld i H x H' ∧ tn (i + 1) s2.heap ∧ ∀ b ∈ fp, H' b = none) E s1) E s
  done : ∀ (X : Cx), X.prog = P → X.w = w → X.K = K → X.calm = true → ∀ (i : Nat) (pins : List (Addr × Obj)) (s : Shared) (σ : St) (H : Hp) (E : Value → Shared → Prop), Inv X pins σ H s → (∀ b ∈ fp, FpOk X pins H b) → tn i s.heap → J.stop i H →
    wpAny (model P w) X.A (pyNext (.ref it)) (fun r s1 => r = none ∧ Inv X pins σ H s1) E s
  self : ∀ (A : Around) (i : Nat) (s : Shared) (Q : Value → Shared → Prop) (E : Value → Shared → Prop), tn i s.heap → Q (.ref it) s → wpAny (model P w) A (pyIter (.ref it)) Q E s
abbrev TI := St → Hp → (It → Hp → Prop) → Prop
def PIE (X : Cx) (pins : List (Addr × Obj)) (σ : St) (tg : Expr) (R : It → Hp → Prop) (itv : Value) (s2 : Shared) : Prop :=
  ∃ (it : Addr) (fp : List Addr) (tn : Nat → Heap → Prop) (J : It) (H' : Hp), itv = .ref it ∧ Inv X pins σ H' s2 ∧ Turn X.prog X.w X.K tg J fp it tn ∧ tn 0 s2.heap ∧ (∀ b ∈ fp, FpOk X pins H' b) ∧ R J H'
def PI (X : Cx) (tg iter : Expr) (wi : TI) : Prop :=
  ∀ (pins : List (Addr × Obj)) (s : Shared) (σ : St) (H : Hp) (R : It → Hp → Prop), Inv X pins σ H s → wi σ H R →
    wpAny (model X.prog X.w) X.A (eval iter X.env) (fun v s1 => wpAny (model X.prog X.w) X.A (pyIter v) (PIE X pins σ tg R) X.xe s1) X.xe s

theorem go_of {M : Model} {A : Around} {E : Value → Shared → Prop} {s : Shared} {tg : Expr} {it : Addr} {u : Value} {o : Obj} {n : String} {vs : Array Value} {Q : Unit → Shared → Prop} (ho : s.heap.get? it = some o) (hc : o.cls = .type n) (hd : o.data = .fields vs)
    (hn : ["enumerate", "zip", "dict_itemiterator", "dict_reverseitemiterator", "odict_iterator", "itertools.zip_longest", "itertools.pairwise"].contains n = false) (hQ : Q () s) : wpAny M A (letOwnedTupleGo tg (.ref it) u) Q E s := by
  unfold letOwnedTupleGo
  cases tg <;> first
    | exact wpAny_pure hQ
    | (cases u <;> first
        | exact wpAny_pure hQ
        | (refine wpAny_bind (wpAny_load ho ?_)
           rw [hc, hd]
           show wpAny M A (if (["enumerate", "zip", "dict_itemiterator", "dict_reverseitemiterator", "odict_iterator", "itertools.zip_longest", "itertools.pairwise"].contains n && vs[0]? == some (rawInt _)) = true then _ else _) Q E s
           rw [if_neg (by intro h; rw [hn, Bool.false_and] at h; cases h)]
           exact wpAny_pure hQ))

def Itl (K : PySem.W.Frag) (a : Addr) : It :=
  ⟨fun i H => ∃ xs x, SqL K H a xs ∧ xs[i]? = some x, fun i H x H' => H' = H ∧ ∀ xs, SqL K H a xs → xs[i]? = some x, fun i H => ∃ xs, SqL K H a xs ∧ xs.length ≤ i⟩
def Itr (lo : Int) (n : Nat) : It := ⟨fun i _ => i < n, fun i H x H' => H' = H ∧ x = .int (lo + i), fun i _ => n ≤ i⟩
theorem turn_list {P : Program} {w : World} {K : PySem.W.Frag} {tg : Expr} (a it : Addr) : Turn P w K tg (Itl K a) [it] it (fun i h => h.IsListIter it a i) where
  mem := by simp
  obj := fun i h st b hb => by
    have e : b = it := by simpa using hb
    subst e
    obtain ⟨o, e, c, d⟩ := st
    exact ⟨o, e, fun v z => by rw [d] at z; cases z⟩
  keep := fun i h h' st k => st.at fun o e => k it (by simp) o e
  item := by
    intro X hP hw hK hc i pins s σ H E I hf st hg
    subst hP hw hK
    obtain ⟨xs, x, hq, hx⟩ := hg
    obtain ⟨its, rv, p, hz⟩ := I.list hq
    obtain ⟨u, hu, ru⟩ := rv.get hx
    obtain ⟨f0, f1, f2, f3, f4, f5⟩ := hf it (by simp)
    refine wpAny_pyNext_list_item st p.isList (x := u) (by simpa using hu) fun h' st' sb => ?_
    have I1 : Inv X pins σ H { s with heap := h' } := I.turned (t' := s.toks) (fun b o hb e => (sb.2 b hb).trans e) f0 f1 f3 f4 f5
    obtain ⟨o, e, c, d⟩ := id st'
    exact ⟨u, rfl, go_of (s := { s with heap := h' }) e c d (by decide) ⟨x, H, I1, ru, ⟨rfl, fun ys hy => by rw [I.list_inj hy hq]; exact hx⟩, st', fun b hb => (hf b hb).1⟩⟩
  done := by
    intro X hP hw hK hc i pins s σ H E I hf st hg
    subst hP hw hK
    obtain ⟨xs, hq, hx⟩ := hg
    obtain ⟨its, rv, p, hz⟩ := I.list hq
    obtain ⟨f0, f1, f2, f3, f4, f5⟩ := hf it (by simp)
    have hl := rv.length
    exact wpAny_pyNext_list_end (I.ok.hd hc) st p.isList (by simp; omega) fun h' eb => ⟨rfl, I.turned (t' := s.toks) (fun b o hb e => eb b o hb e) f0 f1 f3 f4 f5⟩
  self := fun _ _ _ _ _ st h => wpAny_pyIter_listiter st h
theorem turn_range {P : Program} {w : World} {K : PySem.W.Frag} {tg : Expr} (it : Addr) (lo : Int) (n : Nat) : Turn P w K tg (Itr lo n) [it] it (fun i h => IsRangeIter h it (lo + (i : Nat) * 1) ((n : Int) - (i : Nat)) 1) where
  mem := by simp
  obj := fun i h st b hb => by
    have e : b = it := by simpa using hb
    subst e
    exact ⟨_, st, fun v z => by
      have z' : Data.fields _ = Data.cell v := z
      cases z'⟩
  keep := fun i h h' st k => k it (by simp) _ st
  item := by
    intro X hP hw hK hc i pins s σ H E I hf st hg
    subst hP hw hK
    obtain ⟨f0, f1, f2, f3, f4, f5⟩ := hf it (by simp)
    have W := Walks.range (prog := X.prog) (w := X.w) (I.ok.hd hc) it lo 1 n
    refine W.item i s _ _ hg st fun v h' tk hv st' kk => ?_
    obtain ⟨t, rfl⟩ := hv
    have I1 : Inv X pins σ H { s with heap := h', toks := tk } := I.turned (fun b o hb e => kk b o (by simpa using hb) e) f0 f1 f3 f4 f5
    refine ⟨_, rfl, go_of (s := { s with heap := h', toks := tk }) (n := "range_iterator") st' rfl rfl (by decide) ⟨.int (lo + i), H, I1, ⟨t, ?_⟩, ⟨rfl, rfl⟩, st', fun b hb => (hf b hb).1⟩⟩
    rw [Int.mul_one]
  done := by
    intro X hP hw hK hc i pins s σ H E I hf st hg
    subst hP hw hK
    obtain ⟨f0, f1, f2, f3, f4, f5⟩ := hf it (by simp)
    exact wpAny_pyNext_range_end (I.ok.hd hc) st (by have : n ≤ i := hg; omega) fun h' eb => ⟨rfl, I.turned (t' := s.toks) (fun b o hb e => eb b o hb e) f0 f1 f3 f4 f5⟩
  self := fun _ _ _ _ _ st h => wpAny_pyIter_rangeiter st h
end L2

namespace L2
open PySem PySem.Spec PyProof.Rows
section
variable {X : Cx} {tg : Expr}
def iList (K : PySem.W.Frag) (tl : TE) : TI := fun σ H R => tl σ H fun x H1 => ∃ a, x = .ref a ∧ (∃ xs, SqL K H1 a xs) ∧ R (Itl K a) H1
theorem pi_list {l : Expr} {tl : TE} (hl : PE X l tl) : PI X tg l (iList X.K tl) := by
  intro pins s σ H R I h
  refine thn (hl pins s σ H _ I h) fun v s1 ⟨x, H1, I1, r1, q1⟩ => ?_
  obtain ⟨a, e, ⟨xs, hq⟩, q⟩ := q1
  subst e
  cases r1
  obtain ⟨its, rv, p, hz⟩ := I1.list hq
  refine wpAny_pyIter_list p.isList ?_
  refine ⟨s1.heap.objs.size, [s1.heap.objs.size], _, _, H1, rfl, I1.kept (t' := s1.toks) fun b o e => Heap.get?_push_of_some _ e, turn_list a _, ⟨_, Heap.get?_push_size _ rfl, rfl, rfl⟩, fun b hb => ?_, q⟩
  have e : b = s1.heap.objs.size := by simpa using hb
  subst e
  exact I1.fpOk (Nat.le_refl _) (I1.hok.fresh (Nat.le_refl _))
theorem range_it {pins : List (Addr × Obj)} {σ : St} {H : Hp} {s : Shared} {R : It → Hp → Prop} {E : Value → Shared → Prop} {lo hi : Int} {t u v : Tok} {tk : Nat} (I : Inv X pins σ H s) (h1 : -(2 ^ 62) ≤ lo) (h2 : lo < 2 ^ 62) (h3 : -(2 ^ 62) ≤ hi) (h4 : hi < 2 ^ 62)
    (q : R (Itr lo (hi - lo).toNat) H) : wpAny (model X.prog X.w) X.A (pyIter (.ref s.heap.objs.size)) (PIE X pins σ tg R) E { s with heap := s.heap.push { cls := .type "range", data := .fields #[.int lo t, .int hi u, .int 1 v] }, toks := tk } := by
  refine wpAny_pyIter_range (IsRange.new ..) (small_one h1 h2 h3 h4) ?_
  have I1 : Inv X pins σ H { s with heap := s.heap.push { cls := .type "range", data := .fields #[.int lo t, .int hi u, .int 1 v] }, toks := tk } := I.kept fun b o e => Heap.get?_push_of_some _ e
  refine ⟨(s.heap.push { cls := .type "range", data := .fields #[.int lo t, .int hi u, .int 1 v] }).objs.size, [(s.heap.push { cls := .type "range", data := .fields #[.int lo t, .int hi u, .int 1 v] }).objs.size], _, _, H, rfl,
    I1.kept (t' := tk) fun b o e => Heap.get?_push_of_some _ e, turn_range _ lo (hi - lo).toNat, ?_, fun b hb => ?_, q⟩
  · have e1 : lo + ((0 : Nat) : Int) * 1 = lo := by simp
    have e2 : (((hi - lo).toNat : Nat) : Int) - ((0 : Nat) : Int) = Builtin.Range.rangeSize lo hi 1 := by rw [rangeSize_one]; split <;> omega
    show IsRangeIter _ _ (lo + ((0 : Nat) : Int) * 1) ((((hi - lo).toNat : Nat) : Int) - ((0 : Nat) : Int)) 1
    rw [e1, e2]
    exact Heap.get?_push_size _ rfl
  · have e : b = (s.heap.push { cls := .type "range", data := .fields #[.int lo t, .int hi u, .int 1 v] }).objs.size := by simpa using hb
    subst e
    exact I1.fpOk (Nat.le_refl _) (I1.hok.fresh (Nat.le_refl _))
def iRng1 (ta : TA) : TI := fun σ H R => ta σ H fun vs H1 => ∃ j : Int, vs = [.int j] ∧ -(2 ^ 62) ≤ j ∧ j < 2 ^ 62 ∧ R (Itr 0 j.toNat) H1
theorem pi_range1 {a : Expr} {ta : TA} {p pos : Pos} (hg : Gl X "range") (hm : X.mg "range" = none) (ha : PA X [a] ta) (hs : starEach [a] X.env = [(false, eval a X.env)] := by rfl) : PI X tg (.Call (.Name "range" p) [a] [] pos) (iRng1 ta) := by
  intro pins s σ H R I h
  refine Call_ (ld_blt I hg hm boot_range (PyProof.Rows.callWith_type1 (thn (ha pos pins s σ H _ I h) fun us s1 ⟨vs, H1, I1, r1, q1⟩ => ?_) hs rfl))
  obtain ⟨j, e, q1, q2, q⟩ := q1
  subst e
  cases r1 with
  | cons r rr =>
    cases rr
    obtain ⟨t, rfl⟩ := r
    exact call_range_1 (range_it I1 (by omega) (by omega) q1 q2 (by simpa using q))
def tFor (wi : TI) (g : TG) (tb : TS) : TS := fun D σ H => wi σ H fun J H1 => ∃ W : Nat → Nat → St → Hp → Prop, (∃ m, W 0 m σ H1) ∧ ∀ i m σ H, W i m σ H →
  (J.stop i H ∧ D.nx σ H) ∨ (J.go i H ∧ ∃ N : St → Hp → Prop, (∀ σ' H', N σ' H' → ∃ m', m' < m ∧ W (i + 1) m' σ' H') ∧ ∀ x H', J.yld i H x H' → g x σ H' fun σ2 H2 => tb { D with nx := N, ct := N, bk := D.nx } σ2 H2)
def pinsAt (fp : List Addr) (h : Heap) : List (Addr × Obj) := fp.filterMap fun b => (h.get? b).map fun o => (b, o)
theorem mem_pinsAt {fp : List Addr} {h : Heap} {b : Addr} {o : Obj} (hb : b ∈ fp) (e : h.get? b = some o) : (b, o) ∈ pinsAt fp h := List.mem_filterMap.mpr ⟨b, hb, by rw [e]; rfl⟩
theorem of_pinsAt {fp : List Addr} {h : Heap} {p : Addr × Obj} (hp : p ∈ pinsAt fp h) : p.1 ∈ fp ∧ h.get? p.1 = some p.2 := by
  obtain ⟨b, hb, e⟩ := List.mem_filterMap.mp hp
  cases q : h.get? b with
  | none => rw [q] at e; cases e
  | some o =>
    rw [q] at e
    have e' : (b, o) = p := Option.some.inj e
    subst e'
    exact ⟨hb, q⟩
theorem Inv.pinned {pins : List (Addr × Obj)} {σ : St} {H : Hp} {s : Shared} {fp : List Addr} (I : Inv X pins σ H s) (hf : ∀ b ∈ fp, FpOk X pins H b) (ho : ∀ b ∈ fp, ∃ o, s.heap.get? b = some o ∧ ∀ v, o.data ≠ .cell v) : Inv X (pins ++ pinsAt fp s.heap) σ H s :=
  I.pins_of fun p hp => (List.mem_append.mp hp).elim (fun z => I.pin p (List.mem_append_right _ z)) fun z => by
    obtain ⟨hb, e⟩ := of_pinsAt z
    obtain ⟨f0, f1, f2, _⟩ := hf p.1 hb
    obtain ⟨o, e', d⟩ := ho p.1 hb
    rw [e] at e'; cases e'
    exact ⟨e, f0, f1, f2, d⟩
theorem Inv.unpinned {pins pl : List (Addr × Obj)} {σ : St} {H : Hp} {s : Shared} (I : Inv X (pins ++ pl) σ H s) : Inv X pins σ H s := I.pins_of fun p hp => I.pin p (List.mem_append_right _ (List.mem_append_left _ hp))
theorem ps_for {iter : Expr} {body : List Stmt} {wi : TI} {g : TG} {tb : TS} {pos : Pos} (hp : PassesOwn (model X.prog X.w) X.A X.env X.xe) (hc : X.calm = true) (hi : PI X tg iter wi) (hg : PG X tg g) (hb : PSs X body tb)
    (hs : ∀ x, foldedSetIterable iter X.env x = pure x := by intro _; rfl) : PS X (.For tg iter body [] pos) (tFor wi g tb) := by
  intro pins s σ H D I h
  refine wpAny_For (thn (hi pins s σ H _ I h) fun v s1 h1 => thn h1 fun itv s2 h2 => ?_) hs
  obtain ⟨it, fp, tn, J, H2, e, I2, T, st2, f2, W, ⟨m0, w0⟩, turn⟩ := h2
  subst e
  -- what stays true of the iterator's objects through the loop
  have stat : ∀ {H' : Hp}, (∀ b ∈ fp, H' b = none) → ∀ b ∈ fp, FpOk X pins H' b := fun hn b hb => ⟨hn b hb, (f2 b hb).2⟩
  refine codeAny_forLoop_any (fun n s' => ∃ i σ' H', Inv X pins σ' H' s' ∧ tn i s'.heap ∧ (∀ b ∈ fp, H' b = none) ∧ W i n σ' H') ?_ m0 ⟨0, σ, H2, I2, st2, fun b hb => (f2 b hb).1, w0⟩
  rintro n s3 ⟨i, σ3, H3, I3, st3, fr3, w3⟩
  rcases turn i n σ3 H3 w3 with ⟨stop, qn⟩ | ⟨go, N, hN, step⟩
  · refine wpAny_passesOwn hp (thn (T.done X rfl rfl rfl hc i pins s3 σ3 H3 X.xe I3 (stat fr3) st3 stop) fun r s4 ⟨hr, I4⟩ => ?_)
    subst hr
    exact wpAny_execs_nil ⟨σ3, H3, I4, qn⟩
  · refine wpAny_passesOwn hp (thn (T.item X rfl rfl rfl hc i pins s3 σ3 H3 X.xe I3 (stat fr3) st3 go) fun r s4 ⟨u, hr, h4⟩ => ?_)
    subst hr
    refine wpAny_passesOwn hp (thn h4 fun _ s5 ⟨x, H5, I5, r5, y5, st5, fr5⟩ => ?_)
    have I5' := I5.pinned (stat fr5) (T.obj _ _ st5)
    refine wpAny_passesOwn hp (thn (hg _ s5 σ3 H5 x u _ I5' r5 (step x H5 y5)) fun _ s6 ⟨σ6, H6, I6, q6⟩ => ?_)
    refine wpAny_passesOwn hp (thn (hb _ s6 σ6 H6 _ I6 q6) fun f s7 q7 => ?_)
    have again : ∀ {σ7 : St} {H7 : Hp}, Inv X (pins ++ pinsAt fp s5.heap) σ7 H7 s7 → N σ7 H7 → ∃ m, m < n ∧ ∃ i σ' H', Inv X pins σ' H' s7 ∧ tn i s7.heap ∧ (∀ b ∈ fp, H' b = none) ∧ W i m σ' H' := fun {σ7 H7} I7 n7 => by
      obtain ⟨m', hm, w7⟩ := hN σ7 H7 n7
      refine ⟨m', hm, i + 1, σ7, H7, I7.unpinned, T.keep _ _ _ st5 fun b hb o e => (I7.pin (b, o) (List.mem_append_right _ (List.mem_append_right _ (mem_pinsAt hb e)))).1, fun b hb => ?_, w7⟩
      obtain ⟨o, e, d⟩ := T.obj _ _ st5 b hb
      exact (I7.pin (b, o) (List.mem_append_right _ (List.mem_append_right _ (mem_pinsAt hb e)))).2.1
    cases f with
    | next => obtain ⟨σ7, H7, I7, n7⟩ := q7; exact again I7 n7
    | cont => obtain ⟨σ7, H7, I7, n7⟩ := q7; exact again I7 n7
    | brk => obtain ⟨σ7, H7, I7, q7⟩ := q7; exact ⟨σ7, H7, I7.unpinned, q7⟩
    | ret v => obtain ⟨x7, σ7, H7, I7, r7, q7⟩ := q7; exact ⟨x7, σ7, H7, I7.unpinned, r7, q7⟩
end

theorem for_list {K : PySem.W.Frag} {a : Addr} {xs : List V} {g : TG} {tb : TS} {D : Ends} {σ : St} {H : Hp} (Pv : Nat → St → Hp → Prop) (h0 : Pv 0 σ H) (hl : ∀ i σ H, i ≤ xs.length → Pv i σ H → SqL K H a xs)
    (hs : ∀ i x σ H, xs[i]? = some x → Pv i σ H → g x σ H fun σ2 H2 => tb { D with nx := Pv (i + 1), ct := Pv (i + 1), bk := D.nx } σ2 H2) (hd : ∀ σ H, Pv xs.length σ H → D.nx σ H) :
    ∃ W : Nat → Nat → St → Hp → Prop, (∃ m, W 0 m σ H) ∧ ∀ i m σ H, W i m σ H →
      ((Itl K a).stop i H ∧ D.nx σ H) ∨ ((Itl K a).go i H ∧ ∃ N : St → Hp → Prop, (∀ σ' H', N σ' H' → ∃ m', m' < m ∧ W (i + 1) m' σ' H') ∧ ∀ x H', (Itl K a).yld i H x H' → g x σ H' fun σ2 H2 => tb { D with nx := N, ct := N, bk := D.nx } σ2 H2) := by
  refine ⟨fun i m σ H => m = xs.length - i ∧ i ≤ xs.length ∧ Pv i σ H, ⟨xs.length, by simp, Nat.zero_le _, h0⟩, ?_⟩
  rintro i m σ H ⟨rfl, hi, p⟩
  have q := hl i σ H hi p
  by_cases hlt : i < xs.length
  · refine .inr ⟨⟨xs, xs[i], q, by simp [hlt]⟩, Pv (i + 1), fun σ' H' p' => ⟨xs.length - (i + 1), by omega, rfl, hlt, p'⟩, fun x H' y => ?_⟩
    obtain ⟨e, y⟩ := y
    subst e
    exact hs i x σ _ (y xs q) p
  · have e : i = xs.length := by omega
    subst e
    exact .inl ⟨⟨xs, q, Nat.le_refl _⟩, hd σ H p⟩
theorem for_range {lo : Int} {n : Nat} {g : TG} {tb : TS} {D : Ends} {σ : St} {H : Hp} (Pv : Nat → St → Hp → Prop) (h0 : Pv 0 σ H)
    (hs : ∀ i σ H, i < n → Pv i σ H → g (.int (lo + i)) σ H fun σ2 H2 => tb { D with nx := Pv (i + 1), ct := Pv (i + 1), bk := D.nx } σ2 H2) (hd : ∀ σ H, Pv n σ H → D.nx σ H) :
    ∃ W : Nat → Nat → St → Hp → Prop, (∃ m, W 0 m σ H) ∧ ∀ i m σ H, W i m σ H →
      ((Itr lo n).stop i H ∧ D.nx σ H) ∨ ((Itr lo n).go i H ∧ ∃ N : St → Hp → Prop, (∀ σ' H', N σ' H' → ∃ m', m' < m ∧ W (i + 1) m' σ' H') ∧ ∀ x H', (Itr lo n).yld i H x H' → g x σ H' fun σ2 H2 => tb { D with nx := N, ct := N, bk := D.nx } σ2 H2) := by
  refine ⟨fun i m σ H => m = n - i ∧ i ≤ n ∧ Pv i σ H, ⟨n, by simp, Nat.zero_le _, h0⟩, ?_⟩
  rintro i m σ H ⟨rfl, hi, p⟩
  by_cases hlt : i < n
  · refine .inr ⟨hlt, Pv (i + 1), fun σ' H' p' => ⟨n - (i + 1), by omega, rfl, hlt, p'⟩, fun x H' y => ?_⟩
    obtain ⟨e, y⟩ := y
    subst e y
    exact hs i σ _ hlt p
  · have e : i = n := by omega
    subst e
    exact .inl ⟨Nat.le_refl _, hd σ H p⟩
theorem while_by {c : TT} {tb : TS} {D : Ends} {σ : St} {H : Hp} (Pv : St → Hp → Prop) (μ : St → Hp → Nat) (h0 : Pv σ H)
    (hs : ∀ σ H, Pv σ H → c σ H fun b H1 => if b = true then tb { D with nx := fun σ' H' => Pv σ' H' ∧ μ σ' H' < μ σ H, ct := fun σ' H' => Pv σ' H' ∧ μ σ' H' < μ σ H, bk := D.nx } σ H1 else D.nx σ H1)
    (mono : ∀ σ H Q Q', (∀ b H1, Q b H1 → Q' b H1) → c σ H Q → c σ H Q') : tWhile c tb D σ H := by
  refine ⟨fun m σ H => m = μ σ H ∧ Pv σ H, ⟨_, rfl, h0⟩, ?_⟩
  rintro m σ H ⟨rfl, p⟩
  refine mono σ H _ _ (fun b H1 q => ?_) (hs σ H p)
  cases b with
  | true => exact ⟨_, fun σ' H' ⟨p', l⟩ => ⟨_, l, rfl, p'⟩, q⟩
  | false => exact q
end L2

namespace L2
open PySem PySem.Spec PyProof.Rows

abbrev R2 := V → V → Hp → VK → Prop
def OpR (X : Cx) (f : Value → Value → Sem Value) (r : R2) : Prop :=
  ∀ (pins : List (Addr × Obj)) (s : Shared) (σ : St) (H : Hp) (x y : V) (v u : Value) (Q : VK), Inv X pins σ H s → RelV x v → RelV y u → r x y H Q →
    wpAny (model X.prog X.w) X.A (f v u) (EP X pins σ Q) X.xe s
def UnR (X : Cx) (f : Value → Sem Value) (r : V → Hp → VK → Prop) : Prop :=
  ∀ (pins : List (Addr × Obj)) (s : Shared) (σ : St) (H : Hp) (x : V) (v : Value) (Q : VK), Inv X pins σ H s → RelV x v → r x H Q →
    wpAny (model X.prog X.w) X.A (f v) (EP X pins σ Q) X.xe s
def CallR (X : Cx) (f : Value) (r : List V → Hp → VK → Prop) : Prop :=
  ∀ (pins : List (Addr × Obj)) (s : Shared) (σ : St) (H : Hp) (xs : List V) (us : List Value) (Q : VK), Inv X pins σ H s → Vals xs us → r xs H Q →
    wpAny (model X.prog X.w) X.A (call f us) (EP X pins σ Q) X.xe s
def tOp (r : R2) (ta tb : TE) : TE := fun σ H Q => ta σ H fun x H1 => tb σ H1 fun y H2 => r x y H2 Q
def tUn (r : V → Hp → VK → Prop) (ta : TE) : TE := fun σ H Q => ta σ H fun x H1 => r x H1 Q
def rI (C : Int → Int → Prop) (g : Int → Int → V) : R2 := fun x y H Q => ∃ i j, x = .int i ∧ y = .int j ∧ C i j ∧ Q (g i j) H
def rI0 (g : Int → Int → V) : R2 := fun x y H Q => ∃ i j, x = .int i ∧ y = .int j ∧ Q (g i j) H
def rU (g : Int → V) : V → Hp → VK → Prop := fun x H Q => ∃ i, x = .int i ∧ Q (g i) H

section
variable {X : Cx} {a b c : Expr} {ta tb tc : TE} {pos : Pos}

theorem binT (ha : PE X a ta) (hb : PE X b tb) {pins : List (Addr × Obj)} {s : Shared} {σ : St} {H : Hp} {R : V → V → Hp → Prop} (I : Inv X pins σ H s)
    (h : ta σ H fun x H1 => tb σ H1 fun y H2 => R x y H2) {Q : Value → Shared → Prop} {f : Value → Value → Sem Value}
    (hf : ∀ v u s2 x y H2, Inv X pins σ H2 s2 → RelV x v → RelV y u → R x y H2 → wpAny (model X.prog X.w) X.A (f v u) Q X.xe s2) :
    wpAny (model X.prog X.w) X.A (eval a X.env) (fun v s₁ => wpAny (model X.prog X.w) X.A (eval b X.env) (fun u s₂ => wpAny (model X.prog X.w) X.A (f v u) Q X.xe s₂) X.xe s₁) X.xe s := by
  refine thn (ha pins s σ H _ I h) fun v s1 ⟨x, H1, I1, r1, q1⟩ => ?_
  refine thn (hb pins s1 σ H1 _ I1 q1) fun u s2 ⟨y, H2, I2, r2, q2⟩ => ?_
  exact hf v u s2 x y H2 I2 r1 r2 q2

theorem pe_op {op : Operator} {r : R2} (ho : OpR X (binaryOp op) r) (ha : PE X a ta) (hb : PE X b tb) : PE X (.BinOp a op b pos) (tOp r ta tb) := by
  intro pins s σ H Q I h
  exact wpAny_BinOp (binT ha hb I h fun v u s2 x y H2 I2 rx ry q => ho pins s2 σ H2 x y v u Q I2 rx ry q)
theorem pe_un {op : UnaryOp} {r : V → Hp → VK → Prop} (ho : UnR X (unaryOp op) r) (ha : PE X a ta) : PE X (.UnaryOp op a pos) (tUn r ta) := by
  intro pins s σ H Q I h
  exact UnaryOp_ (thn (ha pins s σ H _ I h) fun v s1 ⟨x, H1, I1, r1, q1⟩ => ho pins s1 σ H1 x v Q I1 r1 q1)
theorem opI {f : Value → Value → Sem Value} {C : Int → Int → Prop} {g : Int → Int → Int}
    (rule : ∀ (i j : Int) (t u : Tok) (s : Shared) (Q : Value → Shared → Prop) (E : Value → Shared → Prop), C i j → Q (.int (g i j) s.toks) { s with toks := s.toks + 1 } → wpAny (model X.prog X.w) X.A (f (.int i t) (.int j u)) Q E s) :
    OpR X f (rI C fun i j => .int (g i j)) := by
  intro pins s σ H x y v u Q I rx ry h
  obtain ⟨i, j, rfl, rfl, hc, q⟩ := h
  obtain ⟨t, rfl⟩ := rx
  obtain ⟨t', rfl⟩ := ry
  exact rule i j t t' s _ _ hc ⟨.int (g i j), H, I.tok _, ⟨_, rfl⟩, q⟩
theorem opI0 {f : Value → Value → Sem Value} {g : Int → Int → Int}
    (rule : ∀ (i j : Int) (t u : Tok) (s : Shared) (Q : Value → Shared → Prop) (E : Value → Shared → Prop), Q (.int (g i j) s.toks) { s with toks := s.toks + 1 } → wpAny (model X.prog X.w) X.A (f (.int i t) (.int j u)) Q E s) :
    OpR X f (rI0 fun i j => .int (g i j)) := by
  intro pins s σ H x y v u Q I rx ry h
  obtain ⟨i, j, rfl, rfl, q⟩ := h
  obtain ⟨t, rfl⟩ := rx
  obtain ⟨t', rfl⟩ := ry
  exact rule i j t t' s _ _ ⟨.int (g i j), H, I.tok _, ⟨_, rfl⟩, q⟩
theorem opB0 {f : Value → Value → Sem Value} {g : Int → Int → Bool}
    (rule : ∀ (i j : Int) (t u : Tok) (s : Shared) (Q : Value → Shared → Prop) (E : Value → Shared → Prop), Q (.bool (g i j)) s → wpAny (model X.prog X.w) X.A (f (.int i t) (.int j u)) Q E s) :
    OpR X f (rI0 fun i j => .bl (g i j)) := by
  intro pins s σ H x y v u Q I rx ry h
  obtain ⟨i, j, rfl, rfl, q⟩ := h
  obtain ⟨t, rfl⟩ := rx
  obtain ⟨t', rfl⟩ := ry
  exact rule i j t t' s _ _ ⟨.bl (g i j), H, I, rfl, q⟩

def CDiv (i j : Int) : Prop := 0 < j ∧ j < 1073741824
def CPow (i j : Int) : Prop := 0 ≤ j ∧ j ≤ 1000000 ∧ i.natAbs < 2 ^ 64
def CMul (i j : Int) : Prop := (-(2 ^ 64) < i ∧ i < 2 ^ 64) ∨ (-(2 ^ 64) < j ∧ j < 2 ^ 64)
theorem CMul.ok {i j : Int} (h : CMul i j) : IntMulOk i j := by
  rcases h with ⟨h1, h2⟩ | ⟨h1, h2⟩
  · exact .of_left (intBits_le_64 h1 h2)
  · exact .of_right (intBits_le_64 h1 h2)
theorem op_add : OpR X (binaryOp .Add) (rI0 fun i j => .int (i + j)) := opI0 fun _ _ _ _ _ _ _ q => add_int q
theorem op_sub : OpR X (binaryOp .Sub) (rI0 fun i j => .int (i - j)) := opI0 fun _ _ _ _ _ _ _ q => sub_int q
theorem op_mul : OpR X (binaryOp .Mult) (rI CMul fun i j => .int (i * j)) := opI fun _ _ _ _ _ _ _ hc q => mul_int q hc.ok
theorem op_fdiv : OpR X (binaryOp .FloorDiv) (rI CDiv fun i j => .int (i / j)) := opI fun i j _ _ _ _ _ hc q => by
  have h1 : (0 : Int) < j := hc.1
  have h2 : j < 1073741824 := hc.2
  exact floordiv_int (by omega) (by rw [Int.fdiv_eq_ediv_of_nonneg i (by omega)]; exact q) (.inl (PyProof.noPylong_small (by omega)))
theorem op_mod : OpR X (binaryOp .Mod) (rI (fun _ j => 0 < j) fun i j => .int (i % j)) := opI fun i j _ _ _ _ _ hc q => by
  have h1 : (0 : Int) < j := hc
  exact mod_int' (by omega) (by rw [Int.fmod_eq_emod_of_nonneg i (by omega)]; exact q)
theorem op_modN : OpR X (binaryOp .Mod) (rI (fun _ j => j ≠ 0) fun i j => .int (i.fmod j)) := opI fun _ _ _ _ _ _ _ hc q => mod_int' hc q
theorem op_pow : OpR X (binaryOp .Pow) (rI CPow fun i j => .int (i ^ j.toNat)) := opI fun _ _ _ _ _ _ _ hc q => pow_int_small hc.1 hc.2.1 hc.2.2 q
theorem unI {f : Value → Sem Value} {g : Int → Int}
    (rule : ∀ (i : Int) (t : Tok) (s : Shared) (Q : Value → Shared → Prop) (E : Value → Shared → Prop), Q (.int (g i) s.toks) { s with toks := s.toks + 1 } → wpAny (model X.prog X.w) X.A (f (.int i t)) Q E s) :
    UnR X f (rU fun i => .int (g i)) := by
  intro pins s σ H x v Q I rx h
  obtain ⟨i, rfl, q⟩ := h
  obtain ⟨t, rfl⟩ := rx
  exact rule i t s _ _ ⟨.int (g i), H, I.tok _, ⟨_, rfl⟩, q⟩
theorem un_neg : UnR X (unaryOp .USub) (rU fun i => .int (-i)) := unI fun _ _ _ _ _ q => neg_int q
end

def scal : V → V → Bool
  | .non, .non => true | .non, .int _ => true | .int _, .non => true | .non, .bl _ => true | .bl _, .non => true | .non, .str _ => true | .str _, .non => true
  | .int _, .int _ => true | .bl _, .bl _ => true | .str _, .str _ => true | .byt _, .byt _ => true
  | .int _, .str _ => true | .str _, .int _ => true | .bl _, .str _ => true | .str _, .bl _ => true
  | _, _ => false
def rEq : R2 := fun x y H Q => scal x y = true ∧ Q (.bl (decide (x = y))) H
def rNe : R2 := fun x y H Q => scal x y = true ∧ Q (.bl (!decide (x = y))) H

theorem dec_int {i j : Int} : decide (V.int i = V.int j) = (i == j) := by
  rw [Bool.eq_iff_iff]
  simp
theorem dec_bl {i j : Bool} : decide (V.bl i = V.bl j) = (i == j) := by
  rw [Bool.eq_iff_iff]
  simp
theorem dec_str {i j : Str} : decide (V.str i = V.str j) = (i == j) := by
  rw [Bool.eq_iff_iff]
  simp
theorem dec_byt {i j : Array UInt8} : decide (V.byt i = V.byt j) = (i.toList == j.toList) := by
  rw [Bool.eq_iff_iff]
  cases i
  cases j
  simp

section
variable {X : Cx} {a b c : Expr} {ta tb tc : TE} {pos : Pos}
theorem fin_bl {pins : List (Addr × Obj)} {σ : St} {H : Hp} {s : Shared} {Q : VK} {k k' : Bool} (I : Inv X pins σ H s) (q : Q (.bl k) H) (e : k = k') : EP X pins σ Q (.bool k') s := by
  subst e
  exact ⟨.bl k, H, I, rfl, q⟩
theorem op_eq : OpR X (compareOp .Eq) rEq := by
  intro pins s σ H x y v u Q I rx ry h
  obtain ⟨hs, q⟩ := h
  cases x with
  | non =>
    cases rx
    cases y with
    | non => cases ry; exact PySem.EqNone.eq_none_none (fin_bl I q (by simp))
    | bl j => cases ry; exact PySem.EqNone.eq_none_bool (fin_bl I q (by simp))
    | int j => obtain ⟨t', rfl⟩ := ry; exact PySem.EqNone.eq_none_int (fin_bl I q (by simp))
    | str j => obtain ⟨t', rfl⟩ := ry; exact PySem.EqNone.eq_none_str (fin_bl I q (by simp))
    | _ => exact absurd (show false = true from hs) Bool.false_ne_true
  | bl i =>
    cases rx
    cases y with
    | non => cases ry; exact PySem.EqNone.eq_bool_none (fin_bl I q (by simp))
    | bl j => cases ry; exact eq_bool (fin_bl I q dec_bl)
    | str j => obtain ⟨t', rfl⟩ := ry; exact PySem.EqMixed.eq_bool_str (fin_bl I q (by simp))
    | _ => exact absurd (show false = true from hs) Bool.false_ne_true
  | int i =>
    obtain ⟨t, rfl⟩ := rx
    cases y with
    | non => cases ry; exact PySem.EqNone.eq_int_none (fin_bl I q (by simp))
    | int j => obtain ⟨t', rfl⟩ := ry; exact eq_int (fin_bl I q dec_int)
    | str j => obtain ⟨t', rfl⟩ := ry; exact PySem.EqMixed.eq_int_str (fin_bl I q (by simp))
    | _ => exact absurd (show false = true from hs) Bool.false_ne_true
  | str i =>
    obtain ⟨t, rfl⟩ := rx
    cases y with
    | non => cases ry; exact PySem.EqNone.eq_str_none (fin_bl I q (by simp))
    | bl j => cases ry; exact PySem.EqMixed.eq_str_bool (fin_bl I q (by simp))
    | int j => obtain ⟨t', rfl⟩ := ry; exact PySem.EqMixed.eq_str_int (fin_bl I q (by simp))
    | str j => obtain ⟨t', rfl⟩ := ry; exact eq_str (fin_bl I q dec_str)
    | _ => exact absurd (show false = true from hs) Bool.false_ne_true
  | byt i =>
    obtain ⟨t, rfl⟩ := rx
    cases y with
    | byt j => obtain ⟨t', rfl⟩ := ry; exact PySem.W.eq_bytes (fin_bl I q dec_byt)
    | _ => exact absurd (show false = true from hs) Bool.false_ne_true
  | _ => cases y <;> exact absurd (show false = true from hs) Bool.false_ne_true
theorem op_ne : OpR X (compareOp .NotEq) rNe := by
  intro pins s σ H x y v u Q I rx ry h
  obtain ⟨hs, q⟩ := h
  cases x with
  | non =>
    cases rx
    cases y with
    | non => cases ry; exact PySem.EqNone.ne_none_none (fin_bl I q (by simp))
    | bl j => cases ry; exact PySem.EqNone.ne_none_bool (fin_bl I q (by simp))
    | int j => obtain ⟨t', rfl⟩ := ry; exact PySem.EqNone.ne_none_int (fin_bl I q (by simp))
    | str j => obtain ⟨t', rfl⟩ := ry; exact PySem.EqNone.ne_none_str (fin_bl I q (by simp))
    | _ => exact absurd (show false = true from hs) Bool.false_ne_true
  | bl i =>
    cases rx
    cases y with
    | non => cases ry; exact PySem.EqNone.ne_bool_none (fin_bl I q (by simp))
    | bl j => cases ry; exact ne_bool (fin_bl I q (congrArg not dec_bl))
    | str j => obtain ⟨t', rfl⟩ := ry; exact PySem.EqMixed.ne_bool_str (fin_bl I q (by simp))
    | _ => exact absurd (show false = true from hs) Bool.false_ne_true
  | int i =>
    obtain ⟨t, rfl⟩ := rx
    cases y with
    | non => cases ry; exact PySem.EqNone.ne_int_none (fin_bl I q (by simp))
    | int j => obtain ⟨t', rfl⟩ := ry; exact ne_int (fin_bl I q (congrArg not dec_int))
    | str j => obtain ⟨t', rfl⟩ := ry; exact PySem.EqMixed.ne_int_str (fin_bl I q (by simp))
    | _ => exact absurd (show false = true from hs) Bool.false_ne_true
  | str i =>
    obtain ⟨t, rfl⟩ := rx
    cases y with
    | non => cases ry; exact PySem.EqNone.ne_str_none (fin_bl I q (by simp))
    | bl j => cases ry; exact PySem.EqMixed.ne_str_bool (fin_bl I q (by simp))
    | int j => obtain ⟨t', rfl⟩ := ry; exact PySem.EqMixed.ne_str_int (fin_bl I q (by simp))
    | str j => obtain ⟨t', rfl⟩ := ry; exact ne_str (fin_bl I q (congrArg not dec_str))
    | _ => exact absurd (show false = true from hs) Bool.false_ne_true
  | byt i =>
    obtain ⟨t, rfl⟩ := rx
    cases y with
    | byt j => obtain ⟨t', rfl⟩ := ry; exact PySem.W.ne_bytes (fin_bl I q (congrArg not dec_byt))
    | _ => exact absurd (show false = true from hs) Bool.false_ne_true
  | _ => cases y <;> exact absurd (show false = true from hs) Bool.false_ne_true

theorem op_lt : OpR X (compareOp .Lt) (rI0 fun i j => .bl (decide (i < j))) := opB0 fun _ _ _ _ _ _ _ q => lt_int q
theorem op_gt : OpR X (compareOp .Gt) (rI0 fun i j => .bl (decide (j < i))) := opB0 fun _ _ _ _ _ _ _ q => gt_int q
theorem op_ge : OpR X (compareOp .GtE) (rI0 fun i j => .bl (decide (j ≤ i))) := opB0 fun _ _ _ _ _ _ _ q => ge_int q
theorem nomark (b : Expr) {op : CmpOp} (h : op ≠ .In := by decide) (h2 : op ≠ .NotIn := by decide) : behindInMarks op b = false := by
  have e1 : (op == CmpOp.In) = false := by cases op <;> first | rfl | exact absurd rfl h
  have e2 : (op == CmpOp.NotIn) = false := by cases op <;> first | rfl | exact absurd rfl h2
  cases b <;> simp [behindInMarks, e1, e2]
theorem pe_cmpR {op : CmpOp} {r : R2} (ho : OpR X (compareOp op) r) (ha : PE X a ta) (hb : PE X b tb) (hm : behindInMarks op b = false) : PE X (.Compare a [op] [b] pos) (tOp r ta tb) := by
  intro pins s σ H Q I h
  exact wpAny_Compare1 (binT ha hb I h fun v u s2 x y H2 I2 rx ry q => ho pins s2 σ H2 x y v u Q I2 rx ry q) hm
def tTest (t : TE) : TT := fun σ H Q => t σ H fun x H' => ∃ k, x = .bl k ∧ Q k H'
theorem pt_cmpR {op : CmpOp} {r : R2} (ho : OpR X (compareOp op) r) (ha : PE X a ta) (hb : PE X b tb) (hm : behindInMarks op b = false) : PT X (.Compare a [op] [b] pos) (tTest (tOp r ta tb)) := by
  intro pins s σ H Q I h
  refine wpAny_isTrue_Compare1 (thn (ha pins s σ H _ I h) fun v s1 ⟨x, H1, I1, r1, q1⟩ => thn (hb pins s1 σ H1 _ I1 q1) fun u s2 ⟨y, H2, I2, r2, q2⟩ =>
    thn (ho pins s2 σ H2 x y v u _ I2 r1 r2 q2) fun c s3 ⟨z, H3, I3, r3, k, e, q3⟩ => ?_) hm
  subst e
  cases r3
  exact wpAny_truthy_bool ⟨H3, I3, q3⟩
theorem line63 : (sizeLine : Nat) < 2 ^ 63 := by rw [sizeLine_eq]; decide
theorem vals1 {x : V} {us : List Value} (r : Vals [x] us) : ∃ u, us = [u] ∧ RelV x u := by
  cases r with
  | cons r1 r2 => cases r2; exact ⟨_, rfl, r1⟩
theorem vals2 {x y : V} {us : List Value} (r : Vals [x, y] us) : ∃ u w', us = [u, w'] ∧ RelV x u ∧ RelV y w' := by
  cases r with
  | cons r1 r2 =>
    cases r2 with
    | cons r3 r4 => cases r4; exact ⟨_, _, rfl, r1, r3⟩
theorem call_abs : CallR X (.builtin "abs") (fun xs H Q => ∃ i, xs = [.int i] ∧ Q (.int (if i < 0 then -i else i)) H) := by
  intro pins s σ H xs us Q I r h
  obtain ⟨i, rfl, q⟩ := h
  obtain ⟨u, rfl, t, rfl⟩ := vals1 r
  exact call_abs_int fun u tk => ⟨.int (if i < 0 then -i else i), H, I.tok _, ⟨_, rfl⟩, q⟩
theorem call_max2 (hc : X.calm = true) : CallR X (.builtin "max") (fun xs H Q => ∃ i j, xs = [.int i, .int j] ∧ Q (.int (if j > i then j else i)) H) := by
  intro pins s σ H xs us Q I r h
  obtain ⟨i, j, rfl, q⟩ := h
  obtain ⟨u, w', rfl, ⟨t, rfl⟩, ⟨t', rfl⟩⟩ := vals2 r
  refine max_two_ints (I.ok.hd hc) fun h' tk k => ⟨_, H, I.kept k, ?_, q⟩
  by_cases hj : j > i
  · rw [if_pos hj, if_pos hj]; exact ⟨_, rfl⟩
  · rw [if_neg hj, if_neg hj]; exact ⟨_, rfl⟩
theorem call_min2 (hc : X.calm = true) : CallR X (.builtin "min") (fun xs H Q => ∃ i j, xs = [.int i, .int j] ∧ Q (.int (if j < i then j else i)) H) := by
  intro pins s σ H xs us Q I r h
  obtain ⟨i, j, rfl, q⟩ := h
  obtain ⟨u, w', rfl, ⟨t, rfl⟩, ⟨t', rfl⟩⟩ := vals2 r
  refine min_two_ints (I.ok.hd hc) fun h' tk k => ⟨_, H, I.kept k, ?_, q⟩
  by_cases hj : j < i
  · rw [if_pos hj, if_pos hj]; exact ⟨_, rfl⟩
  · rw [if_neg hj, if_neg hj]; exact ⟨_, rfl⟩
theorem call_int1 : CallR X (.type "int") (fun xs H Q => (∃ i, xs = [.int i] ∧ Q (.int i) H) ∨ ∃ k, xs = [.bl k] ∧ Q (.int (if k then 1 else 0)) H) := by
  intro pins s σ H xs us Q I r h
  rcases h with ⟨i, rfl, q⟩ | ⟨k, rfl, q⟩
  · obtain ⟨u, rfl, t, rfl⟩ := vals1 r
    exact call_int_int ⟨.int i, H, I, ⟨_, rfl⟩, q⟩
  · obtain ⟨u, rfl, r1⟩ := vals1 r
    cases r1
    exact call_int_bool ⟨.int (if k then 1 else 0), H, I.tok _, ⟨_, rfl⟩, q⟩
end
end L2

namespace L2
open PySem PySem.Spec PyProof.Rows

structure ObjM (h : Heap) (x dx C : Addr) (mA : Str → Option Value) : Prop where
  obj : h.get? x = some (PySem.W.instObj C dx)
  ns : h.Ns1 dx mA
  ne : dx ≠ x

theorem lookIn_ns {h : Heap} {dx : Addr} {mA : Str → Option Value} (n : h.Ns1 dx mA) : ∃ od, h.get? dx = some od ∧ ∀ name, PySem.W.lookIn name od = some (mA name) := by
  obtain ⟨o, es, ep, ho, hd, hk, _, hm⟩ := n
  refine ⟨o, ho, fun name => ?_⟩
  have e := hm name
  unfold nsFind findBy at e
  rw [← Array.find?_toList] at e
  unfold PySem.W.lookIn
  rw [hd]
  dsimp only
  split
  · rename_i y q
    rw [q] at e
    exact congrArg some e
  · rename_i q
    rw [q] at e
    have a : es.toList.any (·.refKey) = false := by
      rw [List.any_eq_false]
      intro y hy
      obtain ⟨z, t, hkey⟩ := hk y (Array.mem_toList_iff.mp hy)
      simp [DictEntry.refKey, hkey]
    have a' : ¬ es.toList.any (·.refKey) = true := by rw [a]; exact Bool.false_ne_true
    rw [if_neg a']
    exact congrArg some e

theorem ObjM.look {h : Heap} {x dx C : Addr} {mA : Str → Option Value} (I : ObjM h x dx C mA) : ∃ od, PySem.W.InstAt h x (PySem.W.instObj C dx) C (some od) ∧ ∀ name, PySem.W.lookIn name od = some (mA name) :=
  let ⟨od, ho, hl⟩ := lookIn_ns I.ns
  ⟨od, ⟨I.obj, rfl, rfl, ho⟩, hl⟩

section
variable {prog : Program} {w : World} {A : Around} {E : Value → Shared → Prop} {s : Shared} {K : PySem.W.Frag} {x dx C f : Addr} {mA : Str → Option Value} {name : Str} {v : Value}

theorem get_map {expr : Bool} {Q : Value → Shared → Prop} (X : K.In s.heap) (I : ObjM s.heap x dx C mA) (hg : PySem.W.plainGet K C name = true) (hh : PySem.W.hasDictIn K C = true)
    (ha : PySem.W.findIn K (.ref C) name = some none) (hv : mA name = some v) (hv' : PySem.W.handedIn v = true) (h : Q v { s with toks := s.toks + 1 }) :
    wpAny (model prog w) A (getAttr (.ref x) name expr) Q E s := by
  obtain ⟨od, J, hl⟩ := I.look
  exact PySem.W.get_value X J (PySem.W.plainGet_of hg).1 (PySem.W.findObj_own hh ha rfl (by rw [hl, hv])) hv' h

theorem get_meth {pl : Sem Bool} {Q : Value × List Value → Shared → Prop} (X : K.In s.heap) (I : ObjM s.heap x dx C mA) (hg : PySem.W.plainGet K C name = true)
    (hf : PySem.W.findIn K (.ref C) name = some (some (.ref f))) (ht : PySem.W.isFn K (.ref f) = true) (hv : mA name = none) (h : Q (.ref f, [.ref x]) s) :
    wpAny (model prog w) A (getMethod (.ref x) name pl) Q E s := by
  obtain ⟨od, J, hl⟩ := I.look
  exact PySem.W.method_fn X J (PySem.W.plainGet_of hg).1 (PySem.W.plainGet_of hg).2 hf (beq_iff_eq.mp ht) (by show (PySem.W.lookIn name od).map (·.isSome) = some false; rw [hl, hv]; rfl) h

theorem set_map {ns : List Str} {Q : Unit → Shared → Prop} (X : K.In s.heap) (I : ObjM s.heap x dx C mA)
    (hs : PySem.W.findIn K (.ref C) "__setattr__" = some (some (.builtin "object.__setattr__"))) (hp : PySem.W.plainOver K C = true) (ht : PySem.W.takerIn K C name = some none) (hh : PySem.W.hasDictIn K C = true)
    (hw : PySem.Within mA ns) (hsz : ns.length ≤ sizeLine)
    (h : ∀ h', ObjM h' x dx C (fun y => if y = name then some v else mA y) → Heap.SameBut dx s.heap h' → Q () { s with heap := h', toks := s.toks + 2 }) :
    wpAny (model prog w) A (setAttr (.ref x) name v) Q E s := by
  obtain ⟨od, J, hl⟩ := I.look
  refine PySem.W.set_plain X J hs (PySem.W.osa_open (s := { s with toks := s.toks + 1 }) (r := none) X J hp ht fun b => ?_)
  obtain ⟨cd, hc, hd'⟩ := PySem.W.any_some hh
  have hx : s.heap.get? x = some ⟨.ref C, some dx, .plain, #[]⟩ := I.obj
  refine wpAny_bind (wpAny_pure (wpAny_bind (wpAny_bind (wpAny_loadPart hx (wpAny_bind (PySem.W.Looks.here (s := { s with toks := s.toks + 1 }) (PySem.W.looks_clsIn X hc) ?_))))))
  rw [hd']
  refine wpAny_pure (a := some dx) (wpAny_bind (wpAny_pure (wpAny_bind ?_)))
  refine wpAny_nsSet1 (s := { s with toks := s.toks + 1 }) I.ns fun h' hn2 hs2 => ?_
  obtain ⟨oD, esD, epD, hoD, hdD, hcD⟩ := hn2.count (PySem.Within.cons name v hw)
  refine wpAny_bind (wpAny_lookBehind hoD (by rw [hdD]; exact pastItsLine_dict (Nat.le_trans hcD (by rw [List.length_cons]; omega))) ?_)
  exact wpAny_pure (h _ ⟨(hs2.2 _ (Ne.symm I.ne)).trans I.obj, hn2, I.ne⟩ hs2)

theorem make_map {R : Result → Shared → Prop} {vs : List Value} {kw : List (Str × Value)} (X : K.In s.heap) (hm : PySem.W.makesIn K C = true)
    (hi : PySem.W.findIn K (.ref C) "__init__" = some (some (.ref f))) (hf : PySem.W.typeIn K (.ref f) = some (.type "function"))
    (h : codeAny (model prog w) (A.under (.builtin "type.__call__" ⟨.ref C :: vs, kw⟩)) (.call (.ref f) ⟨.ref (s.heap.objs.size + 1) :: vs, kw⟩) (PySem.W.InitBack (s.heap.objs.size + 1) R)
      { s with heap := (s.heap.push PySem.W.emptyDict).push (PySem.W.instObj C s.heap.objs.size) }) :
    codeAny (model prog w) A (.call (.ref C) ⟨vs, kw⟩) R s := by
  obtain ⟨hh, g, d, t, os⟩ := s
  exact PySem.W.make_core (PySem.W.makes_of X hm) (PySem.W.looks_findIn X hi) (fun self => PySem.W.bind_fn X self hf) (.inl rfl) h
end

def putF (f : Str) (v : V) : List (Str × V) → List (Str × V)
  | [] => [(f, v)]
  | (g, x) :: r => if g = f then (g, v) :: r else (g, x) :: putF f v r
theorem lookup_putF (f g : Str) (v : V) : ∀ fs : List (Str × V), (putF f v fs).lookup g = if g = f then some v else fs.lookup g
  | [] => by
    show List.lookup g [(f, v)] = _
    by_cases h : g = f
    · have hb : (g == f) = true := beq_iff_eq.mpr h
      simp only [List.lookup, hb, if_pos h]
    · have hb : (g == f) = false := beq_eq_false_iff_ne.mpr h
      simp only [List.lookup, hb, if_neg h]
  | (k, x) :: r => by
    have ih := lookup_putF f g v r
    rw [show putF f v ((k, x) :: r) = (if k = f then (k, v) :: r else (k, x) :: putF f v r) from rfl]
    by_cases hk : k = f
    · rw [if_pos hk]
      by_cases h : g = k
      · have hb : (g == k) = true := beq_iff_eq.mpr h
        simp only [List.lookup, hb, if_pos (h.trans hk)]
      · have hb : (g == k) = false := beq_eq_false_iff_ne.mpr h
        simp only [List.lookup, hb, if_neg (fun e : g = f => h (e.trans hk.symm))]
    · rw [if_neg hk]
      by_cases h : g = k
      · have hb : (g == k) = true := beq_iff_eq.mpr h
        simp only [List.lookup, hb, if_neg (fun e : g = f => hk (h.symm.trans e))]
      · have hb : (g == k) = false := beq_eq_false_iff_ne.mpr h
        simp only [List.lookup, hb]
        exact ih
theorem keys_putF (f : Str) (v : V) : ∀ fs : List (Str × V), f ∈ (putF f v fs).map (·.1) ∧ ∀ g, g ∈ fs.map (·.1) → g ∈ (putF f v fs).map (·.1)
  | [] => ⟨by simp [putF], fun g h => by simp at h⟩
  | (k, x) :: r => by
    obtain ⟨i1, i2⟩ := keys_putF f v r
    rw [show putF f v ((k, x) :: r) = (if k = f then (k, v) :: r else (k, x) :: putF f v r) from rfl]
    by_cases hk : k = f
    · rw [if_pos hk]
      subst hk
      exact ⟨by simp, fun g h => by simpa using h⟩
    · rw [if_neg hk]
      refine ⟨?_, fun g h => ?_⟩
      · rw [List.map_cons]
        exact List.mem_cons_of_mem _ i1
      · rw [List.map_cons] at h ⊢
        rcases List.mem_cons.mp h with e | e
        · exact List.mem_cons.mpr (.inl e)
        · exact List.mem_cons_of_mem _ (i2 g e)
theorem length_putF (f : Str) (v : V) : ∀ fs : List (Str × V), (putF f v fs).length ≤ fs.length + 1
  | [] => by simp [putF]
  | (k, x) :: r => by
    have ih := length_putF f v r
    rw [show putF f v ((k, x) :: r) = (if k = f then (k, v) :: r else (k, x) :: putF f v r) from rfl]
    by_cases hk : k = f
    · rw [if_pos hk, List.length_cons, List.length_cons]; omega
    · rw [if_neg hk, List.length_cons, List.length_cons]; omega

theorem RelO.some_of {v : V} {o : Option Value} (r : RelO (some v) o) : ∃ u, o = some u ∧ RelV v u := by
  cases o with
  | none => exact (show False from r).elim
  | some u => exact ⟨u, rfl, r⟩
theorem RelO.none_of {o : Option Value} (r : RelO none o) : o = none := by
  cases o with
  | none => rfl
  | some u => exact (show False from r).elim
theorem handed_of {v : V} {u : Value} (r : RelV v u) : PySem.W.handedIn u = true := by
  cases v with
  | non => cases (show u = Value.none from r); rfl
  | bl b => cases (show u = Value.bool b from r); rfl
  | int i => obtain ⟨t, e⟩ := (show ∃ t, u = Value.int i t from r); cases e; rfl
  | str x => obtain ⟨t, e⟩ := (show ∃ t, u = Value.str x t from r); cases e; rfl
  | byt b => obtain ⟨t, e⟩ := (show ∃ t, u = Value.bytes b t from r); cases e; rfl
  | flt b => obtain ⟨t, e⟩ := (show ∃ t, u = Value.float b t from r); cases e; rfl
  | ref a => cases (show u = Value.ref a from r); rfl
  | ty n => cases (show u = Value.type n from r); rfl

section
variable {P : Program} {w : World} {H H' : Hp} {h h' : Heap} {a C dx : Addr} {fs fs' : List (Str × V)}
theorem ins_get (hok : HOk P w H h) (e : H a = some (.ins C dx fs)) : ∃ mA, ObjM h a dx C mA ∧ (∀ f, RelO (fs.lookup f) (mA f)) ∧ PySem.Within mA (fs.map (·.1)) ∧ fs.length ≤ 1000 ∧ H dx = some (.own a) := by
  obtain ⟨d, z, ne, ob, mA, n, r, q⟩ := (show ObjOk P w H h a (.ins C dx fs) from hok a _ e)
  exact ⟨mA, ⟨ob, n, ne⟩, r, q, z, d⟩
end

structure Cls (K : PySem.W.Frag) (C : Addr) : Prop where
  pg : PySem.W.plainGet K C Str.empty = true
  hd : PySem.W.hasDictIn K C = true
  po : PySem.W.plainOver K C = true
  sa : PySem.W.findIn K (.ref C) "__setattr__" = some (some (.builtin "object.__setattr__"))
theorem Cls.get {K : PySem.W.Frag} {C : Addr} (c : Cls K C) (f : Str) : PySem.W.plainGet K C f = true := c.pg
def NoAttr (K : PySem.W.Frag) (C : Addr) (f : Str) : Prop := PySem.W.findIn K (.ref C) f = some none
theorem NoAttr.taker {K : PySem.W.Frag} {C : Addr} {f : Str} (n : NoAttr K C f) : PySem.W.takerIn K C f = some none := by
  unfold PySem.W.takerIn
  rw [show PySem.W.findIn K (.ref C) f = some none from n]
  rfl
structure Meth (K : PySem.W.Frag) (C : Addr) (m : Str) (f : Addr) : Prop where
  at_ : PySem.W.findIn K (.ref C) m = some (some (.ref f))
  fn : PySem.W.isFn K (.ref f) = true
  kp : PySem.W.keepIn K (.ref f) = true

section
variable {X : Cx} {pins : List (Addr × Obj)} {σ : St} {H : Hp} {s : Shared} {a C dx : Addr} {fs : List (Str × V)} {f : Str} {v : V} {A : Around} {E : Value → Shared → Prop}

theorem getattr_ok {b : Bool} {Q : Value → Shared → Prop} (I : Inv X pins σ H s) (e : H a = some (.ins C dx fs)) (c : Cls X.K C) (n : NoAttr X.K C f) (l : fs.lookup f = some v)
    (h : ∀ u s', Inv X pins σ H s' → RelV v u → Q u s') : wpAny (model X.prog X.w) A (getAttr (.ref a) f b) Q E s := by
  obtain ⟨mA, O, r, _, _, _⟩ := ins_get I.hok e
  obtain ⟨u, hu, ru⟩ := RelO.some_of (v := v) (o := mA f) (by rw [← l]; exact r f)
  exact get_map I.kIn O (c.get f) c.hd n hu (handed_of ru) (h u _ (I.tok _) ru)

theorem getmeth_ok {m : Str} {g : Addr} {pl : Sem Bool} {Q : Value × List Value → Shared → Prop} (I : Inv X pins σ H s) (e : H a = some (.ins C dx fs)) (c : Cls X.K C) (k : Meth X.K C m g) (l : fs.lookup m = none)
    (h : Q (.ref g, [.ref a]) s) : wpAny (model X.prog X.w) A (getMethod (.ref a) m pl) Q E s := by
  obtain ⟨mA, O, r, _, _, _⟩ := ins_get I.hok e
  have hn : mA m = none := RelO.none_of (by rw [← l]; exact r m)
  exact get_meth I.kIn O (c.get m) k.at_ k.fn hn h

theorem setattr_ok {y : V} {u : Value} {Q : Unit → Shared → Prop} (I : Inv X pins σ H s) (e : H a = some (.ins C dx fs)) (c : Cls X.K C) (n : NoAttr X.K C f) (hl : fs.length < 1000) (ry : RelV y u)
    (h : ∀ s', Inv X pins σ (upd H a (.ins C dx (putF f y fs))) s' → Q () s') : wpAny (model X.prog X.w) A (setAttr (.ref a) f u) Q E s := by
  obtain ⟨mA, O, r, wi, _, ho⟩ := ins_get I.hok e
  have hz : (fs.map (·.1)).length ≤ sizeLine := by rw [List.length_map, sizeLine_eq]; omega
  refine set_map I.kIn O c.sa c.po n.taker c.hd wi hz fun h' O' sb => h _ ?_
  have hd : ∃ o, h'.get? dx = some o := let ⟨o, _, _, e', _⟩ := O'.ns; ⟨o, e'⟩
  refine I.write (x := a) (e := dx) (by rw [e]; exact True.intro) (.inr ho) (fun b q hb z => (sb.2 b hb).trans z) hd ?_
  refine ⟨by rw [upd_ne O.ne]; exact ho, ?_, O.ne, O'.obj, _, O'.ns, fun g => ?_, fun g hg => ?_⟩
  · have := length_putF f y fs; omega
  · show RelO ((putF f y fs).lookup g) (if g = f then some u else mA g)
    rw [lookup_putF]
    by_cases q : g = f
    · rw [if_pos q, if_pos q]; exact ry
    · rw [if_neg q, if_neg q]; exact r g
  · by_cases q : g = f
    · rw [q]; exact (keys_putF f y fs).1
    · refine (keys_putF f y fs).2 g (wi g fun z => hg ?_)
      show (if g = f then some u else mA g) = none
      rw [if_neg q]; exact z

theorem Inv.made (I : Inv X pins σ H s) : Inv X pins σ (upd (upd H s.heap.objs.size (.own (s.heap.objs.size + 1))) (s.heap.objs.size + 1) (.ins C s.heap.objs.size []))
    { s with heap := (s.heap.push PySem.W.emptyDict).push (PySem.W.instObj C s.heap.objs.size) } := by
  have e1 : (s.heap.push PySem.W.emptyDict).get? s.heap.objs.size = some PySem.W.emptyDict := Heap.get?_push_size s.heap rfl
  have e2 : ((s.heap.push PySem.W.emptyDict).push (PySem.W.instObj C s.heap.objs.size)).get? (s.heap.objs.size + 1) = some (PySem.W.instObj C s.heap.objs.size) := by
    have := Heap.get?_push_size (s.heap.push PySem.W.emptyDict) (o := PySem.W.instObj C s.heap.objs.size) rfl
    rwa [Heap.size_push] at this
  have e3 : (s.heap.push PySem.W.emptyDict).Ns s.heap.objs.size (fun _ => none) := ⟨PySem.W.emptyDict, #[], _, e1, rfl, (fun e he => absurd he (by simp)), fun _ => rfl⟩
  have I1 := I.laid (a := s.heap.objs.size) (o := .own (s.heap.objs.size + 1)) (h' := s.heap.push PySem.W.emptyDict) (t' := s.toks) (fun b u q => Heap.get?_push_of_some _ q) (Nat.le_refl _) ⟨_, e1⟩
  refine I1.laid (a := s.heap.objs.size + 1) (o := .ins C s.heap.objs.size []) (t' := s.toks) (fun b u q => Heap.get?_push_of_some _ q) (Nat.le_of_eq (Heap.size_push _ _)) ?_
  have ne : s.heap.objs.size ≠ s.heap.objs.size + 1 := Nat.ne_of_lt (Nat.lt_succ_self _)
  refine ⟨by rw [upd_ne ne, upd_same], Nat.zero_le _, ne, e2, fun _ => none, (Heap.Ns1.of_empty e3).at fun o q => Heap.get?_push_of_some _ q, fun _ => True.intro, fun y hy => absurd rfl hy⟩

theorem attr_of {prog : Program} {w : World} {env : Env} {e : Expr} {f : Str} {pos : Pos} {s : Shared} {Q : Value → Shared → Prop} (hb : attributeBase e f env (eval e env) = eval e env)
    (h : wpAny (model prog w) A (eval e env) (fun o s₁ => wpAny (model prog w) A (getAttr o f true) Q E s₁) E s) : wpAny (model prog w) A (eval (.Attribute e f pos) env) Q E s :=
  Attribute_any_ h (by rw [arm_eval_Attribute, hb])
end

def tFld (K : PySem.W.Frag) (ta : TE) (f : Str) : TE := fun σ H Q => ta σ H fun x H1 => ∃ a C dx fs v, x = .ref a ∧ H1 a = some (.ins C dx fs) ∧ Cls K C ∧ NoAttr K C f ∧ fs.lookup f = some v ∧ Q v H1
def sFld (K : PySem.W.Frag) (ta tv : TE) (f : Str) : TS := fun D σ H => tv σ H fun y H1 => ta σ H1 fun x H2 => ∃ a C dx fs, x = .ref a ∧ H2 a = some (.ins C dx fs) ∧ Cls K C ∧ NoAttr K C f ∧ fs.length < 1000 ∧
  D.nx σ (upd H2 a (.ins C dx (putF f y fs)))
section
variable {X : Cx} {o e value : Expr} {f : Str} {pos pos' tpos : Pos} {ta tv : TE}
theorem pe_fld (he : PE X e ta) (hb : attributeBase e f X.env (eval e X.env) = eval e X.env) : PE X (.Attribute e f pos) (tFld X.K ta f) := by
  intro pins s σ H Q I h
  refine attr_of hb (thn (he pins s σ H _ I h) fun u s1 ⟨x, H1, I1, rx, a, C, dx, fs, v, ex, ea, c, n, l, q⟩ => ?_)
  subst ex
  obtain rfl : u = Value.ref a := rx
  exact getattr_ok I1 ea c n l fun u' s2 I2 ru => ⟨v, H1, I2, ru, q⟩
theorem ps_fld (ha : PE X o ta) (hv : PE X value tv) (hs : swapsWith value (some (.Attribute o f pos')) pos.line X.env = pure false) : PS X (.Assign [.Attribute o f pos'] value pos) (sFld X.K ta tv f) := by
  intro pins s σ H D I h
  refine plainObj_wpAny_Assign_Attribute (thn (hv pins s σ H _ I h) fun u s1 ⟨y, H1, I1, ry, q⟩ => thn (ha pins s1 σ H1 _ I1 q) fun ov s2 ⟨x, H2, I2, rx, a, C, dx, fs, ex, ea, c, n, l, q2⟩ => ?_) hs
  subst ex
  obtain rfl : ov = Value.ref a := rx
  exact setattr_ok I2 ea c n l ry fun s3 I3 => ⟨σ, _, I3, q2⟩
end

section
variable {X : Cx} {pins : List (Addr × Obj)} {σ : St} {H : Hp} {s : Shared} {A : Around} {E : Value → Shared → Prop} {Q : Value → Shared → Prop} {c : Value} {b : Bool}
inductive TyOf (K : PySem.W.Frag) (H : Hp) : V → Value → Prop where
  | non : TyOf K H .non (.type "NoneType")
  | bl (x : Bool) : TyOf K H (.bl x) (.type "bool")
  | int (i : Int) : TyOf K H (.int i) (.type "int")
  | str (x : Str) : TyOf K H (.str x) (.type "str")
  | flt (x : UInt64) : TyOf K H (.flt x) (.type "float")
  | lst {a : Addr} {xs : List V} (e : H a = some (.lst xs)) : TyOf K H (.ref a) (.type "list")
  | frz {a : Addr} {o : Obj} {xs : List V} (e : H a = some (.frz o (.lst xs))) : TyOf K H (.ref a) (.type "list")
  | tup {a : Addr} {xs : List V} (e : H a = some (.tup xs)) : TyOf K H (.ref a) (.type "tuple")
  | dK {a : Addr} {kvs : List (Key × V)} (e : H a = some (.dK kvs)) : TyOf K H (.ref a) (.type "dict")
  | dT {a : Addr} {kvs : List (List Key × V)} (e : H a = some (.dT kvs)) : TyOf K H (.ref a) (.type "dict")
  | ins {a C dx : Addr} {fs : List (Str × V)} (e : H a = some (.ins C dx fs)) (cl : Cls K C) (ha : PySem.W.findIn K (.ref C) "__class__" = some (some (.builtin "object.__class__")))
      (hn : PySem.W.specialIn K (.builtin "object.__class__") "__get__" = some (some (.builtin "getset_descriptor.__get__"))) (htk : PySem.W.takesIn K (.builtin "object.__class__") = some true)
      (hm : PySem.W.mroIn K C (.type "object") = some true) : TyOf K H (.ref a) (.ref C)
theorem isinst_ok {x : V} {u t : Value} (I : Inv X pins σ H s) (rx : RelV x u) (ty : TyOf X.K H x t) (e : PySem.W.kitOne X.K t c = some b) (h : ∀ tk, Q (.bool b) { s with toks := tk }) :
    wpAny (model X.prog X.w) A (call (.builtin "isinstance") [u, c]) Q E s := by
  cases ty with
  | non => cases (show u = Value.none from rx); exact PySem.W.kia_one PySem.W.kitx_none I.kIn True.intro e (fun z => nomatch z) h
  | bl y => cases (show u = Value.bool y from rx); exact PySem.W.kia_one PySem.W.kitx_bool I.kIn True.intro e (fun z => nomatch z) h
  | int i => obtain ⟨t, q⟩ := (show ∃ t, u = Value.int i t from rx); cases q; exact PySem.W.kia_one PySem.W.kitx_int I.kIn True.intro e (fun z => nomatch z) h
  | str y => obtain ⟨t, q⟩ := (show ∃ t, u = Value.str y t from rx); cases q; exact PySem.W.kia_one PySem.W.kitx_str I.kIn True.intro e (fun z => nomatch z) h
  | flt y => obtain ⟨t, q⟩ := (show ∃ t, u = Value.float y t from rx); cases q; exact PySem.W.kia_one PySem.W.kitx_float I.kIn True.intro e (fun z => nomatch z) h
  | @lst a xs ea =>
    cases (show u = Value.ref a from rx)
    obtain ⟨_, _, n, _, h1⟩ := (show ObjOk X.prog X.w H s.heap a (.lst xs) from I.hok a _ ea)
    exact PySem.W.kia_one PySem.W.kitx_list I.kIn ⟨_, h1, rfl⟩ e (fun z => nomatch z) h
  | @frz a ob xs ea =>
    cases (show u = Value.ref a from rx)
    obtain ⟨_, _, _, n, _, h1⟩ := (show ObjOk X.prog X.w H s.heap a (.frz ob (.lst xs)) from I.hok a _ ea)
    exact PySem.W.kia_one PySem.W.kitx_list I.kIn ⟨_, h1, rfl⟩ e (fun z => nomatch z) h
  | @tup a xs ea =>
    cases (show u = Value.ref a from rx)
    obtain ⟨_, _, _, p⟩ := (show ObjOk X.prog X.w H s.heap a (.tup xs) from I.hok a _ ea)
    obtain ⟨o, h1, h2, _⟩ := p
    exact PySem.W.kia_one PySem.W.kitx_tuple I.kIn ⟨o, h1, h2⟩ e (fun z => nomatch z) h
  | @dK a kvs ea =>
    cases (show u = Value.ref a from rx)
    obtain ⟨_, _, vs, _, p⟩ := (show ObjOk X.prog X.w H s.heap a (.dK kvs) from I.hok a _ ea)
    obtain ⟨o, es, ep, h1, h2, _⟩ := p
    exact PySem.W.kia_one PySem.W.kitx_dict I.kIn ⟨o, h1, h2.1⟩ e (fun z => nomatch z) h
  | @dT a kvs ea =>
    cases (show u = Value.ref a from rx)
    obtain ⟨_, _, xs, _, o, es, ep, h1, h2, _⟩ := (show ObjOk X.prog X.w H s.heap a (.dT kvs) from I.hok a _ ea)
    exact PySem.W.kia_one PySem.W.kitx_dict I.kIn ⟨o, h1, h2.1⟩ e (fun z => nomatch z) h
  | @ins a C dx fs ea cl ha hn htk hm =>
    cases (show u = Value.ref a from rx)
    obtain ⟨mA, O, _⟩ := ins_get I.hok ea
    obtain ⟨od, J, _⟩ := O.look
    exact PySem.W.kia_one (PySem.W.kitx_own (cl.get _) cl.hd ha hn htk hm) I.kIn J e (fun z => nomatch z) h
end
end L2

namespace L2
open PySem PySem.Spec PyProof.Rows

structure Room (k : Nat) (A : Around) : Prop where
  hd : A.handled = none
  dp : A.depth + 3 * k + 5 < recursionLimit
  un : A.units + 16 * k + 200 < cLine
theorem Room.mono {j k : Nat} {A : Around} (r : Room k A) (h : j ≤ k) : Room j A := ⟨r.hd, by have := r.dp; omega, by have := r.un; omega⟩
theorem Room.deeper {k : Nat} {A : Around} (r : Room (k + 1) A) (env : Env) : Room k (A.deeper env) :=
  ⟨r.hd, by have := r.dp; show A.depth + 1 + 3 * k + 5 < _; omega, by have := r.un; show A.units + 3 + 16 * k + 200 < _; omega⟩
theorem make_depth {A : Around} {C : Addr} {us : List Value} {kw : List (Str × Value)} : (A.under (.builtin "type.__call__" ⟨.ref C :: us, kw⟩)).depth = A.depth + 1 := by
  first | rfl | simp [Around.under, Code.weight, Code.isCreation, Code.isGuard, Code.isCaller, Code.frames, Code.isFrame, guardIds]
theorem make_units {A : Around} {C : Addr} {us : List Value} {kw : List (Str × Value)} : (A.under (.builtin "type.__call__" ⟨.ref C :: us, kw⟩)).units = A.units + 1 := by
  first | rfl | simp [Around.under, Code.cUnits, Code.frames, Code.isFrame]
theorem Room.make {k : Nat} {A : Around} (r : Room (k + 1) A) (C : Addr) (us : List Value) (kw : List (Str × Value)) : Room k (A.under (.builtin "type.__call__" ⟨.ref C :: us, kw⟩)) :=
  ⟨r.hd, by have := r.dp; rw [make_depth]; omega, by have := r.un; rw [make_units]; omega⟩
theorem Room.depth {k : Nat} {A : Around} (r : Room k A) : A.depth < recursionLimit := by have := r.dp; omega
theorem Room.units {k : Nat} {A : Around} (r : Room k A) : A.units + 64 < cLine := by have := r.un; omega
def tNil : TA := fun _ H Q => Q [] H
def tCons (ta : TE) (tr : TA) : TA := fun σ H Q => ta σ H fun x H1 => tr σ H1 fun xs H2 => Q (x :: xs) H2
section
variable {X : Cx} {e : Expr} {es : List Expr} {te : TE} {t : TA} {pos : Pos}
theorem pa_nil : PA X [] tNil := fun _ _ _ _ H Q I h => Calls.spliced_nil ⟨[], H, I, .nil, h⟩
theorem pa_cons (ha : PE X e te) (hr : PA X es t) (hs : starEach (e :: es) X.env = (false, eval e X.env) :: starEach es X.env := by rfl) : PA X (e :: es) (tCons te t) := by
  intro pos pins s σ H Q I h
  rw [hs]
  show wpAny _ _ (spliced ((false, eval e X.env) :: backTo pos (starEach es X.env))) _ _ s
  refine Calls.spliced_cons (thn (ha pins s σ H _ I h) fun u s1 ⟨x, H1, I1, r1, q1⟩ => ?_)
  exact thn (hr pos pins s1 σ H1 _ I1 q1) fun us s2 ⟨xs, H2, I2, r2, q2⟩ => ⟨x :: xs, H2, I2, .cons r1 r2, q2⟩

def tTup (t : TA) : TE := fun σ H Q => t σ H fun xs H1 => xs.length ≤ sizeLine ∧ ∀ p, H1 p = none → Q (.ref p) (upd H1 p (.tup xs))
def tLst (t : TA) : TE := fun σ H Q => t σ H fun xs H1 => xs.length ≤ sizeLine ∧ ∀ p, H1 p = none → Q (.ref p) (upd H1 p (.lst xs))
theorem pe_tup {x1} (h : PA X es t) : PE X (.Tuple es x1 pos) (tTup t) := by
  intro pins s σ H Q I hq
  refine wpAny_Tuple_spliced (thn (h pos pins s σ H _ I hq) fun us s1 ⟨xs, H1, I1, r, z, q⟩ => ⟨by rw [← r.length]; exact z, ?_⟩)
  have hf : H1 s1.heap.objs.size = none := I1.hok.fresh (Nat.le_refl _)
  refine ⟨.ref s1.heap.objs.size, upd H1 s1.heap.objs.size (.tup xs), I1.laid (t' := s1.toks) (fun b u e => Heap.get?_push_of_some _ e) (Nat.le_refl _) ?_, rfl, q _ hf⟩
  exact ⟨z, us, r, ⟨_, Heap.get?_push_size _ rfl, rfl, _, rfl⟩⟩
theorem pe_lst (h : PA X es t) : PE X (.List es pos) (tLst t) := by
  intro pins s σ H Q I hq
  refine wpAny_List_spliced (thn (h pos pins s σ H _ I hq) fun us s1 ⟨xs, H1, I1, r, z, q⟩ => ⟨by rw [← r.length]; exact z, ?_⟩)
  have hf : H1 s1.heap.objs.size = none := I1.hok.fresh (Nat.le_refl _)
  refine ⟨.ref s1.heap.objs.size, upd H1 s1.heap.objs.size (.lst xs), I1.laid (t' := s1.toks) (fun b u e => Heap.get?_push_of_some _ e) (Nat.le_refl _) ?_, rfl, q _ hf⟩
  exact ⟨z, us, 0, r, Heap.get?_push_size _ rfl⟩
end

abbrev Sp := List V → Hp → VK → XK → Prop
abbrev CXT := List Env → Hp → Shared → XK → Value → Shared → Prop

structure Env0 (P : Program) (w : World) (K : PySem.W.Frag) (mg : Str → Option Value) (base : Heap) (A : Around) (outer : List Env) (s : Shared) (H : Hp) : Prop where
  frames : A.frames = some outer
  mod : Mod K mg base
  bs : ∀ b o, base.get? b = some o → s.heap.get? b = some o ∧ H b = none
  bsz : base.objs.size ≤ s.heap.objs.size
  funs : s.heap.FunFrames base outer
  frf : ∀ b ∈ frs outer, H b = none
  hok : HOk P w H s.heap
  bare : AllBare s.gens
def CE (outer : List Env) (P : Program) (w : World) (H : Hp) (s : Shared) (Q : VK) (u : Value) (s' : Shared) : Prop :=
  ∃ v H', s'.os = s.os ∧ AllBare s'.gens ∧ Un (frs outer) [] H H' s.heap s'.heap ∧ HOk P w H' s'.heap ∧ RelV v u ∧ Q v H'
def CR (CX : CXT) (outer : List Env) (P : Program) (w : World) (H : Hp) (s : Shared) (Q : VK) (E : XK) (r : Result) (s' : Shared) : Prop :=
  match r with
  | .ok (.ret u) => CE outer P w H s Q u s'
  | .ok _ => False
  | .error e => CX outer H s E e s'
structure FnOk (P : Program) (w : World) (K : PySem.W.Frag) (mg : Str → Option Value) (base : Heap) (CX : CXT) (k : Nat) (f : Addr) (fd : FuncData) (ps : List Str) (sp : Sp) : Prop where
  len : ∀ vs H Q E, sp vs H Q E → vs.length = ps.length
  run : ∀ (A : Around) (outer : List Env) (s : Shared) (H : Hp) (args : Args) (us : List Value) (vs : List V) (Q : VK) (E : XK), Room k A → Env0 P w K mg base A outer s H → BindsTo s fd args (ps.zip us) → Vals vs us → sp vs H Q E →
    codeAny (model P w) A (.call (.ref f) args) (CR CX outer P w H s Q E) s
theorem Env0.make {P : Program} {w : World} {K : PySem.W.Frag} {mg : Str → Option Value} {base : Heap} {A : Around} {outer : List Env} {s : Shared} {H : Hp} (e : Env0 P w K mg base A outer s H) (C : Addr) (us : List Value) (kw : List (Str × Value)) :
    Env0 P w K mg base (A.under (.builtin "type.__call__" ⟨.ref C :: us, kw⟩)) outer s H := ⟨by first | exact e.frames | (simpa [Around.under, Code.envs, Code.isFrame, pushEnvs] using e.frames), e.mod, e.bs, e.bsz, e.funs, e.frf, e.hok, e.bare⟩
section
variable {X : Cx} {pins : List (Addr × Obj)} {σ : St} {H : Hp} {s s' : Shared}
theorem Inv.env0 (I : Inv X pins σ H s) : Env0 X.prog X.w X.K X.mg X.base X.A X.stack s H :=
  ⟨I.ok.frames, I.ok.mod, I.bs, Nat.le_trans I.ok.bsz I.sz, I.stack, I.stkFree, I.hok, I.bare⟩
theorem Inv.after {Q : VK} {u : Value} (I : Inv X pins σ H s) (h : CE X.stack X.prog X.w H s Q u s') : EP X pins σ Q u s' := by
  obtain ⟨v, H', os, bare, un, hok, r, q⟩ := h
  obtain ⟨hh, g, d, t, os'⟩ := s'
  obtain rfl : os' = s.os := os
  exact ⟨v, H', I.call (h' := hh) (g' := g) (d' := d) (t' := t) (ch := []) un hok bare (fun b z => absurd z (by simp)), r, q⟩
end

def tCall (sp : Sp) (dvs : List V) (E : XK) (t : TA) : TE := fun σ H Q => t σ H fun vs H1 => sp (vs ++ dvs) H1 Q E
def tMeth (C : Addr) (m : Str) (sp : Sp) (dvs : List V) (E : XK) (ta : TE) (t : TA) : TE := fun σ H Q => ta σ H fun x H1 => ∃ a dx fs, x = .ref a ∧ H1 a = some (.ins C dx fs) ∧ fs.lookup m = none ∧
  t σ H1 fun vs H2 => sp (x :: (vs ++ dvs)) H2 Q E
def tMake (C : Addr) (sp : Sp) (dvs : List V) (E : XK) (t : TA) : TE := fun σ H Q => t σ H fun vs H1 => ∀ x dx, H1 x = none → H1 dx = none → dx ≠ x →
  sp (.ref x :: (vs ++ dvs)) (upd (upd H1 dx (.own x)) x (.ins C dx [])) (fun v H2 => v = .non ∧ Q (.ref x) H2) E

def Binds (K : PySem.W.Frag) (fd : FuncData) (ps : List Str) (ds : List Value) : Prop :=
  ∀ (s : Shared) (us : List Value), K.In s.heap → (us ++ ds).length = ps.length → BindsTo s fd ⟨us, []⟩ (ps.zip (us ++ ds))
theorem Binds.all {K : PySem.W.Frag} {fd : FuncData} {ps : List Str} (h : ∀ us : List Value, us.length = ps.length → bindArgs fd ⟨us, []⟩ = pure (ps.zip us)) : Binds K fd ps [] := fun s us _ hl => by
  rw [List.append_nil] at hl ⊢
  exact .of_eq (h us hl)

def Passes (CX : CXT) (X : Cx) (E : XK) : Prop := ∀ (pins : List (Addr × Obj)) (σ : St) (H : Hp) (s : Shared) (e : Value) (s' : Shared), Inv X pins σ H s → CX X.stack H s E e s' → X.xe e s'

section
variable {X : Cx} {CX : CXT} {k : Nat} {f C : Addr} {fd : FuncData} {ps : List Str} {sp : Sp} {dvs : List V} {ds : List Value} {E : XK} {x m : Str} {p pos apos : Pos} {e o : Expr} {es : List Expr} {ta : TE} {t : TA}

theorem run_fn {pins : List (Addr × Obj)} {σ : St} {H : Hp} {s : Shared} {Q : VK} {us : List Value} {vs : List V} (F : FnOk X.prog X.w X.K X.mg X.base CX k f fd ps sp) (hr : Room k X.A) (hb : Binds X.K fd ps ds) (hd : Vals dvs ds) (hx : Passes CX X E)
    (I : Inv X pins σ H s) (r : Vals vs us) (h : sp (vs ++ dvs) H Q E) : wpAny (model X.prog X.w) X.A (call (.ref f) us) (EP X pins σ Q) X.xe s := by
  have r2 : Vals (vs ++ dvs) (us ++ ds) := r.append hd
  have hl : (us ++ ds).length = ps.length := by rw [← r2.length]; exact F.len _ _ _ _ h
  refine wpAny_call (codeAny_mono (F.run X.A X.stack s H ⟨us, []⟩ (us ++ ds) (vs ++ dvs) Q E hr I.env0 (hb s us I.kIn hl) r2 h) fun r s' hq => ?_)
  cases r with
  | error e => exact hx pins σ H s e s' I hq
  | ok fl =>
    cases fl with
    | ret u => exact I.after hq
    | next => exact False.elim hq
    | brk => exact False.elim hq
    | cont => exact False.elim hq

theorem pe_call (F : FnOk X.prog X.w X.K X.mg X.base CX k f fd ps sp) (hr : Room k X.A) (hg : Gl X x) (hm : X.mg x = some (.ref f)) (hk : PySem.W.keepIn X.K (.ref f) = true) (hb : Binds X.K fd ps ds) (hd : Vals dvs ds) (hx : Passes CX X E)
    (ha : PA X (e :: es) t) (hdb : (x == ("__debug__" : Str)) = false := by decide) (he : starEach (e :: es) X.env = (false, eval e X.env) :: starEach es X.env := by rfl) (hpl : (backTo pos (starEach es X.env)).any (·.1) = false := by rfl) :
    PE X (.Call (.Name x p) (e :: es) [] pos) (tCall sp dvs E t) := by
  intro pins s σ H Q I h
  refine wpAny_Call_Name_kw (ld_glob I hg hm ?_ hdb)
  refine PySem.W.callWith_K (h₀ := X.base) I.ok.mod.kin hk (thn (ha pos pins s σ H _ I h) fun us s1 ⟨vs, H1, I1, r, q⟩ => ⟨I1.kIn, ?_⟩) he hpl
  exact run_fn F hr hb hd hx I1 r q
theorem pe_meth {pl : Sem Bool} (he : PE X o ta) (c : Cls X.K C) (hm : Meth X.K C m f) (F : FnOk X.prog X.w X.K X.mg X.base CX k f fd ps sp) (hr : Room k X.A) (hb : Binds X.K fd ps ds) (hd : Vals dvs ds) (hx : Passes CX X E) (ha : PA X (e :: es) t)
    (hst : starEach (e :: es) X.env = (false, eval e X.env) :: starEach es X.env := by rfl) (hpl : (backTo pos (starEach es X.env)).any (·.1) = false := by rfl)
    (ht : eval (.Call (.Attribute o m apos) (e :: es) [] pos) X.env = (do
      let ov ← eval o X.env
      standAt apos.atName
      let (f, first) ← holding [ov] (getMethod ov m pl)
      callWith pos f first (backTo pos (starEach (e :: es) X.env)) (backToKw pos (keywordEach [] X.env))) := by rfl) :
    PE X (.Call (.Attribute o m apos) (e :: es) [] pos) (tMeth C m sp dvs E ta t) := by
  intro pins s σ H Q I h
  refine PySem.W.methodCall_KW (pl := pl) (thn (he pins s σ H _ I h) fun u s1 ⟨x, H1, I1, rx, a, dx, fs, ex, ea, l, q⟩ => ?_) ht
  subst ex
  obtain rfl : u = Value.ref a := rx
  refine getmeth_ok I1 ea c hm l ?_
  refine PySem.W.callWith_K (first := [.ref a]) (h₀ := X.base) I.ok.mod.kin hm.kp (thn (ha pos pins s1 σ H1 _ I1 q) fun us s2 ⟨vs, H2, I2, r, q2⟩ => ⟨I2.kIn, ?_⟩) hst hpl
  exact run_fn (us := .ref a :: us) (vs := .ref a :: vs) F hr hb hd hx I2 (.cons rfl r) q2
theorem pe_meth0 {pl : Sem Bool} (he : PE X o ta) (c : Cls X.K C) (hm : Meth X.K C m f) (F : FnOk X.prog X.w X.K X.mg X.base CX k f fd ps sp) (hr : Room k X.A) (hb : Binds X.K fd ps ds) (hd : Vals dvs ds) (hx : Passes CX X E)
    (ht : eval (.Call (.Attribute o m apos) [] [] pos) X.env = (do
      let ov ← eval o X.env
      standAt apos.atName
      let (f, first) ← holding [ov] (getMethod ov m pl)
      callWith pos f first (backTo pos (starEach [] X.env)) (backToKw pos (keywordEach [] X.env))) := by rfl) :
    PE X (.Call (.Attribute o m apos) [] [] pos) (tMeth C m sp dvs E ta tNil) := by
  intro pins s σ H Q I h
  refine PySem.W.methodCall_KW (pl := pl) (thn (he pins s σ H _ I h) fun u s1 ⟨x, H1, I1, rx, a, dx, fs, ex, ea, l, q⟩ => ?_) ht
  subst ex
  obtain rfl : u = Value.ref a := rx
  refine getmeth_ok I1 ea c hm l ?_
  exact PySem.W.callWith_K0 (first := [.ref a]) I1.kIn hm.kp (run_fn (us := [.ref a]) (vs := [.ref a]) F hr hb hd hx I1 (.cons rfl .nil) q)

structure Mk (K : PySem.W.Frag) (C f : Addr) : Prop where
  makes : PySem.W.makesIn K C = true
  init : PySem.W.findIn K (.ref C) "__init__" = some (some (.ref f))
  fn : PySem.W.isFn K (.ref f) = true
  kp : PySem.W.keepIn K (.ref C) = true

theorem run_make {pins : List (Addr × Obj)} {σ : St} {H : Hp} {s : Shared} {Q : VK} {us : List Value} {vs : List V} (M : Mk X.K C f) (F : FnOk X.prog X.w X.K X.mg X.base CX k f fd ps sp) (hr : Room (k + 1) X.A) (hb : Binds X.K fd ps ds) (hd : Vals dvs ds)
    (hx : Passes CX X E) (I : Inv X pins σ H s) (r : Vals vs us)
    (h : ∀ x dx, H x = none → H dx = none → dx ≠ x → sp (.ref x :: (vs ++ dvs)) (upd (upd H dx (.own x)) x (.ins C dx [])) (fun v H2 => v = .non ∧ Q (.ref x) H2) E) :
    wpAny (model X.prog X.w) X.A (call (.ref C) us) (EP X pins σ Q) X.xe s := by
  have hq := h (s.heap.objs.size + 1) s.heap.objs.size (I.hok.fresh (Nat.le_succ _)) (I.hok.fresh (Nat.le_refl _)) (Nat.ne_of_lt (Nat.lt_succ_self _))
  have I2 := Inv.made (C := C) I
  have r2 : Vals (V.ref (s.heap.objs.size + 1) :: (vs ++ dvs)) (Value.ref (s.heap.objs.size + 1) :: (us ++ ds)) := .cons rfl (r.append hd)
  have hl : (Value.ref (s.heap.objs.size + 1) :: us ++ ds).length = ps.length := by
    have e := r2.length
    rw [F.len _ _ _ _ hq] at e
    exact e.symm
  refine wpAny_call (make_map (f := f) I.kIn M.makes M.init (beq_iff_eq.mp M.fn) (codeAny_mono (F.run _ X.stack _ _ ⟨Value.ref (s.heap.objs.size + 1) :: us, []⟩ (Value.ref (s.heap.objs.size + 1) :: (us ++ ds)) _ _ E (hr.make C us [])
    (I2.env0.make C us []) (hb _ (Value.ref (s.heap.objs.size + 1) :: us) I2.kIn hl) r2 hq) fun r s' hq' => ?_))
  cases r with
  | error e => exact hx pins σ _ _ e s' I2 hq'
  | ok fl =>
    cases fl with
    | ret u =>
      obtain ⟨v, H', I3, rv, ev, q3⟩ := I2.after hq'
      subst ev
      exact ⟨rv, ⟨V.ref (s.heap.objs.size + 1), H', I3, rfl, q3⟩⟩
    | next => exact False.elim hq'
    | brk => exact False.elim hq'
    | cont => exact False.elim hq'
theorem pe_make (M : Mk X.K C f) (F : FnOk X.prog X.w X.K X.mg X.base CX k f fd ps sp) (hr : Room (k + 1) X.A) (hg : Gl X x) (hm : X.mg x = some (.ref C)) (hb : Binds X.K fd ps ds) (hd : Vals dvs ds) (hx : Passes CX X E)
    (ha : PA X (e :: es) t) (hdb : (x == ("__debug__" : Str)) = false := by decide) (he : starEach (e :: es) X.env = (false, eval e X.env) :: starEach es X.env := by rfl) (hpl : (backTo pos (starEach es X.env)).any (·.1) = false := by rfl) :
    PE X (.Call (.Name x p) (e :: es) [] pos) (tMake C sp dvs E t) := by
  intro pins s σ H Q I h
  refine wpAny_Call_Name_kw (ld_glob I hg hm ?_ hdb)
  refine PySem.W.callWith_K (h₀ := X.base) I.ok.mod.kin M.kp (thn (ha pos pins s σ H _ I h) fun us s1 ⟨vs, H1, I1, r, q⟩ => ⟨I1.kIn, ?_⟩) he hpl
  exact run_make M F hr hb hd hx I1 r q
end

section
variable {X : Cx} {CX : CXT} {k : Nat} {f C : Addr} {fd : FuncData} {ps ks : List Str} {sp : Sp} {E : XK} {x m : Str} {p pos apos kpos : Pos} {e o : Expr} {es : List Expr} {kws : List Keyword} {te ta : TE} {t tk : TA} {nm : Option Str}
variable {g : List Value → List Value → List Value} {gV : List V → List V → List V}
end

structure FnScope (N P : List Str) (sc : Scope) : Prop where
  kind : sc.kind = .function
  co : sc.isCoroutine = false
  gen : sc.isGenerator = false
  nd : N.Nodup
  pre : N.take P.length = P
  par : ∀ x ∈ P, sc.names.lookup x = some .local ∨ sc.names.lookup x = some .cell
  nofree : ∀ y ∈ sc.names, y.2 ≠ .free

theorem bindL_out {kindOf : Str → Option NameKind} {x : Str} : ∀ {binds : List (Str × Value)} {m : Str → Option Value}, (∀ v, (x, v) ∉ binds) → bindL kindOf binds m x = m x
  | [], _, _ => rfl
  | (n, v) :: r, m, h => by
    unfold bindL
    rw [bindL_out fun w hw => h w (List.mem_cons_of_mem _ hw)]
    split
    · have : x ≠ n := by rintro rfl; exact h v List.mem_cons_self
      simp [this]
    · rfl
theorem bindC_out {kindOf : Str → Option NameKind} {x : Str} : ∀ {binds : List (Str × Value)} {m : Str → Option Value}, (∀ v, (x, v) ∉ binds) → bindC kindOf binds m x = m x
  | [], _, _ => rfl
  | (n, v) :: r, m, h => by
    unfold bindC
    rw [bindC_out fun w hw => h w (List.mem_cons_of_mem _ hw)]
    split
    · rfl
    · have : x ≠ n := by rintro rfl; exact h v List.mem_cons_self
      simp [this]
theorem bindL_get {kindOf : Str → Option NameKind} {x : Str} {v : Value} : ∀ {P : List Str} {vs : List Value} {i : Nat} {m : Str → Option Value}, P.Nodup → P[i]? = some x → vs[i]? = some v → kindOf x = some .local →
    bindL kindOf (P.zip vs) m x = some v
  | [], _, _, _, _, h, _, _ => by simp at h
  | _ :: _, [], _, _, _, _, h, _ => by simp at h
  | p :: P, w :: vs, 0, m, nd, h1, h2, hk => by
    simp at h1 h2; subst h1; subst h2
    show bindL kindOf ((p, w) :: P.zip vs) m p = _
    unfold bindL
    rw [bindL_out fun v hv => (List.nodup_cons.mp nd).1 (List.of_mem_zip hv).1, if_pos hk]
    simp
  | p :: P, w :: vs, i + 1, m, nd, h1, h2, hk => by
    show bindL kindOf ((p, w) :: P.zip vs) m x = _
    unfold bindL
    exact bindL_get (i := i) (List.nodup_cons.mp nd).2 (by simpa using h1) (by simpa using h2) hk
theorem bindC_get {kindOf : Str → Option NameKind} {x : Str} {v : Value} : ∀ {P : List Str} {vs : List Value} {i : Nat} {m : Str → Option Value}, P.Nodup → P[i]? = some x → vs[i]? = some v → kindOf x ≠ some .local →
    bindC kindOf (P.zip vs) m x = some v
  | [], _, _, _, _, h, _, _ => by simp at h
  | _ :: _, [], _, _, _, _, h, _ => by simp at h
  | p :: P, w :: vs, 0, m, nd, h1, h2, hk => by
    simp at h1 h2; subst h1; subst h2
    show bindC kindOf ((p, w) :: P.zip vs) m p = _
    unfold bindC
    rw [bindC_out fun v hv => (List.nodup_cons.mp nd).1 (List.of_mem_zip hv).1, if_neg hk]
    simp
  | p :: P, w :: vs, i + 1, m, nd, h1, h2, hk => by
    show bindC kindOf ((p, w) :: P.zip vs) m x = _
    unfold bindC
    exact bindC_get (i := i) (List.nodup_cons.mp nd).2 (by simpa using h1) (by simpa using h2) hk

def start (N : List Str) (vs : List V) : St := vs.map some ++ List.replicate (N.length - vs.length) none

def cxOf (CX : CXT) (P : Program) (w : World) (K : PySem.W.Frag) (mg : Str → Option Value) (base : Heap) (N : List Str) (qual : Str) (scope : Scope) (f : Addr) (cd : Value) (A : Around) (outer : List Env) (s : Shared) (H : Hp) (E : XK) : Cx where
  prog := P
  w := w
  K := K
  mg := mg
  base := base
  A := A.deeper (envOfC qual scope s.heap.objs.size f cd)
  N := N
  s₀ := s
  H₀ := H
  env := envOfC qual scope s.heap.objs.size f cd
  outer := outer
  stack := envOfC qual scope s.heap.objs.size f cd :: outer
  ex := []
  calm := true
  fn := fun _ => true
  pn := []
  xe := fun e s' => wpAny (model P w) (A.deeper (envOfC qual scope s.heap.objs.size f cd)) (leaving (envOfC qual scope s.heap.objs.size f cd) e) (fun _ s'' => CX outer H s E e s'') (fun e' s'' => CX outer H s E e' s'') s'

theorem cell_has {sc : Scope} {n : Nat} {x : Str} (h : sc.names.lookup x = some .cell) : ∃ c, (cellsFrom n sc.names []).lookup x = some c := by
  have q := PySem.W.cellsFrom_some sc.names n [] (.inl h)
  exact Option.isSome_iff_exists.mp q

theorem inv_start {CX : CXT} {P : Program} {w : World} {K : PySem.W.Frag} {mg : Str → Option Value} {base : Heap} {N ps : List Str} {qual : Str} {scope : Scope} {f : Addr} {cd : Value} {A : Around} {outer : List Env} {s s1 : Shared} {H : Hp} {E : XK} {us : List Value} {vs : List V}
    (S : FnScope N ps scope) (hd : A.handled = none) (e0 : Env0 P w K mg base A outer s H) (hl : vs.length = ps.length) (r : Vals vs us)
    (x : InCallC s s.heap.objs.size (bindL (envOfC qual scope s.heap.objs.size f cd).kindOf (ps.zip us) fun _ => none) (cellsFrom (s.heap.objs.size + 1) scope.names []) (bindC (envOfC qual scope s.heap.objs.size f cd).kindOf (ps.zip us) fun _ => none) s1) :
    Inv (cxOf CX P w K mg base N qual scope f cd A outer s H E) [] (start N vs) H s1 := by
  have hpl : ps.length ≤ N.length := by have := congrArg List.length S.pre; rw [List.length_take] at this; omega
  obtain ⟨h1, tk, rfl, hk⟩ := x.done
  have noA : ∀ b : Addr, b ∉ (cxOf CX P w K mg base N qual scope f cd A outer s H E).ex := fun b z => absurd (show b ∈ ([] : List Addr) from z) (by simp)
  refine ⟨⟨e0.mod, S.kind, rfl, rfl, Nat.le_refl _, fun y z c h1 h2 => ?_, fun y hy => ?_, fun y c _ h => ?_, fun _ => hd, Around.frames_deeper e0.frames, .inr ⟨rfl, rfl⟩, fun b z => absurd z (noA b), e0.bs, e0.bsz, fun b _ _ => noA b, fun b z => absurd z (noA b), e0.funs, e0.frf⟩,
    rfl, e0.bare, Un.kept hk, ⟨_, x.toInCall.ns, fun i y v h1 h2 h3 => ?_⟩, fun y c h => ⟨_, x.cell y c h⟩, e0.hok.fresh (Nat.le_refl _), fun y c h => ?_, fun p hp => absurd (show p ∈ ([] : List (Addr × Obj)) from hp) (by simp), e0.hok.kept hk, ?_⟩
  · exact name_of_addr x.apart (PySem.mem_of_lookup h1) (PySem.mem_of_lookup h2)
  · have hy : scope.names.lookup y = some .cell ∨ scope.names.lookup y = some .free := hy
    rcases hy with hy | hy
    · exact cell_has hy
    · exact absurd rfl (S.nofree _ (PySem.mem_of_lookup hy))
  · exact Nat.le_of_lt (x.above y c (PySem.mem_of_lookup h))
  · have hi : i < vs.length := by
      unfold start at h2
      by_cases hi : i < vs.length
      · exact hi
      · rw [List.getElem?_append_right (by simpa using hi)] at h2
        rw [List.getElem?_replicate] at h2
        split at h2 <;> cases h2
    have ha : vs[i]? = some v := by
      unfold start at h2
      rw [List.getElem?_append_left (by simpa using hi), List.getElem?_map] at h2
      cases e : vs[i]? with
      | none => rw [e] at h2; cases h2
      | some a => rw [e] at h2; cases h2; rfl
    obtain ⟨u, hu, rv⟩ := r.get ha
    have hp : ps[i]? = some y := by
      rw [← S.pre, List.getElem?_take_of_lt (by omega)]; exact h1
    have ndP : ps.Nodup := by rw [← S.pre]; exact S.nd.sublist (List.take_sublist _ _)
    refine ⟨u, rv, ?_⟩
    rcases S.par y (List.mem_of_getElem? hp) with k | k
    · exact .inl ⟨k, bindL_get ndP hp hu k⟩
    · obtain ⟨c, e⟩ := cell_has (n := s.heap.objs.size + 1) k
      refine .inr ⟨.inl k, c, e, ?_⟩
      have q := x.cell y c e
      rw [bindC_get ndP hp hu (by show scope.names.lookup y ≠ _; rw [k]; decide)] at q
      exact q
  · exact e0.hok.fresh (Nat.le_of_lt (x.above y c (PySem.mem_of_lookup h)))
  · unfold start
    show _ = N.length
    rw [List.length_append, List.length_map, List.length_replicate]
    omega

theorem fn_of {CX : CXT} {P : Program} {w : World} {K : PySem.W.Frag} {mg : Str → Option Value} {base : Heap} {k : Nat} {f : Addr} {name qual : Str} {params : Arguments} {body : List Stmt} {scope : Scope} {dV kV doc pm cdv ct oc : Value} {an od : Option Addr}
    {osl : Array (Option Value)} {N ps : List Str} {sp : Sp} (lk : K.lookup f = some ⟨oc, od, .func (PySem.W.fnOf name qual params body scope dV kV doc pm an cdv ct), osl⟩) (hcd : PySem.W.codeIn K cdv qual = true) (S : FnScope N ps scope)
    (len : ∀ vs H Q E, sp vs H Q E → vs.length = ps.length)
    (hbody : ∀ (A : Around) (outer : List Env) (s : Shared) (H : Hp) (vs : List V) (Q : VK) (E : XK), Room k (A.deeper (envOfC qual scope s.heap.objs.size f cdv)) → sp vs H Q E →
      ∃ t, PSs (cxOf CX P w K mg base N qual scope f cdv A outer s H E) body t ∧ t { nx := fun _ H' => Q .non H', rt := Q } (start N vs) H) :
    FnOk P w K mg base CX (k + 1) f (PySem.W.fnOf name qual params body scope dV kV doc pm an cdv ct) ps sp := by
  refine ⟨len, fun A outer s H args us vs Q E hr e0 hb r hsp => ?_⟩
  have hl := len _ _ _ _ hsp
  have KX : K.In s.heap := e0.mod.kin.keeps fun b o e => (e0.bs b o e).1
  have lim : s.heap.NoLimit := e0.mod.nolimit.keeps fun b o e => (e0.bs b o e).1
  have hkind : ∀ y ∈ ps.zip us, scope.names.lookup y.1 = some .local ∨ (scope.names.lookup y.1 = some .cell ∧ ((cellsFrom (s.heap.objs.size + 1) scope.names []).lookup y.1).isSome = true) := fun ⟨n, v⟩ hy => by
    rcases S.par n (List.of_mem_zip hy).1 with q | q
    · exact .inl q
    · exact .inr ⟨q, PySem.W.cellsFrom_some _ _ _ (.inl q)⟩
  refine codeAny_call_function hr.depth (KX _ _ lk) rfl S.co S.gen rfl (PySem.W.codeRec_of KX hcd) (hb _ _ _ _ ?_)
  refine wpAny_newFunctionEnv_cells S.kind hkind fun env he s1 x => ?_
  subst he
  refine ⟨lim.keeps x.toInCall.keep, codeAny_func ?_⟩
  obtain ⟨t, ht, hq⟩ := hbody A outer s H vs Q E (hr.deeper _) hsp
  have I : Inv (cxOf CX P w K mg base N qual scope f cdv A outer s H E) [] (start N vs) H s1 := inv_start S hr.hd e0 hl r x
  refine wpAny_mono (ht [] s1 (start N vs) H _ I hq) (fun fl s' hs => ?_) fun e s' hs => hs
  have fin : ∀ {σ' : St} {H' : Hp} {v : V} {u : Value}, Inv (cxOf CX P w K mg base N qual scope f cdv A outer s H E) [] σ' H' s' → RelV v u → Q v H' → CE outer P w H s Q u s' :=
    fun {σ' H' v u} J rv q => ⟨v, H', J.os, J.bare, J.base, J.hok, rv, q⟩
  cases fl with
  | ret u =>
    obtain ⟨v, σ', H', J, rv, q⟩ := hs
    exact fin J rv q
  | next =>
    obtain ⟨σ', H', J, q⟩ := hs
    exact fin (v := V.non) (u := Value.none) J rfl q
  | brk =>
    obtain ⟨_, _, _, q⟩ := hs
    exact False.elim q
  | cont =>
    obtain ⟨_, _, _, q⟩ := hs
    exact False.elim q
end L2

namespace L2
open PySem PySem.Spec PyProof.Rows
section
variable {X : Cx} {x : Str} {p pos : Pos} {e : Expr} {es : List Expr} {t : TA} {id T : String} {r : List V → Hp → VK → Prop}

def tCB (r : List V → Hp → VK → Prop) (t : TA) : TE := fun σ H Q => t σ H fun vs H1 => r vs H1 Q
theorem pe_callB (hc : CallR X (.builtin id) r) (hg : Gl X x) (hm : X.mg x = none) (hv : bootBuiltins x = some (.builtin id)) (ha : PA X (e :: es) t) (hn : x ≠ "__name__" := by decide) (hdb : (x == ("__debug__" : Str)) = false := by decide)
    (he : starEach (e :: es) X.env = (false, eval e X.env) :: starEach es X.env := by rfl) (hpl : (backTo pos (starEach es X.env)).any (·.1) = false := by rfl) : PE X (.Call (.Name x p) (e :: es) [] pos) (tCB r t) := by
  intro pins s σ H Q I h
  refine wpAny_Call_Name_kw (ld_blt I hg hm hv ?_ hn hdb)
  exact PyProof.Rows.callWith_builtin1 (thn (ha pos pins s σ H _ I h) fun us s1 ⟨vs, H1, I1, r1, q1⟩ => hc pins s1 σ H1 vs us Q I1 r1 q1) he hpl
theorem pe_callTy (hc : CallR X (.type T) r) (hg : Gl X x) (hm : X.mg x = none) (hv : bootBuiltins x = some (.type T)) (ha : PA X (e :: es) t) (hn : x ≠ "__name__" := by decide) (hdb : (x == ("__debug__" : Str)) = false := by decide)
    (he : starEach (e :: es) X.env = (false, eval e X.env) :: starEach es X.env := by rfl) (hpl : (backTo pos (starEach es X.env)).any (·.1) = false := by rfl) : PE X (.Call (.Name x p) (e :: es) [] pos) (tCB r t) := by
  intro pins s σ H Q I h
  refine wpAny_Call_Name_kw (ld_blt I hg hm hv ?_ hn hdb)
  exact PyProof.Rows.callWith_type1 (thn (ha pos pins s σ H _ I h) fun us s1 ⟨vs, H1, I1, r1, q1⟩ => hc pins s1 σ H1 vs us Q I1 r1 q1) he hpl
end
end L2

namespace HT
open PySem PyProof.Rows

section
open PySem.SeqAt
open PySem.AutoSeq1 (wpAny_loadPart')
open PySem.MeetsSeq PySem.MeetsSeq2 PySem.MeetsSeq3

end

section
variable {prog : Program} {w : World} {A : Around} {E : Value → Shared → Prop} {s : Shared}

def sIx (n d : Nat) : Option Int → Nat
  | none => d
  | some v => if v < 0 then (v + (n : Int)).toNat else min v.toNat n
end
end HT

namespace L2
open PySem PySem.Spec PyProof.Rows

abbrev TO := St → Hp → (Option Int → Hp → Prop) → Prop
def PO (X : Cx) (e : Option Expr) (t : TO) : Prop :=
  ∀ (pins : List (Addr × Obj)) (s : Shared) (σ : St) (H : Hp) (Q : Option Int → Hp → Prop), Inv X pins σ H s → t σ H Q →
    wpAny (model X.prog X.w) X.A (evalPart e X.env) (fun u s' => ∃ o H', Inv X pins σ H' s' ∧ IsPart u o ∧ Q o H') X.xe s
def tPart (t : TE) : TO := fun σ H Q => t σ H fun x H1 => ∃ i, x = .int i ∧ Q (some i) H1

section
variable {X : Cx} {e : Expr} {te : TE} {lo hi : Option Expr} {tl th : TO} {pos p2 : Pos}

theorem po_some (h : PE X e te) : PO X (some e) (tPart te) := by
  intro pins s σ H Q I hw
  rw [evalPart_some]
  refine thn (h pins s σ H _ I hw) fun u s1 ⟨x, H1, I1, r1, q1⟩ => ?_
  obtain ⟨i, rfl, q⟩ := q1
  obtain ⟨t, rfl⟩ := r1
  exact ⟨some i, H1, I1, .int i t, q⟩

def SlR (X : Cx) (r : V → Option Int → Option Int → Hp → VK → Prop) : Prop :=
  ∀ (pins : List (Addr × Obj)) (s : Shared) (σ : St) (H : Hp) (x : V) (v vl vu : Value) (lo hi : Option Int) (sl : Addr) (Q : VK), Inv X pins σ H s → RelV x v → s.heap.IsSliceOf sl vl vu .none → IsPart vl lo → IsPart vu hi → r x lo hi H Q →
    ∃ T id, typeLookup (.type T) "__getitem__" = pure (some (.builtin id)) ∧ s.TypeIs v T ∧ wpAny (model X.prog X.w) X.A (getItem v (.ref sl)) (EP X pins σ Q) X.xe s
def tSl (r : V → Option Int → Option Int → Hp → VK → Prop) (te : TE) (tl th : TO) : TE := fun σ H Q => te σ H fun x H1 => tl σ H1 fun l H2 => th σ H2 fun u H3 => r x l u H3 Q
theorem pe_slice {r : V → Option Int → Option Int → Hp → VK → Prop} (hr : SlR X r) (he : PE X e te) (hl : PO X lo tl) (hu : PO X hi th) : PE X (.Subscript e (.Slice lo hi none p2) pos) (tSl r te tl th) := by
  intro pins s σ H Q I h
  refine Subscript_ (thn (he pins s σ H _ I h) fun v s1 ⟨x, H1, I1, r1, q1⟩ => ?_)
  refine wpAny_Slice (thn (hl pins s1 σ H1 _ I1 q1) fun vl s2 ⟨l, H2, I2, pl, q2⟩ => thn (hu pins s2 σ H2 _ I2 q2) fun vu s3 ⟨u, H3, I3, pu, q3⟩ => ?_)
  rw [evalPart_none]
  refine wpAny_pure ?_
  have I4 : Inv X pins σ H3 { s3 with heap := s3.heap.push { cls := .type "slice", data := .fields #[vl, vu, .none] } } := I3.kept (t' := s3.toks) fun b ob q => Heap.get?_push_of_some _ q
  obtain ⟨T, id, hT, ht, hg⟩ := hr pins { s3 with heap := s3.heap.push { cls := .type "slice", data := .fields #[vl, vu, .none] } } σ H3 x v vl vu l u s3.heap.objs.size Q I4 r1 (Heap.IsSliceOf.new ..) pl pu q3
  show wpAny (model X.prog X.w) X.A (subscriptTail e (.Slice lo hi none p2) v (.ref s3.heap.objs.size)) (EP X pins σ Q) X.xe { s3 with heap := s3.heap.push { cls := .type "slice", data := .fields #[vl, vu, .none] } }
  exact tail_any (ops := [.ref s3.heap.objs.size, v]) ht hT hg (by with_unfolding_all rfl)

def cutV (xs : List V) (lo hi : Option Int) : List V := (xs.drop (HT.sIx xs.length 0 lo)).take (HT.sIx xs.length xs.length hi - HT.sIx xs.length 0 lo)
theorem cutV_length (xs : List V) (lo hi : Option Int) : (cutV xs lo hi).length ≤ xs.length := by
  unfold cutV
  exact Nat.le_trans (List.length_take_le' _ _) (by rw [List.length_drop]; exact Nat.sub_le _ _)
end
end L2

namespace L2
open PySem PySem.Spec PyProof.Rows

def ixN (n : Nat) (i : Int) : Option Nat := if 0 ≤ i then (if i < n then some i.toNat else none) else if -(n : Int) ≤ i then some (i + n).toNat else none
def atI {α : Type} (xs : List α) (i : Int) : Option α := (ixN xs.length i).bind fun j => xs[j]?
theorem ixN_seq {n : Nat} {i : Int} {j : Nat} (h : ixN n i = some j) : seqIndex? i n = some j ∧ j < n ∧ -(n : Int) ≤ i ∧ i < n := by
  unfold ixN at h
  by_cases h0 : 0 ≤ i
  · rw [if_pos h0] at h
    by_cases h1 : i < n
    · rw [if_pos h1] at h
      have e : i.toNat = j := Option.some.inj h
      exact ⟨by rw [seqIndex_of h0 h1, e], by omega, by omega, h1⟩
    · rw [if_neg h1] at h; cases h
  · rw [if_neg h0] at h
    by_cases h1 : -(n : Int) ≤ i
    · rw [if_pos h1] at h
      have e : (i + n).toNat = j := Option.some.inj h
      exact ⟨by rw [seqIndex_neg (by omega) h1, e], by omega, h1, by omega⟩
    · rw [if_neg h1] at h; cases h
theorem atI_get {α : Type} {xs : List α} {i : Int} {v : α} (h : atI xs i = some v) : ∃ j, seqIndex? i xs.length = some j ∧ xs[j]? = some v ∧ j < xs.length ∧ -(xs.length : Int) ≤ i ∧ i < xs.length := by
  unfold atI at h
  cases e : ixN xs.length i with
  | none => rw [e] at h; cases h
  | some j =>
    rw [e] at h
    obtain ⟨h1, h2, h3, h4⟩ := ixN_seq e
    exact ⟨j, h1, h, h2, h3, h4⟩
theorem atI_nat {α : Type} {xs : List α} {j : Nat} {v : α} (h : xs[j]? = some v) : atI xs (j : Int) = some v := by
  have hj : j < xs.length := (List.getElem?_eq_some_iff.mp h).1
  have e : ixN xs.length (j : Int) = some j := by
    unfold ixN
    rw [if_pos (by omega), if_pos (by omega)]; simp
  unfold atI; rw [e]; exact h
theorem atI_last {α : Type} (xs : List α) (v : α) : atI (xs ++ [v]) (-1) = some v := by
  have hl : (xs ++ [v]).length = xs.length + 1 := by simp
  have e : ixN (xs ++ [v]).length (-1) = some xs.length := by
    unfold ixN
    rw [hl, if_neg (by decide), if_pos (by omega)]
    congr 1
    omega
  unfold atI
  rw [e]
  show (xs ++ [v])[xs.length]? = some v
  simp

def PlainIx (b : Expr) : Prop := ∀ o i, subscripted b false o i = operate [o, i] (getItem o i)
def IxR (X : Cx) (r : R2) : Prop :=
  ∀ (value slice : Expr) (pins : List (Addr × Obj)) (s : Shared) (σ : St) (H : Hp) (x y : V) (v u : Value) (Q : VK), Inv X pins σ H s → RelV x v → RelV y u → r x y H Q →
    subscripted slice false v u = operate [v, u] (getItem v u) → wpAny (model X.prog X.w) X.A (subscriptTail value slice v u) (EP X pins σ Q) X.xe s
def MtR (X : Cx) (id : String) (r : V → List V → Hp → VK → Prop) : Prop :=
  ∀ (pins : List (Addr × Obj)) (s : Shared) (σ : St) (H : Hp) (x : V) (xs : List V) (v : Value) (us : List Value) (Q : VK), Inv X pins σ H s → RelV x v → Vals xs us → r x xs H Q →
    wpAny (model X.prog X.w) X.A (call (.builtin id) (v :: us)) (EP X pins σ Q) X.xe s
section
variable {X : Cx} {a b : Expr} {ta tb : TE} {pos : Pos}
theorem pe_ix {r : R2} (hr : IxR X r) (ha : PE X a ta) (hb : PE X b tb) (hs : PlainIx b) : PE X (.Subscript a b pos) (tOp r ta tb) := by
  intro pins s σ H Q I h
  exact Subscript_ (binT ha hb I h fun v u s2 x y H2 I2 rx ry q => hr a b pins s2 σ H2 x y v u Q I2 rx ry q (hs _ _))

def rIxL (K : PySem.W.Frag) : R2 := fun x y H Q => ∃ p xs i v, x = .ref p ∧ y = .int i ∧ SqL K H p xs ∧ atI xs i = some v ∧ Q v H
def rIxT (K : PySem.W.Frag) : R2 := fun x y H Q => ∃ p xs i v, x = .ref p ∧ y = .int i ∧ SqT K H p xs ∧ atI xs i = some v ∧ Q v H
theorem ix_list : IxR X (rIxL X.K) := by
  intro value slice pins s σ H x y v u Q I rx ry h hs
  obtain ⟨p, xs, i, z, rfl, rfl, hq, he, q⟩ := h
  cases rx
  obtain ⟨t, rfl⟩ := ry
  obtain ⟨its, r, pl, hz⟩ := I.list hq
  obtain ⟨j, h1, h2, h3, h4, h5⟩ := atI_get he
  obtain ⟨w, ew, rw'⟩ := r.get h2
  have hl := r.length
  have hn := line63
  have fin : EP X pins σ Q w s := ⟨z, H, I, rw', q⟩
  by_cases h0 : 0 ≤ i
  · have hj : i.toNat = j := by
      rw [seqIndex_of h0 h5] at h1
      exact Option.some.inj h1
    exact item_listR pl.isList h0 (by omega) (by rw [hj]; simpa using ew) fin hs
  · have hj : (i + (its.toArray.size : Int)).toNat = j := by
      rw [seqIndex_neg (by omega) h4] at h1
      rw [List.size_toArray, ← hl]
      exact Option.some.inj h1
    exact subscriptTail_builtinR (x := w) pl.isList.typeIs slot_list_getitem.lookup
      (wpAny_getItem_list_neg (Q := fun r s' => r = w ∧ EP X pins σ Q r s') pl.isList (by omega) (by rw [List.size_toArray] <;> omega) (by omega) (by rw [hj]; simpa using ew) ⟨rfl, fin⟩) hs
theorem ix_tup : IxR X (rIxT X.K) := by
  intro value slice pins s σ H x y v u Q I rx ry h hs
  obtain ⟨p, xs, i, z, rfl, rfl, hq, he, q⟩ := h
  cases rx
  obtain ⟨t, rfl⟩ := ry
  obtain ⟨its, r, pl, hz⟩ := I.tuple hq
  obtain ⟨j, h1, h2, h3, h4, h5⟩ := atI_get he
  obtain ⟨w, ew, rw'⟩ := r.get h2
  have hl := r.length
  have hn := line63
  have fin : EP X pins σ Q w s := ⟨z, H, I, rw', q⟩
  exact subscriptTail_builtinR (x := w) pl.typeIs slot_tuple_getitem.lookup
    (getItem_tuple (j := j) (Q := fun r s' => r = w ∧ EP X pins σ Q r s') pl (by omega) (by omega) (by rw [List.size_toArray, ← hl]; exact h1) (by simpa using ew) ⟨rfl, fin⟩) hs
theorem sbA (lo hi : Option Int) (n : Nat) : (sliceBounds lo hi none n).1 = ((HT.sIx n 0 lo : Nat) : Int) := by
  cases lo with
  | none => simp [sliceBounds, HT.sIx]
  | some i =>
    simp only [sliceBounds, HT.sIx, Option.getD_none, show (1 : Int) > 0 by decide, if_true]
    by_cases h : i < 0
    · simp only [h, if_true] <;> omega
    · simp only [h, if_false] <;> omega
theorem slice_bounds (lo hi : Option Int) (n : Nat) : (sliceBounds lo hi none n).1 = ((HT.sIx n 0 lo : Nat) : Int) ∧ (sliceBounds lo hi none n).2.1 = ((HT.sIx n n hi : Nat) : Int) ∧ (sliceBounds lo hi none n).2.2 = 1 := by
  refine ⟨sbA lo hi n, ?_, rfl⟩
  cases hi with
  | none => simp [sliceBounds, HT.sIx]
  | some i => exact sbA (some i) lo n
theorem slicePick_cut (its : List Value) (lo hi : Option Int) : slicePick its.toArray lo hi none = ((its.drop (HT.sIx its.length 0 lo)).take (HT.sIx its.length its.length hi - HT.sIx its.length 0 lo)).toArray := by
  obtain ⟨h1, h2, h3⟩ := slice_bounds lo hi its.toArray.size
  unfold slicePick
  rw [h1, h2, h3]
  simp only [sliceRange_one, pick_run, List.size_toArray] <;> rfl
def rSlL (K : PySem.W.Frag) : V → Option Int → Option Int → Hp → VK → Prop := fun x lo hi H Q => ∃ a xs, x = .ref a ∧ SqL K H a xs ∧ ∀ p, H p = none → Q (.ref p) (upd H p (.lst (cutV xs lo hi)))
theorem sl_list : SlR X (rSlL X.K) := by
  intro pins s σ H x v vl vu lo hi sl Q I rx hs pl pu h
  obtain ⟨a, xs, rfl, hx, q⟩ := h
  cases rx
  obtain ⟨its, r, ht, hz⟩ := I.list hx
  have hlen := r.length
  refine ⟨"list", _, slot_list_getitem.lookup, ht.isList.typeIs, ?_⟩
  refine wpAny_getItem_list_slice ht.isList hs pl pu .none (by simp) ?_ (by rw [List.size_toArray] <;> omega)
  rw [slicePick_cut, ← hlen]
  refine ⟨.ref s.heap.objs.size, _, I.laid (t' := s.toks) (o := .lst (cutV xs lo hi)) (fun b ob q => Heap.get?_push_of_some _ q) (Nat.le_refl _) ?_, rfl, q _ (I.hok.fresh (Nat.le_refl _))⟩
  exact ⟨Nat.le_trans (cutV_length xs lo hi) hz, _, 0, (r.drop (HT.sIx xs.length 0 lo)).take (HT.sIx xs.length xs.length hi - HT.sIx xs.length 0 lo), Heap.get?_push_size _ rfl⟩

def flatV : V → Bool
  | .non => true
  | .bl _ => true
  | .int _ => true
  | .str _ => true
  | _ => false
def eqV : V → V → Bool
  | .non, .non => true
  | .bl a, .bl b => a == b
  | .bl a, .int b => (if a then 1 else 0) == b
  | .int a, .bl b => a == (if b then 1 else 0)
  | .int a, .int b => a == b
  | .str a, .str b => a == b
  | _, _ => false
theorem eqAt_V {A : Around} {s : Shared} {y x : V} {u v : Value} (ry : RelV y u) (rx : RelV x v) (fy : flatV y = true) (fx : flatV x = true) : SeqAt.EqAt A s u v (eqV y x) := by
  cases y with
  | non =>
    cases ry
    cases x with
    | non => cases rx; exact SeqAt.EqAt.same _
    | bl b => cases rx; exact SeqAt.EqAt.none_bool b
    | int b => obtain ⟨t, rfl⟩ := rx; exact SeqAt.EqAt.none_int b t
    | str b => obtain ⟨t, rfl⟩ := rx; exact SeqAt.EqAt.none_str b t
    | _ => exact absurd (show false = true from fx) Bool.false_ne_true
  | bl a =>
    cases ry
    cases x with
    | non => cases rx; exact SeqAt.EqAt.bool_none a
    | bl b => cases rx; exact SeqAt.EqAt.bool_bool a b
    | int b => obtain ⟨t, rfl⟩ := rx; exact SeqAt.EqAt.bool_int a b t
    | str b => obtain ⟨t, rfl⟩ := rx; exact SeqAt.EqAt.bool_str a b t
    | _ => exact absurd (show false = true from fx) Bool.false_ne_true
  | int a =>
    obtain ⟨t', rfl⟩ := ry
    cases x with
    | non => cases rx; exact SeqAt.EqAt.int_none a t'
    | bl b => cases rx; exact SeqAt.EqAt.int_bool a t' b
    | int b => obtain ⟨t, rfl⟩ := rx; exact SeqAt.EqAt.int_int a t' b t
    | str b => obtain ⟨t, rfl⟩ := rx; exact SeqAt.EqAt.int_str a t' b t
    | _ => exact absurd (show false = true from fx) Bool.false_ne_true
  | str a =>
    obtain ⟨t', rfl⟩ := ry
    cases x with
    | non => cases rx; exact SeqAt.EqAt.str_none a t'
    | bl b => cases rx; exact SeqAt.EqAt.str_bool a t' b
    | int b => obtain ⟨t, rfl⟩ := rx; exact SeqAt.EqAt.str_int a t' b t
    | str b => obtain ⟨t, rfl⟩ := rx; exact SeqAt.EqAt.str_str a t' b t
    | _ => exact absurd (show false = true from fx) Bool.false_ne_true
  | _ => exact absurd (show false = true from fy) Bool.false_ne_true
def eqU (x : V) (u : Value) : Bool := match u with
  | .none => eqV .non x
  | .bool b => eqV (.bl b) x
  | .int i _ => eqV (.int i) x
  | .str z _ => eqV (.str z) x
  | _ => false
theorem eqU_of {x y : V} {u : Value} (r : RelV y u) (f : flatV y = true) : eqU x u = eqV y x := by
  cases y with
  | non => cases r; rfl
  | bl b => cases r; rfl
  | int i => obtain ⟨t, rfl⟩ := r; rfl
  | str z => obtain ⟨t, rfl⟩ := r; rfl
  | _ => exact absurd (show false = true from f) Bool.false_ne_true
theorem any_eqU {x : V} : ∀ {xs : List V} {us : List Value}, Vals xs us → xs.all flatV = true → us.any (eqU x) = xs.any fun y => eqV y x
  | _, _, .nil, _ => rfl
  | y :: xs, u :: us, .cons r t, f => by
    rw [List.all_cons, Bool.and_eq_true] at f
    rw [List.any_cons, List.any_cons, eqU_of r f.1, any_eqU t f.2]
theorem mem_eqAt {A : Around} {s : Shared} {x : V} {v : Value} (rx : RelV x v) (fx : flatV x = true) : ∀ {xs : List V} {us : List Value}, Vals xs us → xs.all flatV = true → ∀ u ∈ us, SeqAt.EqAt A s u v (eqU x u)
  | _, _, .nil, _ => fun u hu => by cases hu
  | y :: xs, u :: us, .cons r t, f => fun u' hu => by
    rw [List.all_cons, Bool.and_eq_true] at f
    rcases List.mem_cons.mp hu with rfl | hu
    · rw [eqU_of r f.1]; exact eqAt_V r rx f.1 fx
    · exact mem_eqAt rx fx t f.2 u' hu
def inV (x : V) (xs : List V) : Bool := xs.any fun y => eqV y x
def rIn (K : PySem.W.Frag) (neg : Bool) : R2 := fun x y H Q => ∃ p xs, y = .ref p ∧ (SqL K H p xs ∨ SqT K H p xs) ∧ flatV x = true ∧ xs.all flatV = true ∧ Q (.bl (if neg then !inV x xs else inV x xs)) H
theorem op_in_seq : OpR X (compareOp .In) (rIn X.K false) := by
  intro pins s σ H x y v u Q I rx ry h
  obtain ⟨p, xs, rfl, hq, fx, fs, q⟩ := h
  cases ry
  rcases hq with hq | hq
  · obtain ⟨its, r, pl, hz⟩ := I.list hq
    refine SeqAt.in_listAt (eqU x) pl.isList (fun w hw => mem_eqAt rx fx r fs w (by simpa using hw)) ⟨.bl _, H, I, rfl, ?_⟩
    rw [show its.toArray.any (eqU x) = its.any (eqU x) by simp, any_eqU r fs]
    exact q
  · obtain ⟨its, r, pl, hz⟩ := I.tuple hq
    refine SeqAt.in_tupleAt (eqU x) pl (fun w hw => mem_eqAt rx fx r fs w (by simpa using hw)) ⟨.bl _, H, I, rfl, ?_⟩
    rw [show its.toArray.any (eqU x) = its.any (eqU x) by simp, any_eqU r fs]
    exact q
theorem op_notIn_seq : OpR X (compareOp .NotIn) (rIn X.K true) := by
  intro pins s σ H x y v u Q I rx ry h
  obtain ⟨p, xs, rfl, hq, fx, fs, q⟩ := h
  cases ry
  rcases hq with hq | hq
  · obtain ⟨its, r, pl, hz⟩ := I.list hq
    refine SeqAt.notIn_listAt (eqU x) pl.isList (fun w hw => mem_eqAt rx fx r fs w (by simpa using hw)) ⟨.bl _, H, I, rfl, ?_⟩
    rw [show its.toArray.any (eqU x) = its.any (eqU x) by simp, any_eqU r fs]
    exact q
  · obtain ⟨its, r, pl, hz⟩ := I.tuple hq
    refine SeqAt.notIn_tupleAt (eqU x) pl (fun w hw => mem_eqAt rx fx r fs w (by simpa using hw)) ⟨.bl _, H, I, rfl, ?_⟩
    rw [show its.toArray.any (eqU x) = its.any (eqU x) by simp, any_eqU r fs]
    exact q
theorem call_len_seq : CallR X (.builtin "len") (fun xs H Q => ∃ p ys, xs = [.ref p] ∧ (SqL X.K H p ys ∨ SqT X.K H p ys) ∧ Q (.int ys.length) H) := by
  intro pins s σ H xs us Q I r h
  obtain ⟨p, ys, rfl, hq, q⟩ := h
  obtain ⟨u, rfl, rx⟩ := vals1 r
  cases rx
  have hn := line63
  rcases hq with hq | hq
  · obtain ⟨its, r', pl, hz⟩ := I.list hq
    have hlen := r'.length
    exact Calls.call_len_list pl.isList (by simp only [List.size_toArray] <;> omega) ⟨.int ys.length, H, I.tok _, ⟨s.toks + 1, by rw [List.size_toArray, hlen]⟩, q⟩
  · obtain ⟨its, r', pl, hz⟩ := I.tuple hq
    have hlen := r'.length
    exact len_tuple pl (by simp only [List.size_toArray] <;> omega) ⟨.int ys.length, H, I.tok _, ⟨s.toks + 1, by rw [List.size_toArray, hlen]⟩, q⟩
def tyV (K : PySem.W.Frag) (T : String) (x : V) (H : Hp) : Prop := match x with
  | .str _ => T = "str"
  | .int _ => T = "int"
  | .ref p => (T = "list" ∧ ∃ xs, SqL K H p xs) ∨ (T = "tuple" ∧ ∃ o, K.lookup p = some o ∧ o.cls = .type "tuple" ∧ o.dict = none) ∨
      (T = "dict" ∧ ((∃ kvs, H p = some (.dK kvs)) ∨ ∃ kvs, H p = some (.dT kvs))) ∨ (T = "set" ∧ ∃ S n, H p = some (.set S n))
  | _ => False
theorem tyV_is {pins : List (Addr × Obj)} {σ : St} {H : Hp} {s : Shared} {T : String} {x : V} {v : Value} (I : Inv X pins σ H s) (r : RelV x v) (ty : tyV X.K T x H) :
    s.TypeIs v T ∧ ∀ a, v = .ref a → ∃ ob, s.heap.get? a = some ob ∧ ob.dict = none := by
  cases x with
  | str z =>
    obtain ⟨t, rfl⟩ := r
    cases (show T = "str" from ty)
    exact ⟨typeIs_str s z t, fun _ e => nomatch e⟩
  | int i =>
    obtain ⟨t, rfl⟩ := r
    cases (show T = "int" from ty)
    exact ⟨typeIs_int s i t, fun _ e => nomatch e⟩
  | ref p =>
    cases r
    rcases ty with ⟨rfl, xs, hq⟩ | ⟨rfl, o, hk, hc, hd⟩ | ⟨rfl, hk⟩ | ⟨rfl, S, n, hk⟩
    · obtain ⟨its, _, pl, _⟩ := I.list hq
      refine ⟨pl.isList.typeIs, fun a e => ?_⟩
      cases e
      obtain ⟨o, n, e, c, hd, _⟩ := pl
      exact ⟨o, e, hd⟩
    · refine ⟨⟨o, I.kIn p o hk, hc⟩, fun a e => ?_⟩
      cases e
      exact ⟨o, I.kIn _ o hk, hd⟩
    · have z : ∃ o, s.heap.get? p = some o ∧ o.ExactDict := by
        rcases hk with ⟨kvs, hk⟩ | ⟨kvs, hk⟩
        · obtain ⟨_, _, _, _, o, _, _, e, ex, _⟩ := I.hok p _ hk
          exact ⟨o, e, ex⟩
        · obtain ⟨_, _, _, _, o, _, _, e, ex, _⟩ := I.hok p _ hk
          exact ⟨o, e, ex⟩
      obtain ⟨o, e, ex⟩ := z
      refine ⟨⟨o, e, ex.1⟩, fun a e2 => ?_⟩
      cases e2
      exact ⟨o, e, ex.2.1⟩
    · obtain ⟨o, _, _, _, e, ex, _⟩ := I.hok p _ hk
      refine ⟨⟨o, e, ex.1⟩, fun a e2 => ?_⟩
      cases e2
      exact ⟨o, e, ex.2.1⟩
  | _ => exact False.elim ty
def tBM0 (K : PySem.W.Frag) (T : String) (r : V → List V → Hp → VK → Prop) (to : TE) : TE := fun σ H Q => to σ H fun x H1 => tyV K T x H1 ∧ r x [] H1 Q
def tBM (K : PySem.W.Frag) (T : String) (r : V → List V → Hp → VK → Prop) (to : TE) (t : TA) : TE := fun σ H Q => to σ H fun x H1 => tyV K T x H1 ∧ t σ H1 fun xs H2 => r x xs H2 Q
variable {o e : Expr} {es : List Expr} {to : TE} {t : TA} {name : Str} {apos cpos : Pos} {T id : String} {r : V → List V → Hp → VK → Prop}
theorem pe_bm0 (pa : PlainAttrs T) (slot : Slot T name id) (hty : typeOf (.builtin id) = pure (.type "method_descriptor")) (hm : MtR X id r) (ho : PE X o to)
    (hbase : attributeBase o name X.env (eval o X.env) = eval o X.env := by rfl) (hline : (apos.endLine == cpos.line) = true := by rfl) : PE X (.Call (.Attribute o name apos) [] [] cpos) (tBM0 X.K T r to) := by
  intro pins s σ H Q I h
  refine wpAny_Call_method0_late hbase hline (thn (ho pins s σ H _ I h) fun v s1 ⟨x, H1, I1, r1, ty, q1⟩ => ?_)
  obtain ⟨h1, h2⟩ := tyV_is I1 r1 ty
  exact ⟨T, id, pa, slot, hty, h1, h2, Calls.callWith_builtin rfl (PySem.evalArgs_none (hm pins s1 σ H1 x [] v [] Q I1 r1 .nil q1))⟩
theorem pe_bm (pa : PlainAttrs T) (slot : Slot T name id) (hty : typeOf (.builtin id) = pure (.type "method_descriptor")) (hm : MtR X id r) (ho : PE X o to) (ha : PA X (e :: es) t)
    (hbase : attributeBase o name X.env (eval o X.env) = eval o X.env := by rfl)
    (hfew : ((backTo cpos (starEach (e :: es) X.env)).all (fun x => !x.1) && (backToKw cpos (keywordEach [] X.env)).all (fun x => x.1.isSome)
      && decide ((e :: es).length + ([] : List Keyword).length + (if ([] : List Keyword).isEmpty then 0 else 1) < 30)) = true := by rfl)
    (hline : (apos.endLine == cpos.line) = true := by rfl) (hs : starEach (e :: es) X.env = (false, eval e X.env) :: starEach es X.env := by rfl) (hplain : (backTo cpos (starEach es X.env)).any (·.1) = false := by rfl) :
    PE X (.Call (.Attribute o name apos) (e :: es) [] cpos) (tBM X.K T r to t) := by
  intro pins s σ H Q I h
  refine wpAny_Call_method_late hbase hfew hline rfl (thn (ho pins s σ H _ I h) fun v s1 ⟨x, H1, I1, r1, ty, q1⟩ => ?_)
  obtain ⟨h1, h2⟩ := tyV_is I1 r1 ty
  refine ⟨T, id, pa, slot, hty, h1, h2, ?_⟩
  have hA := ha cpos pins s1 σ H1 _ I1 q1
  rw [hs] at hA ⊢
  refine Calls.callWith_builtin (by show (false || (backTo cpos (starEach es X.env)).any (·.1)) = false; rw [hplain] <;> rfl) (Calls.evalArgs_plain ?_)
  exact thn hA fun us s2 ⟨vs, H2, I2, r2, q2⟩ => hm pins s2 σ H2 x vs v us Q I2 r1 r2 q2
/- xs.append(e), list.index on a module's tuple .. are MtR facts of 06m -/
end
end L2

namespace L2
open PySem PySem.Spec PyProof.Rows

def MtM (X : Cx) (id : String) (r : V → List V → Hp → VK → Prop) : Prop :=
  ∀ (pins : List (Addr × Obj)) (s : Shared) (σ : St) (H : Hp) (x : V) (xs : List V) (v : Value) (us : List Value) (Q : VK), Inv X pins σ H s → RelV x v → Vals xs us → r x xs H Q →
    wpAny (model X.prog X.w) X.A (call (.builtin id) (v :: us)) (EP X pins σ Q) X.xe s

theorem Vals.one : ∀ {x : V} {us : List Value}, Vals [x] us → ∃ u, us = [u] ∧ RelV x u
  | _, _, .cons r .nil => ⟨_, rfl, r⟩
theorem Vals.zero : ∀ {us : List Value}, Vals [] us → us = []
  | _, .nil => rfl
theorem Vals.dropLast {xs : List V} {us : List Value} (h : Vals xs us) : Vals xs.dropLast us.dropLast := by
  induction h with
  | nil => exact .nil
  | cons r t ih =>
    cases t with
    | nil => exact .nil
    | cons q t' => exact .cons r ih
theorem erase_last {α : Type} (l : List α) : l.eraseIdx (l.length - 1) = l.dropLast := by
  induction l with
  | nil => rfl
  | cons a r ih =>
    cases r with
    | nil => rfl
    | cons b r =>
      have e : (a :: b :: r).length - 1 = ((b :: r).length - 1) + 1 := by
        have h1 : (a :: b :: r).length = r.length + 2 := rfl
        have h2 : (b :: r).length = r.length + 1 := rfl
        omega
      rw [e, List.eraseIdx_cons_succ, ih]
      all_goals rfl
section
variable {X : Cx} {pins : List (Addr × Obj)} {σ : St} {H : Hp} {s : Shared} {l b : Addr} {xs ys zs : List V}

theorem Inv.lset {its its' : List Value} {n : Nat} {f : Array Value → Array Value} {t' : Nat} (I : Inv X pins σ H s) (hH : H l = some (.lst xs))
    (e : s.heap.get? l = some { cls := .type "list", data := .seq its.toArray n }) (hf : f its.toArray = its'.toArray) (hv : Vals ys its') (hz : ys.length ≤ sizeLine) :
    Inv X pins σ (upd H l (.lst ys)) { s with heap := s.heap.update l (Obj.mapSeq f), toks := t' } := by
  have q := PySem.IsL.update e f
  rw [hf] at q
  refine I.write (x := l) (e := l) (by rw [hH]; exact trivial) (.inl rfl) (fun b' u hb hu => (Heap.get?_update_other s.heap (Obj.mapSeq f) (Ne.symm hb)).trans hu) ⟨_, q⟩ ?_
  exact ⟨hz, its', _, hv, q⟩
theorem Inv.lnew {its : List Value} {t' : Nat} (I : Inv X pins σ H s) (hv : Vals ys its) (hz : ys.length ≤ sizeLine) :
    Inv X pins σ (upd H s.heap.objs.size (.lst ys)) { s with heap := s.heap.push { cls := .type "list", data := .seq its.toArray }, toks := t' } :=
  I.laid (fun _ _ q => Heap.get?_push_of_some _ q) (Nat.le_refl _) ⟨hz, its, 0, hv, Heap.get?_push_size _ rfl⟩
theorem Inv.fresh (I : Inv X pins σ H s) : H s.heap.objs.size = none := I.hok.fresh (Nat.le_refl _)
theorem Inv.lstM (I : Inv X pins σ H s) (hH : H l = some (.lst xs)) : xs.length ≤ sizeLine ∧ ∃ (its : List Value) (n : Nat), Vals xs its ∧ xs.length = its.length ∧ s.heap.get? l = some { cls := .type "list", data := .seq its.toArray n } := by
  obtain ⟨z, its, n, r, e⟩ := I.hok l _ hH
  exact ⟨z, its, n, r, r.length, e⟩

end

section
variable {X : Cx}

def rAppend : V → List V → Hp → VK → Prop := fun x vs H Q => ∃ l xs y, x = .ref l ∧ vs = [y] ∧ H l = some (.lst xs) ∧ xs.length < sizeLine ∧ Q .non (upd H l (.lst (xs ++ [y])))
theorem mt_append : MtM X "list.append" rAppend := by
  intro pins s σ H x vs v us Q I rx rv h
  obtain ⟨l, xs, y, rfl, rfl, hH, hz, q⟩ := h
  cases rx
  obtain ⟨u, rfl, ru⟩ := rv.one
  obtain ⟨z, its, n, r, hl, e⟩ := I.lstM hH
  refine call_meets F.slot_list_append ⟨_, e, rfl⟩ F.entry_list_append (F.args_list_append_2 _ _) (PySem.list_append l its.toArray n u (by rw [List.size_toArray]; omega)) ⟨e, ?_⟩
  refine ⟨.non, _, I.lset (its' := its ++ [u]) hH e (by simp) (r.append (.cons ru .nil)) ?_, rfl, q⟩
  rw [List.length_append, List.length_singleton]
  omega

def rPop : V → List V → Hp → VK → Prop := fun x vs H Q => ∃ l xs y, x = .ref l ∧ vs = [] ∧ H l = some (.lst xs) ∧ xs[xs.length - 1]? = some y ∧ Q y (upd H l (.lst xs.dropLast))
theorem mt_pop : MtM X "list.pop" rPop := by
  intro pins s σ H x vs v us Q I rx rv h
  obtain ⟨l, xs, y, rfl, rfl, hH, hy, q⟩ := h
  cases rx
  have hus := rv.zero
  subst hus
  obtain ⟨z, its, n, r, hl, e⟩ := I.lstM hH
  obtain ⟨u, hu, ru⟩ := r.get hy
  have hy' : its.toArray[its.toArray.size - 1]? = some u := by
    show its.toArray[its.length - 1]? = some u
    rw [← Array.getElem?_toList, ← hl]
    exact hu
  refine call_meets F.slot_list_pop ⟨_, e, rfl⟩ F.entry_list_pop (F.args_list_pop_1 _) (MeetsSeq.list_pop_last l its.toArray n u hy' (by rw [List.size_toArray]; omega)) ⟨e, ?_⟩
  refine ⟨y, _, I.lset (its' := its.dropLast) hH e ?_ r.dropLast ?_, ru, q⟩
  · show its.toArray.eraseIdxIfInBounds (its.toArray.size - 1) = its.dropLast.toArray
    rw [List.size_toArray, List.eraseIdxIfInBounds_toArray, erase_last]
  · rw [List.length_dropLast]
    omega

def rCat : R2 := fun x y H Q => ∃ l b xs zs, x = .ref l ∧ y = .ref b ∧ H l = some (.lst xs) ∧ H b = some (.lst zs) ∧ xs.length + zs.length ≤ sizeLine ∧ ∀ p, H p = none → Q (.ref p) (upd H p (.lst (xs ++ zs)))
theorem op_cat : OpR X (binaryOp .Add) rCat := by
  intro pins s σ H x y v u Q I rx ry h
  obtain ⟨l, b, xs, zs, rfl, rfl, hH, hB, hz, q⟩ := h
  cases rx
  cases ry
  obtain ⟨z, its, n, r, hl, e⟩ := I.lstM hH
  obtain ⟨z2, its2, n2, r2, hl2, e2⟩ := I.lstM hB
  refine PySem.P.add_list e e2 ?_ (by rw [List.size_toArray, List.size_toArray]; omega)
  have ea : its.toArray ++ its2.toArray = (its ++ its2).toArray := by simp
  rw [ea]
  exact ⟨.ref _, _, I.lnew (t' := s.toks) (r.append r2) (by rw [List.length_append]; omega), rfl, q _ I.fresh⟩
end

section
variable {prog : Program} {w : World} {A : Around} {E : Value → Shared → Prop} {s : Shared}
set_option maxRecDepth 100000 in
end

section
variable {X : Cx}
end
end L2

namespace Att
open PySem PySem.W PySem.Calls PyProof.Rows

theorem ints_of_wellAll {P : Params} {h : Heap} : ∀ (ns : List Int) (vs : List Value), WellAll P h vs (ns.map WData.int) → IntsAre vs ns := by
  intro ns
  induction ns with
  | nil =>
    intro vs w
    rw [List.map_nil] at w
    cases w
    exact .nil
  | cons n ns ih =>
    intro vs w
    rw [List.map_cons] at w
    cases w with
    | cons a b =>
      cases a
      exact .cons _ _ (ih _ b)

theorem script_of {l : OpenLaw} {n : Nat} (hn : l.most = some n) {P : Params} {h : Heap} {args : List WData} {vals : List Value}
    (hpre : l.row.toRowW.claim.pre args = true) (hwl : WellAll P h vals args) :
    ∃ a vs ns, vals = [Value.ref a] ∧ args = [WData.list (ns.map WData.int)] ∧ h.get? a = some { cls := .type "list", data := .seq vs.toArray } ∧ IntsAre vs ns ∧ ns.length ≤ n := by
  have hsh : WShape.hasAll [] args [.list .int] = true := (pre_splitW hpre).1
  have hc : l.pre.holds [] { args := args } = true := (pre_splitW hpre).2
  obtain ⟨d, r, rfl, h1, h2⟩ := hasAllW_cons hsh
  obtain rfl := hasAllW_nil h2
  obtain ⟨xs, rfl, h3⟩ := hasW_list h1
  obtain ⟨ns, rfl⟩ := items_int h3
  have hlen : ns.length ≤ n := by
    unfold OpenLaw.pre at hc
    have h4 : (WTm.not (.lt (.lit (.int (n : Int))) (.len (.arg 0)))).holds [] { args := [.list (ns.map .int)] } = true := by
      have h4 := (holds_andW hc).1
      rw [hn] at h4
      exact h4
    have h5 := condW_of h4 (w_not (w_lt w_lit (w_len_list (w_arg rfl))))
    rw [List.length_map] at h5
    refine Nat.le_of_not_lt fun q => ?_
    have q' : (n : Int) < ((ns.length : Nat) : Int) := by omega
    first
      | (rw [decide_eq_true q'] at h5; exact absurd h5 (by decide))
      | (simp at h5; omega)
  cases hwl with
  | cons w1 w2 =>
    cases w2
    cases w1 with
    | list ho hall => exact ⟨_, _, ns, rfl, rfl, ho, ints_of_wellAll ns _ hall, hlen⟩

theorem post_true (l : OpenLaw) (args : List WData) : l.row.toRowW.claim.post args (.bool true) args = true :=
  postW_of (r := l.row.toRowW) (X := (true == true))
    (show WShape.has [] (.bool true) .bool = true by first | rfl | decide | simp [WShape.has, WShape.arms, WShape.armsAll])
    (show (WTm.eq .res (.lit (.bool true))).value [] { args := args, res := some (.bool true), after := args } = some (.bool (true == true)) from w_eq_bool (w_res rfl) w_lit) rfl

theorem attach_call {l : OpenLaw} {n : Nat} {q : Program} {loose : List Str} {XP : (Str → Option Value) → Heap → Prop} {YP : World → Heap → Prop} {d : DefRec}
    (hn : l.most = some n) (hdf : d.params.defaults = [])
    (call : ∀ (w : World) (s₀ s₁ : Shared) (mg mb : Str → Option Value) (fa : Addr) (o : Obj) (pm cd doc : Value) (a : Addr) (vs : List Value) (ns : List Int),
      Ground q loose [] XP w s₀ mg mb s₁.heap → YP w s₁.heap →
      s₁.heap.get? fa = some o → o.data = .func (docDef d.name d.params d.body d.scope pm cd doc) → s₁.heap.CodeRec cd d.name → mg d.name = some (.ref fa) →
      s₁.heap.get? a = some { cls := .type "list", data := .seq vs.toArray } → IntsAre vs ns → ns.length ≤ n → s₁.gens = #[] →
      codeAny (model l.prog w) callerA (.call (.ref fa) ⟨[.ref a], []⟩) (fun r s' => r = .ok (.ret (.bool true)) ∧ OldK s₁.heap s'.heap ∧ s'.os = s₁.os ∧ AllBare s'.gens) s₁) :
    WalkO q loose XP YP l.row.toRowW d [] (fun f vs => PySem.call f vs) := by
  intro w s₀ s₁ mg mb G Y fa o pm cd doc dV kV ho hd hcd hD hmg hg args vals as hpre hlay hrd hwl hlo
  obtain rfl : dV = .none := Dflts.none hD hdf
  obtain rfl : kV = .none := Dflts.noKw hD
  obtain ⟨a, vs, ns, rfl, rfl, hobj, hints, hlen⟩ := script_of hn hpre hwl
  refine enter_call (codeAny_mono (call w s₀ s₁ mg mb fa o pm cd doc a vs ns G Y ho (fd_plain hd) hcd hmg hobj hints hlen hg) fun r s' hq => ?_)
  obtain ⟨rfl, h2, h3, h4⟩ := hq
  exact ⟨.inl ⟨.bool true, .bool true, [], rfl, fun _ => rfl, .bool true, post_true l _, fun _ => ⟨List.Pairwise.nil, fun _ hm => (nomatch hm)⟩⟩, h2, h3, h4⟩

section
variable {prog : Program} {w : World} {A : Around} {E : Value → Shared → Prop} {s : Shared} {K : Frag}

end
end Att

namespace L2
open PySem PySem.Spec PyProof.Rows

theorem vals_ints : ∀ {vs : List Value} {ns : List Int}, IntsAre vs ns → Vals (ns.map V.int) vs
  | _, _, .nil => .nil
  | _, _, .cons n t h => .cons ⟨t, rfl⟩ (vals_ints h)

def Only (H : Hp) : Prop := ∀ b, H b = none ∨ ∃ o xs, H b = some (.frz o (.lst xs))

theorem law_call {P : Program} {w : World} {K : PySem.W.Frag} {mg mb : Str → Option Value} {CX : CXT} {k : Nat} {fa a : Addr} {fd : FuncData} {x : Str} {sp : Sp} {s₁ : Shared} {vs : List Value} {ns : List Int}
    (KX : K.In s₁.heap) (hns : s₁.heap.Ns mainGlobals mg) (hb : s₁.heap.Ns builtinsNs mb) (hbb : ∀ x : Str, x ≠ "__name__" → mb x = bootBuiltins x) (hlim : s₁.heap.NoLimit) (hg : s₁.gens = #[])
    (ha : s₁.heap.get? a = some { cls := .type "list", data := .seq vs.toArray }) (hi : IntsAre vs ns) (hl : ns.length ≤ sizeLine) (hr : Room k callerA)
    (F : ∀ base : Heap, K.In base → base.Ns mainGlobals mg → FnOk P w K mg base CX k fa fd [x] sp) (hbind : ∀ (s : Shared) (u : Value), BindsTo s fd ⟨[u], []⟩ [(x, u)])
    (hsp : ∀ H : Hp, Only H → SqL K H a (ns.map V.int) → sp [.ref a] H (fun v _ => v = .bl true) fun _ _ _ => False)
    (hCX : ∀ H e s', CX [] H s₁ (fun _ _ _ => False) e s' → False) :
    codeAny (model P w) callerA (.call (.ref fa) ⟨[.ref a], []⟩) (fun r s' => r = .ok (.ret (.bool true)) ∧ OldK s₁.heap s'.heap ∧ s'.os = s₁.os ∧ AllBare s'.gens) s₁ := by
  have rv := vals_ints hi
  have lenV := hi.length
  -- from an abstract heap in which nothing but the script may be tracked
  have core : ∀ H : Hp, Only H → SqL K H a (ns.map V.int) → HOk P w H s₁.heap → (∀ b, H b ≠ none → b = a) → (H a ≠ none → K.lookup a = none) →
      codeAny (model P w) callerA (.call (.ref fa) ⟨[.ref a], []⟩) (fun r s' => r = .ok (.ret (.bool true)) ∧ OldK s₁.heap s'.heap ∧ s'.os = s₁.os ∧ AllBare s'.gens) s₁ := by
    intro H hO hS hok hA hK
    have base_of : ∀ {b : Addr} {o : Obj}, s₁.heap.get? b = some o → H b = none → (hidT s₁.heap H).get? b = some o := fun e n => hidT_get e n
    have noA : ∀ {b : Addr} {o : Obj} {es : Array DictEntry} {ep : Nat}, s₁.heap.get? b = some o → o.data = .dict es ep → H b = none := fun {b o es ep} e d => by
      cases q : H b with
      | none => rfl
      | some u =>
        have e' : b = a := hA b (by rw [q]; simp)
        subst e'
        rw [ha] at e; cases e
        have d' : Data.seq vs.toArray _ = Data.dict es ep := d
        cases d'
    have nsK : ∀ {b : Addr} {m : Str → Option Value}, s₁.heap.Ns b m → (hidT s₁.heap H).Ns b m := fun {b m} ⟨o, es, ep, e, d, r⟩ => ⟨o, es, ep, base_of e (noA e d), d, r⟩
    have hKb : K.In (hidT s₁.heap H) := fun b o e => base_of (KX b o e) (by
      cases q : H b with
      | none => rfl
      | some u =>
        have e' : b = a := hA b (by rw [q]; simp)
        subst e'
        rw [hK (by rw [q]; simp)] at e; cases e)
    have hM : Mod K mg (hidT s₁.heap H) := ⟨hKb, nsK hns, ⟨mb, nsK hb, hbb⟩, let ⟨mc, h1, h2⟩ := hlim; ⟨mc, nsK h1, h2⟩⟩
    have e0 : Env0 P w K mg (hidT s₁.heap H) callerA [] s₁ H := ⟨rfl, hM, fun b o e => of_hidT e, Nat.le_of_eq (hidT_size _ _), trivial, fun b hb => absurd (show b ∈ ([] : List Addr) from hb) (by simp), hok, .of_eq hg⟩
    refine codeAny_mono ((F _ hKb (nsK hns)).run callerA [] s₁ H ⟨[.ref a], []⟩ [.ref a] [.ref a] _ _ hr e0 (hbind s₁ (.ref a)) (.cons rfl .nil) (hsp H hO hS)) fun r s' h => ?_
    cases r with
    | error e => exact (hCX H e s' h).elim
    | ok fl =>
      cases fl with
      | next => exact False.elim h
      | brk => exact False.elim h
      | cont => exact False.elim h
      | ret u =>
        obtain ⟨v, H', os, bare, un, hok', r', q⟩ := h
        have q' : v = .bl true := q
        subst q'
        obtain rfl : u = Value.bool true := r'
        refine ⟨rfl, OldK.of_keep fun b o e => ?_, os, bare⟩
        cases q : H b with
        | none => exact un.keep b o e q (by intro z; exact absurd (show b ∈ ([] : List Addr) from z) (by simp)) (by simp)
        | some u =>
          rcases hO b with z | ⟨ob, xs, z⟩
          · rw [q] at z; cases z
          · have z2 := un.frzs b ob _ z
            obtain ⟨e1, _⟩ := hok b _ z
            obtain ⟨e2, _⟩ := hok' b _ z2
            rw [e] at e1; cases e1
            exact e2
  cases hk : K.lookup a with
  | some o =>
    -- the script is one of the module's own objects
    have e := KX a o hk
    rw [ha] at e
    cases e
    refine core (fun _ => none) (fun _ => .inl rfl) (.inr ⟨_, vs.toArray, _, hk, rfl, rfl, rfl, by rw [List.size_toArray, lenV]; exact hl, by simpa using rv⟩) (fun b u z => by have z' : (none : Option HO) = some u := z; cases z') (fun b z => absurd rfl z) fun z => absurd rfl z
  | none =>
    refine core (fun b => if b = a then some (.frz { cls := .type "list", data := .seq vs.toArray } (.lst (ns.map V.int))) else none) (fun b => ?_) (.inl (.inr ⟨{ cls := .type "list", data := .seq vs.toArray }, if_pos rfl⟩)) (fun b u z => ?_) (fun b z => ?_) fun _ => hk
    · by_cases hb : b = a
      · exact .inr ⟨_, _, if_pos hb⟩
      · exact .inl (if_neg hb)
    · by_cases hb : b = a
      · have z' := (if_pos hb).symm.trans z
        cases z'
        subst hb
        exact ⟨ha, by rw [List.length_map]; exact hl, vs, _, rv, ha⟩
      · have z' := (if_neg hb).symm.trans z
        cases z'
    · by_cases hb : b = a
      · exact hb
      · exact absurd (if_neg hb) z
end L2

namespace L2
open PySem PySem.Spec PyProof.Rows

abbrev KOf {K : PySem.W.Frag} {h : Heap} (_ : K.In h) : PySem.W.Frag := K

theorem walk_of {l : PySem.W.OpenLaw} {n k : Nat} {q : Program} {loose : List Str} {XP : (Str → Option Value) → Heap → Prop} {YP : World → Heap → Prop} {d : DefRec} {K : Params → PySem.W.Frag} {CX : World → CXT} {sp : World → Sp} {x : Str}
    (hn : l.most = some n) (hn2 : n ≤ sizeLine) (hdf : d.params.defaults = []) (hr : Room k callerA)
    (hY : ∀ (w : World) (h : Heap), YP w h → (K w.params).In h)
    (F : ∀ (w : World) (mg : Str → Option Value) (fa : Addr) (h : Heap), (K w.params).In h → h.Ns mainGlobals mg → mg d.name = some (.ref fa) →
      ∃ fd : FuncData, (∀ (s : Shared) (u : Value), BindsTo s fd ⟨[u], []⟩ [(x, u)]) ∧
        ∀ base : Heap, (K w.params).In base → base.Ns mainGlobals mg → FnOk l.prog w (K w.params) mg base (CX w) k fa fd [x] (sp w))
    (hsp : ∀ (w : World) (H : Hp) (a : Addr) (ns : List Int), ns.length ≤ n → Only H → SqL (K w.params) H a (ns.map V.int) → sp w [.ref a] H (fun v _ => v = .bl true) fun _ _ _ => False)
    (hCX : ∀ (w : World) (H : Hp) (s : Shared) (e : Value) (s' : Shared), CX w [] H s (fun _ _ _ => False) e s' → False) :
    PySem.W.WalkO q loose XP YP l.row.toRowW d [] (fun f vs => PySem.call f vs) := by
  refine Att.attach_call hn hdf fun w s₀ s₁ mg mb fa o pm cd doc a vs ns G Y ho hd hcd hmg hobj hints hlen hg => ?_
  have KX := hY w _ Y
  obtain ⟨fd, hb, hF⟩ := F w mg fa _ KX G.T.g hmg
  exact law_call KX G.T.g G.T.b G.T.builtins G.T.nolimit hg hobj hints (Nat.le_trans hlen hn2) hr hF hb (fun H hO hS => hsp w H a ns hlen hO hS) fun H e s' => hCX w H s₁ e s'
end L2

/- THE LAST THEOREM (shape; LID, My.* are yours):
   My.Adr: a structure of the addresses that your layer names (classes, functions); My.Txt K t: a structure (Prop) of the equations over K;
   My.txt_mk : {K} {implicit addresses ..} (e1 : nsIn K mainGlobals "law" = some (some (.ref f))) (e2 : K.lookup f = some ⟨oc, od, .func (fnOf "law" "law" params body scope dV kV doc pm an cdv ct), sl⟩) (e3 : codeIn K cdv "law" = true) .. : ∃ t, My.Txt K t

set_option maxRecDepth 100000 in
set_option maxHeartbeats 0 in
theorem PySem.Challenge.cw_LID_holds : PySem.Challenge.rw_LID.Holds := by
  w_on; o_law; k_head; (case hw => w_witness2)
  k_fill
  refine L2.walk_of (l := PySem.Challenge.rw_LID) (n := 63) (k := 40) (x := "script") (CX := fun w => ..) (sp := fun _ => My.sp_law) rfl (by decide) rfl ⟨rfl, by decide, by decide⟩ (fun w h Y => PySem.W.kIn_of Y) ?F ?S ?C
  case F =>
    intro w mg fa h KX G hmg
    have T : ∃ t, My.Txt (L2.KOf KX) t := by
      dsimp only [L2.KOf]                          -- K must stand as «<heap const> w.params» for k_is
      refine' My.txt_mk ?e1 ?e2 ?e3 ..
      (case e1 => PySem.W.k_is)                    -- in the order: a name -> its address -> its object -> its parts
      (case e2 => PySem.W.k_is)
      ..
    obtain ⟨t, T⟩ := T
    have e0 := hmg.symm.trans (PySem.W.mg_of KX G T.law)
    cases e0                                       -- fa is the law's own address
    exact ⟨_, fun s u => .of_eq rfl, fun base kb nb => My.law_fn T kb nb⟩     -- if «.of_eq rfl» comes too early: refine' ⟨_, ?b, fun base kb nb => My.law_fn T kb nb⟩; exact fun s u => .of_eq rfl
  case S => exact fun w H a ns hl hO hS => ..
  case C => exact ..
(the tactic k_is has no namespace: write k_is) -/

namespace L2
open PySem PySem.Spec PyProof.Rows

def inClass (s : Stmt) (j : Nat) : Stmt := match s with
  | .ClassDef _ _ _ body _ _ _ _ _ _ _ => body.getD j (.Pass ⟨0, 0, 0, 0⟩)
  | _ => .Pass ⟨0, 0, 0, 0⟩
def defArgs (s : Stmt) : Arguments := match s with
  | .FunctionDef _ a _ _ _ _ _ _ _ _ => a
  | _ => { posonlyargs := [], args := [], vararg := none, kwonlyargs := [], kw_defaults := [], kwarg := none, defaults := [] }
def defBody (s : Stmt) : List Stmt := match s with
  | .FunctionDef _ _ b _ _ _ _ _ _ _ => b
  | _ => []
def defScope (s : Stmt) : Scope := match s with
  | .FunctionDef _ _ _ _ _ _ sc _ _ _ => sc
  | _ => { kind := .function, names := [], isGenerator := false, isCoroutine := false }

abbrev CX0 : CXT := fun _ _ _ _ _ _ => False
abbrev E0 : XK := fun _ _ _ => False
theorem pass0 {X : Cx} : Passes CX0 X E0 := fun _ _ _ _ _ _ _ h => h.elim

section
variable {P : Program} {w : World} {K : PySem.W.Frag} {mg : Str → Option Value} {base : Heap}
end
theorem hu_of {A : Around} {k : Nat} (hr : Room k A) : A.units + 1 < cLine := Nat.lt_of_le_of_lt (Nat.add_le_add_left (by decide : 1 ≤ 64) _) hr.units
theorem small1000 {n : Nat} (h : n ≤ 1000) : n < sizeLine := Nat.lt_of_le_of_lt h (by decide)

section
variable {X : Cx}
theorem pv (i : Nat) {x : Str} {pos : Pos} (hN : X.N[i]? = some x := by rfl) (hv : Vis X.env.scope x := by first | exact Or.inl rfl | exact Or.inr (Or.inl rfl) | exact Or.inr (Or.inr rfl)) (hd : (x == ("__debug__" : Str)) = false := by decide)
    (hcd : (x == ("__classdict__" : Str)) = false := by decide) : PE X (.Name x pos) (tVar i) := pe_var hN hv hd hcd
end

theorem iteF {A B : Prop} (h : B) : if false = true then A else B := by
  rw [if_neg Bool.false_ne_true]
  exact h
theorem iteT {A B : Prop} (h : A) : if true = true then A else B := by
  rw [if_pos rfl]
  exact h
theorem ite2 {c A B : Prop} [Decidable c] (h1 : c → A) (h2 : ¬ c → B) : if c then A else B := by
  by_cases h : c
  · rw [if_pos h]
    exact h1 h
  · rw [if_neg h]
    exact h2 h
def Same (H H' : Hp) : Prop := ∀ b o, H b = some o → H' b = some o
theorem Same.refl (H : Hp) : Same H H := fun _ _ h => h
theorem Same.trans {H H1 H2 : Hp} (a : Same H H1) (b : Same H1 H2) : Same H H2 := fun c o h => b c o (a c o h)
theorem Same.free {H H' : Hp} (e : Same H H') {l : Addr} (h : H' l = Option.none) : H l = Option.none := by
  cases q : H l with
  | none => rfl
  | some o =>
    rw [e l o q] at h
    cases h
theorem Same.seq {K : PySem.W.Frag} {H H' : Hp} {a : Addr} {xs : List V} (e : Same H H') (h : SqL K H a xs) : SqL K H' a xs := by
  rcases h with (h | ⟨o, h⟩) | h
  · exact .inl (.inl (e _ _ h))
  · exact .inl (.inr ⟨o, e _ _ h⟩)
  · exact .inr h

end L2

set_option Elab.async false
set_option linter.all false
set_option maxRecDepth 100000
set_option maxHeartbeats 1000000
namespace L2
open PySem PySem.Spec PyProof.Rows
section
variable {X : Cx}

def Bt (n : Nat) (i : Int) : Prop := i.natAbs < 2 ^ n
theorem intBits_of {n : Nat} {i : Int} (h : Bt n i) : Builtin.Int.intBits i ≤ n := by
  unfold Builtin.Int.intBits
  split
  · exact Nat.zero_le _
  · rename_i h0
    have hp : i.natAbs ≠ 0 := by
      intro z
      apply h0
      simp at z ⊢
      exact z
    have : i.natAbs.log2 < n := (Nat.log2_lt hp).mpr h
    omega
def CBig (i j : Int) : Prop := ∃ n m, Bt n i ∧ Bt m j ∧ n ≤ 1048576 ∧ m ≤ 1048576
theorem CBig.ok {i j : Int} (h : CBig i j) : IntMulOk i j := by
  obtain ⟨n, m, h1, h2, h3, h4⟩ := h
  have e : (2 : Nat) ^ 20 = 1048576 := by decide
  exact IntMulOk.of_bits (by have := intBits_of h1; omega) (by have := intBits_of h2; omega)
theorem op_mulB : OpR X (binaryOp .Mult) (rI CBig fun i j => .int (i * j)) := opI fun _ _ _ _ _ _ _ hc q => mul_int q hc.ok
mutual
inductive DatV (K : PySem.W.Frag) (H : Hp) : V → PyData → Prop where
  | non : DatV K H .non .none
  | bl (b : Bool) : DatV K H (.bl b) (.bool b)
  | int (i : Int) : DatV K H (.int i) (.int i)
  | str (x : Str) : DatV K H (.str x) (.str x)
  | lst {a : Addr} {xs : List V} {ds : List PyData} (h : SqL K H a xs) (q : DatVs K H xs ds) : DatV K H (.ref a) (.list ds)
  | tup {a : Addr} {xs : List V} {ds : List PyData} (h : SqT K H a xs) (q : DatVs K H xs ds) : DatV K H (.ref a) (.tuple ds)
inductive DatVs (K : PySem.W.Frag) (H : Hp) : List V → List PyData → Prop where
  | nil : DatVs K H [] []
  | cons {x : V} {d : PyData} {xs : List V} {ds : List PyData} (p : DatV K H x d) (q : DatVs K H xs ds) : DatVs K H (x :: xs) (d :: ds)
end
theorem datV_reads {pins : List (Addr × Obj)} {s : Shared} {σ : St} {H : Hp} (I : Inv X pins σ H s) : ∀ {x : V} {d : PyData}, DatV X.K H x d → ∀ {u : Value}, RelV x u → ∃ as, Reads s.heap u d as := by
  intro x d h
  induction h using DatV.rec (motive_2 := fun xs ds _ => ∀ {us : List Value}, Vals xs us → ∃ as, ReadsAll s.heap us ds as) with
  | non => intro u r; cases (show u = Value.none from r); exact ⟨_, .none⟩
  | bl b => intro u r; cases (show u = Value.bool b from r); exact ⟨_, .bool b⟩
  | int i => intro u r; obtain ⟨t, rfl⟩ := (show ∃ t, u = Value.int i t from r); exact ⟨_, .int i t⟩
  | str y => intro u r; obtain ⟨t, rfl⟩ := (show ∃ t, u = Value.str y t from r); exact ⟨_, .str y t⟩
  | lst h q ih =>
    intro u r
    cases (show u = Value.ref _ from r)
    obtain ⟨its, rv, pl, _⟩ := I.list h
    obtain ⟨as, ra⟩ := ih rv
    obtain ⟨o, h1, h2, n, h3⟩ := pl.isList
    exact ⟨_, .list h1 h2 h3 (by simpa using ra)⟩
  | tup h q ih =>
    intro u r
    cases (show u = Value.ref _ from r)
    obtain ⟨its, rv, pl, _⟩ := I.tuple h
    obtain ⟨as, ra⟩ := ih rv
    obtain ⟨o, h1, h2, n, h3⟩ := pl
    exact ⟨_, .tuple h1 h2 h3 (by simpa using ra)⟩
  | nil => rename_i us r; cases r; exact ⟨_, .nil⟩
  | cons p q ih1 ih2 =>
    rename_i us r
    cases r with
    | cons r1 r2 =>
      obtain ⟨as, h1⟩ := ih1 r1
      obtain ⟨bs, h2⟩ := ih2 r2
      exact ⟨_, .cons h1 h2⟩
def rDat (K : PySem.W.Frag) (neg : Bool) : R2 := fun x y H Q => ∃ d e, DatV K H x d ∧ DatV K H y e ∧ d.canLay0 = true ∧ e.canLay0 = true ∧ min d.depth e.depth ≤ 16 ∧ Q (.bl (if neg then !PyData.eqv d e else PyData.eqv d e)) H
theorem op_eqD (hu : X.A.units + 64 < cLine) : OpR X (compareOp .Eq) (rDat X.K false) := by
  intro pins s σ H x y v u Q I rx ry h
  obtain ⟨d, e, h1, h2, c1, c2, hm, q⟩ := h
  obtain ⟨as, r1⟩ := datV_reads I h1 rx
  obtain ⟨bs, r2⟩ := datV_reads I h2 ry
  exact PySem.SeqAt.compareEq_reads r1 r2 c1 c2 (by omega) ⟨.bl (PyData.eqv d e), H, I, rfl, q⟩
theorem op_neD (hu : X.A.units + 64 < cLine) : OpR X (compareOp .NotEq) (rDat X.K true) := by
  intro pins s σ H x y v u Q I rx ry h
  obtain ⟨d, e, h1, h2, c1, c2, hm, q⟩ := h
  obtain ⟨as, r1⟩ := datV_reads I h1 rx
  obtain ⟨bs, r2⟩ := datV_reads I h2 ry
  exact PySem.SeqAt.compareNe_reads r1 r2 c1 c2 (by omega) ⟨.bl (!PyData.eqv d e), H, I, rfl, q⟩
end
end L2

set_option Elab.async false
set_option linter.all false
set_option maxRecDepth 100000
set_option maxHeartbeats 2000000
namespace L2
open PySem PySem.Spec PyProof.Rows

section
variable {prog : Program} {w : World} {A : Around} {R : Result → Shared → Prop} {s : Shared}
abbrev tests (ifs : List Expr) (env : Env) : Sem Bool := forIn ifs true fun c r => if r = true then do let ok ← isTrue c env (eval c env); pure (ForInStep.yield ok) else pure (ForInStep.yield r)
theorem comp_loop {elt target iter : Expr} {ifs : List Expr} {scope : Scope} {pos : Pos} {it acc : Value} {env : Env} (I : Nat → Shared → Prop)
    (turn : ∀ n s, I n s → wpAny (model prog w) A (pyNext it) (fun r s₁ => match r with
      | none => R (.ok .next) s₁
      | some v => wpAny (model prog w) A (letOwnedTupleGo target it v) (fun _ s₀ => wpAny (model prog w) A (assign target env v) (fun _ s₂ =>
          wpAny (model prog w) A (tests ifs env) (fun ok s₃ =>
            if ok = true then wpAny (model prog w) A (eval elt env) (fun x s₄ =>
              wpAny (model prog w) A (call (.builtin "list.append") [acc, x]) (fun _ s₅ => ∃ m, m < n ∧ I m s₅) (fun _ _ => False) s₄) (fun _ _ => False) s₃
            else ∃ m, m < n ∧ I m s₃) (fun _ _ => False) s₂) (fun _ _ => False) s₀) (fun _ _ => False) s₁) (fun _ _ => False) s)
    (n : Nat) (h : I n s) :
    codeAny (model prog w) A (.compLoop (.ListComp elt [⟨target, iter, ifs, 0⟩] scope pos) 0 it acc env) R s := by
  refine codeAny_loop rfl I (fun n s hI => ?_) n h
  show wpAny _ A ((compTurn (.ListComp elt [⟨target, iter, ifs, 0⟩] scope pos) 0 it acc env).onRaise (fun x => do noteFrame x env; theTreesLotGoes x)) _ _ s
  refine wpAny_noted ?_
  rw [compTurn_list]
  refine wpAny_bind (wpAny_standAt (wpAny_bind (wpAny_mono (turn n s hI) (fun r s₁ h₁ => ?_) fun _ _ z => z.elim)))
  cases r with
  | none => exact wpAny_pure h₁
  | some v =>
    refine wpAny_bind (wpAny_mono h₁ (fun _ s₀ h₀ => ?_) fun _ _ z => z.elim)
    refine wpAny_bind (wpAny_mono h₀ (fun _ s₂ h₂ => wpAny_bind (wpAny_mono h₂ (fun ok s₃ h₃ => ?_) fun _ _ z => z.elim)) fun _ _ z => z.elim)
    cases ok with
    | false => exact wpAny_pure ⟨rfl, h₃⟩
    | true =>
      rw [if_pos rfl] at h₃
      show wpAny _ _ ((do let _ ← call (.builtin "list.append") [acc, ← eval elt env]) >>= fun _ => again (.compLoop (.ListComp elt [⟨target, iter, ifs, 0⟩] scope pos) 0 it acc env)) _ _ _
      exact wpAny_bind (wpAny_bind (wpAny_mono h₃ (fun x s₄ h₄ => wpAny_bind (wpAny_mono h₄ (fun _ s₅ h₅ => wpAny_pure (wpAny_pure ⟨rfl, h₅⟩)) fun _ _ z => z.elim)) fun _ _ z => z.elim))
end

structure CompOk (X : Cx) (scope : Scope) (cl : List (Str × Addr)) (Nc : List Str) (nl : Nat) (fr : List Nat) : Prop where
  clos : closureFor scope X.env = pure cl
  kind : scope.kind = .function
  names : ∀ y ∈ scope.names, y.2 = .local → scope.names.lookup y.1 = some .local
  cell : ∀ y ∈ scope.names, y.2 ≠ .cell
  sub : ∀ x c, cl.lookup x = some c → X.env.cells.lookup x = some c
  has : ∀ x, (relabel scope X.env).names.lookup x = some .cell ∨ (relabel scope X.env).names.lookup x = some .free → ∃ c, cl.lookup x = some c
  len : Nc.length = nl + fr.length
  tail : ∀ i n, Nc[nl + i]? = some n → ∃ j, fr[i]? = some j ∧ X.N[j]? = some n ∧ X.env.kindOf n = some .cell ∧ cl.lookup n = X.env.cells.lookup n ∧ ((relabel scope X.env).names.lookup n = some .cell ∨ (relabel scope X.env).names.lookup n = some .free)
abbrev compCx (X : Cx) (scope : Scope) (cl : List (Str × Addr)) (Nc : List Str) (C : Addr) (s3 : Shared) (H3 : Hp) (fp : List Addr) (pins : List (Addr × Obj)) : Cx :=
  { X with N := Nc, s₀ := s3, H₀ := H3, env := compEnvC scope cl C X.env, outer := X.stack, ex := fp, fn := fun _ => false, pn := X.pn ++ pins, xe := fun _ _ => False }
def σC (nl : Nat) (fr : List Nat) (σ : St) : St := List.replicate nl none ++ fr.map fun j => (σ[j]?).join
abbrev PIf (X : Cx) (ifs : List Expr) (t : TT) : Prop :=
  ∀ (pins : List (Addr × Obj)) (s : Shared) (σ : St) (H : Hp) (Q : Bool → Hp → Prop), Inv X pins σ H s → t σ H Q → wpAny (model X.prog X.w) X.A (tests ifs X.env) (TP X pins σ Q) X.xe s
theorem pif_nil {X : Cx} : PIf X [] (fun _ H Q => Q true H) := fun _ _ _ H _ I h => wpAny_pure ⟨H, I, h⟩
theorem pif_one {X : Cx} {c : Expr} {t : TT} (h : PT X c t) : PIf X [c] t := fun pins s σ H Q I q => wpAny_tests_one (h pins s σ H Q I q)

section
variable {X : Cx} {scope : Scope} {cl : List (Str × Addr)} {Nc : List Str} {nl : Nat} {fr : List Nat} {pins : List (Addr × Obj)} {σ : St} {H3 : Hp} {s3 : Shared} {fp : List Addr} {h4 : Heap} {tk : Nat}
theorem comp_start (ck : CompOk X scope cl Nc nl fr) (I : Inv X pins σ H3 s3) (hf : ∀ b ∈ fp, FpOk X pins H3 b) (hfs : ∀ b ∈ fp, b < s3.heap.objs.size)
    (hns : h4.Ns s3.heap.objs.size fun _ => none) (hk : ∀ b o, s3.heap.get? b = some o → h4.get? b = some o) :
    Inv (compCx X scope cl Nc s3.heap.objs.size s3 H3 fp pins) [] (σC nl fr σ) H3 { s3 with heap := h4, toks := tk } := by
  have stk : ∀ b ∈ frs X.stack, b ∈ X.env.locals :: X.fs := I.stkSub
  have nfs : ∀ b, b ≠ X.env.locals → b ∉ X.fs → b ∉ frs X.stack := fun b h1 h2 z => (List.mem_cons.mp (stk b z)).elim h1 h2
  have ltc : ∀ x c, cl.lookup x = some c → c < s3.heap.objs.size := fun x c e => by
    obtain ⟨v, z⟩ := I.cell x c (ck.sub x c e)
    exact z.lt
  refine ⟨⟨I.ok.mod, ck.kind, I.ok.glob, I.ok.blt, Nat.le_refl _, fun x y c h1 h2 => I.ok.inj x y c (ck.sub x c h1) (ck.sub y c h2), fun x hx => ck.has x hx, fun x c hz => Bool.noConfusion hz, I.ok.hd, I.ok.frames, .inl rfl, fun b hb => ?_, I.bs, Nat.le_trans I.ok.bsz I.sz, fun b o e hb => ?_, fun b hb => ?_, I.stack, I.stkFree⟩,
    rfl, I.bare, Un.kept hk, ⟨_, hns, fun i x v h1 h2 h3 => ?_⟩, fun x c e => ?_, I.hok.fresh (Nat.le_refl _), fun x c e => I.freeC x c (ck.sub x c e), fun p hp => ?_, I.hok.kept hk, ?_⟩
  · obtain ⟨f0, f1, f2, f3, f4, f5⟩ := hf b hb
    exact ⟨Nat.ne_of_lt (hfs b hb), fun x c e => f4 x c (ck.sub x c e)⟩
  · obtain ⟨f0, f1, f2, f3, f4, f5⟩ := hf b hb
    rcases f3 with z | z
    · exact I.ok.noex b o e z
    · exact absurd (Nat.lt_of_lt_of_le (Heap.lt_size e) (Nat.le_trans I.ok.bsz z)) (Nat.lt_irrefl _)
  · obtain ⟨f0, f1, f2, f3, f4, f5⟩ := hf b hb
    exact nfs b f1 f2
  · -- a name's value
    unfold σC at h2
    by_cases hi : i < nl
    · rw [List.getElem?_append_left (by simpa using hi), List.getElem?_replicate] at h2
      split at h2 <;> cases h2
    · have hi' : nl ≤ i := by omega
      rw [List.getElem?_append_right (by simpa using hi'), List.length_replicate, List.getElem?_map] at h2
      obtain ⟨k, rfl⟩ : ∃ k, i = nl + k := ⟨i - nl, by omega⟩
      obtain ⟨j, e1, e2, e3, e4, e5⟩ := ck.tail k x h1
      rw [Nat.add_sub_cancel_left, e1] at h2
      have h2' : (σ[j]?).join = some v := by simpa using h2
      have h2'' : σ[j]? = some (some v) := by
        cases q : σ[j]? with
        | none => rw [q] at h2'; cases h2'
        | some z => rw [q] at h2'; exact congrArg some h2'
      obtain ⟨m, hn, hl⟩ := I.loc
      obtain ⟨u, r, l⟩ := hl j x v e2 h2'' (.inr (.inl e3))
      refine ⟨u, r, ?_⟩
      rcases l with ⟨k1, _⟩ | ⟨k1, c, ec, z⟩
      · rw [e3] at k1; cases k1
      · obtain ⟨o, ho, hd⟩ := z
        exact .inr ⟨e5, c, by show cl.lookup x = some c; rw [e4]; exact ec, o, hk _ _ ho, hd⟩
  · obtain ⟨v, o, ho, hd⟩ := I.cell x c (ck.sub x c e)
    exact ⟨v, o, hk _ _ ho, hd⟩
  · have hp' : p ∈ X.pn ++ pins := by simpa using hp
    obtain ⟨e, n, ne, nf, d⟩ := I.pin p hp'
    exact ⟨hk _ _ e, n, Nat.ne_of_lt (Heap.lt_size e), nfs _ ne nf, d⟩
  · unfold σC
    show _ = Nc.length
    rw [List.length_append, List.length_replicate, List.length_map, ck.len]
theorem comp_end {pins' : List (Addr × Obj)} {σ' : St} {H' : Hp} {s' : Shared} (I : Inv X pins σ H3 s3) (hf : ∀ b ∈ fp, FpOk X pins H3 b)
    (J : Inv (compCx X scope cl Nc s3.heap.objs.size s3 H3 fp pins) pins' σ' H' s') : Inv X pins σ H' s' ∧ FpOk X pins H' s3.heap.objs.size := by
  refine ⟨I.call' (ch := fp) J.os J.base J.hok J.bare fun b hb => ?_, I.fpOk (Nat.le_refl _) J.free⟩
  obtain ⟨f0, f1, f2, f3, f4, f5⟩ := hf b hb
  exact ⟨f3, f1, f4, f5⟩
theorem Inv.off {b : Addr} {H : Hp} {s : Shared} {h' : Heap} (I : Inv X pins σ H s) (f : FpOk X pins H b) (hs : Heap.SameBut b s.heap h') : Inv X pins σ H { s with heap := h' } := by
  obtain ⟨f0, f1, f2, f3, f4, f5⟩ := f
  exact I.turned (t' := s.toks) (it := b) (fun c o hb e => (hs.2 c hb).trans e) f0 f1 f3 f4 f5
end

def CompW (J : It) (nl : Nat) (fr : List Nat) (g : TG) (tt : TT) (te : TE) (σ : St) (D : Addr) (H1 : Hp) (Q : VK) : Prop :=
  ∃ W : Nat → Nat → List V → Hp → Prop, (∃ m, W 0 m [] (upd H1 D (.lst []))) ∧ ∀ i m ys H2, W i m ys H2 → H2 D = some (.lst ys) ∧
    ((J.stop i H2 ∧ Q (.ref D) H2) ∨ (J.go i H2 ∧ ∀ x H3, J.yld i H2 x H3 → g x (σC nl fr σ) H3 fun σ2 H4 => σ2.length = (σC nl fr σ).length ∧ (∀ (i : Nat) v, (σC nl fr σ)[i]? = some (some v) → σ2[i]? = some (some v)) ∧
      tt σ2 H4 fun b H5 => if b = true then te σ2 H5 fun y H6 => H6 D = some (.lst ys) ∧ ys.length < sizeLine ∧ ∃ m', m' < m ∧ W (i + 1) m' (ys ++ [y]) (upd H6 D (.lst (ys ++ [y])))
        else ∃ m', m' < m ∧ W (i + 1) m' ys H5))
def tComp (wi : TI) (nl : Nat) (fr : List Nat) (g : TG) (tt : TT) (te : TE) : TE := fun σ H Q => wi σ H fun J H1 => ∀ D, H1 D = none → CompW J nl fr g tt te σ D H1 Q
section
variable {X : Cx} {scope : Scope} {cl : List (Str × Addr)} {Nc : List Str} {nl : Nat} {fr : List Nat} {elt tg iter : Expr} {ifs : List Expr} {pos : Pos} {wi : TI} {g : TG} {tt : TT} {te : TE}
theorem comp_run (hc : X.calm = true) (ck : CompOk X scope cl Nc nl fr) (hi : PI X tg iter wi)
    (hg : ∀ C s3 H3 fp pins, PG (compCx X scope cl Nc C s3 H3 fp pins) tg g) (ht : ∀ C s3 H3 fp pins, PIf (compCx X scope cl Nc C s3 H3 fp pins) ifs tt) (he : ∀ C s3 H3 fp pins, PE (compCx X scope cl Nc C s3 H3 fp pins) elt te)
    {pins : List (Addr × Obj)} {s : Shared} {σ : St} {H : Hp} {Q : VK} (I : Inv X pins σ H s) (h : tComp wi nl fr g tt te σ H Q) {RR : Value → Addr → Result → Shared → Prop}
    (fin : ∀ D C s', (∃ H', (∃ m, s'.heap.Ns C m) ∧ Inv X pins σ H' s' ∧ FpOk X pins H' C ∧ Q (.ref D) H') → RR (.ref D) C (.ok .next) s') :
    wpAny (model X.prog X.w) X.A (eval iter X.env) (fun x s₁ => wpAny (model X.prog X.w) X.A (pyIter x) (fun it s₂ => wpAny (model X.prog X.w) X.A (newList []) (fun acc s₃ =>
      wpAny (model X.prog X.w) X.A (newFunctionEnv scope X.env.globals cl [] X.env.qual none .none (some X.env)) (fun cenv s₄ =>
        codeAny (model X.prog X.w) X.A (.compStart (.ListComp elt [⟨tg, iter, ifs, 0⟩] scope pos) 0 it acc { cenv with scope := relabel scope X.env }) (RR acc cenv.locals) s₄) X.xe s₃) X.xe s₂) X.xe s₁) X.xe s := by
  refine thn (hi pins s σ H _ I h) fun v s1 h1 => thn h1 fun itv s2 h2 => ?_
  obtain ⟨it, fp, tn, J, H2, e, I2, T, st2, f2, hD⟩ := h2
  subst e
  have hn2 : H2 s2.heap.objs.size = none := I2.hok.fresh (Nat.le_refl _)
  obtain ⟨W, ⟨m0, w0⟩, turn⟩ := hD s2.heap.objs.size hn2
  refine wpAny_newObj_type (wpAny_newFunctionEnv ck.cell (by intro y hy; simp at hy) (fun h4 hns hsb => ?_) ck.kind)
  dsimp only at hns hsb ⊢
  have I3 : Inv X pins σ (upd H2 s2.heap.objs.size (.lst [])) { s2 with heap := s2.heap.push { cls := .type "list", dict := none, data := .seq ([] : List Value).toArray } } :=
    I2.laid (t' := s2.toks) (fun b u e => Heap.get?_push_of_some _ e) (Nat.le_refl _) ⟨Nat.zero_le _, [], 0, .nil, Heap.get?_push_size _ rfl⟩
  have hfs : ∀ b ∈ fp, b < s2.heap.objs.size := fun b hb => by
    obtain ⟨o, e, _⟩ := T.obj 0 _ st2 b hb
    exact Heap.lt_size e
  have f3 : ∀ b ∈ fp, FpOk X pins (upd H2 s2.heap.objs.size (.lst [])) b := fun b hb => ⟨by rw [upd_ne (Nat.ne_of_lt (hfs b hb))]; exact (f2 b hb).1, (f2 b hb).2⟩
  generalize hH3 : upd H2 s2.heap.objs.size (.lst []) = H3 at *
  generalize hs3 : ({ s2 with heap := s2.heap.push { cls := .type "list", dict := none, data := .seq ([] : List Value).toArray } } : Shared) = s3 at *
  have z3 : s3.heap = s2.heap.push { cls := .type "list", dict := none, data := .seq ([] : List Value).toArray } := by rw [← hs3]
  have hsz3 : s3.heap.objs.size = s2.heap.objs.size + 1 := by rw [z3, Heap.size_push]
  rw [← z3] at hns hsb ⊢
  have hk4 : ∀ b o, s3.heap.get? b = some o → h4.get? b = some o := fun b o e => hsb.extBut b o (Nat.ne_of_lt (Heap.lt_size e)) (Heap.get?_push_of_some _ e)
  have hfs3 : ∀ b ∈ fp, b < s3.heap.objs.size := fun b hb => Nat.lt_of_lt_of_le (hfs b hb) (by rw [hsz3]; exact Nat.le_succ _)
  have hns' : h4.Ns s3.heap.objs.size fun _ => none := by simpa using hns
  have K0 := fun tk => comp_start (tk := tk) ck I3 f3 hfs3 hns' hk4
  have stat : ∀ {H' : Hp}, (∀ b ∈ fp, H' b = none) → ∀ b ∈ fp, FpOk (compCx X scope cl Nc s3.heap.objs.size s3 H3 fp pins) [] H' b := fun {H'} hn b hb => by
    obtain ⟨f0, g1, g2, g3, g4, g5⟩ := f3 b hb
    refine ⟨hn b hb, Nat.ne_of_lt (hfs3 b hb), fun z => ?_, .inl hb, fun x c e => g4 x c (ck.sub x c e), fun p hp => g5 p (by simpa using hp)⟩
    exact (List.mem_cons.mp (I3.stkSub b z)).elim g1 g2
  have st4 : tn 0 h4 := T.keep 0 _ _ st2 fun b hb o e => hk4 b o (by rw [z3]; exact Heap.get?_push_of_some _ e)
  have loop : ∀ tk, codeAny (model X.prog X.w) X.A (.compLoop (.ListComp elt [⟨tg, iter, ifs, 0⟩] scope pos) 0 (.ref it) (.ref s2.heap.objs.size) (compEnvC scope cl s3.heap.objs.size X.env)) (RR (.ref s2.heap.objs.size) s3.heap.objs.size) { s3 with heap := h4, toks := tk } := by
    intro tk
    refine comp_loop (fun n s' => ∃ i ys H', Inv (compCx X scope cl Nc s3.heap.objs.size s3 H3 fp pins) [] (σC nl fr σ) H' s' ∧ tn i s'.heap ∧ (∀ b ∈ fp, H' b = none) ∧ W i n ys H') ?_ m0 ⟨0, [], H3, K0 tk, st4, fun b hb => (f3 b hb).1, w0⟩
    rintro n s5 ⟨i, ys, H5, I5, st5, fr5, w5⟩
    obtain ⟨hl5, q5⟩ := turn i n ys H5 w5
    rcases q5 with ⟨stop, qn⟩ | ⟨go, step⟩
    · refine wpAny_mono (T.done (compCx X scope cl Nc s3.heap.objs.size s3 H3 fp pins) rfl rfl rfl hc i [] s5 (σC nl fr σ) H5 (fun _ _ => False) I5 (stat fr5) st5 stop) (fun r s6 h6 => ?_) fun _ _ z => z
      obtain ⟨hr, I6⟩ := h6
      subst hr
      obtain ⟨z1, z2⟩ := comp_end I3 f3 I6
      refine fin _ _ _ ⟨H5, ?_, z1, z2, qn⟩
      obtain ⟨m, hm, _⟩ := I6.loc
      exact ⟨m, hm⟩
    · refine wpAny_mono (T.item (compCx X scope cl Nc s3.heap.objs.size s3 H3 fp pins) rfl rfl rfl hc i [] s5 (σC nl fr σ) H5 (fun _ _ => False) I5 (stat fr5) st5 go) (fun r s6 h6 => ?_) fun _ _ z => z
      obtain ⟨u, hr, h6⟩ := h6
      subst hr
      refine wpAny_mono h6 (fun _ s7 h7 => ?_) fun _ _ z => z
      obtain ⟨x, H7, I7, r7, y7, st7, fr7⟩ := h7
      have I7' := I7.pinned (stat fr7) (T.obj _ _ st7)
      refine wpAny_mono (hg s3.heap.objs.size s3 H3 fp pins _ s7 _ H7 x u _ I7' r7 (step x H7 y7)) (fun _ s8 h8 => ?_) fun _ _ z => z
      obtain ⟨σ8, H8, I8, l8, k8, q8⟩ := h8
      refine wpAny_mono (ht s3.heap.objs.size s3 H3 fp pins _ s8 σ8 H8 _ I8 q8) (fun b s9 h9 => ?_) fun _ _ z => z
      obtain ⟨H9, I9, q9⟩ := h9
      have again : ∀ {ys' : List V} {H' : Hp} {s' : Shared} {m' : Nat}, Inv (compCx X scope cl Nc s3.heap.objs.size s3 H3 fp pins) ([] ++ pinsAt fp s7.heap) σ8 H' s' → m' < n → W (i + 1) m' ys' H' →
          ∃ m, m < n ∧ ∃ i ys H', Inv (compCx X scope cl Nc s3.heap.objs.size s3 H3 fp pins) [] (σC nl fr σ) H' s' ∧ tn i s'.heap ∧ (∀ b ∈ fp, H' b = none) ∧ W i m ys H' := fun {ys' H' s' m'} I' hm w' => by
        refine ⟨m', hm, i + 1, ys', H', I'.unpinned.weak l8.symm k8, T.keep _ _ _ st7 fun b hb o e => (I'.pin (b, o) (List.mem_append_right _ (List.mem_append_right _ (mem_pinsAt hb e)))).1, fun b hb => ?_, w'⟩
        obtain ⟨o, e, d⟩ := T.obj _ _ st7 b hb
        exact (I'.pin (b, o) (List.mem_append_right _ (List.mem_append_right _ (mem_pinsAt hb e)))).2.1
      cases b with
      | false =>
        rw [if_neg Bool.false_ne_true] at q9 ⊢
        obtain ⟨m', hm, w9⟩ := q9
        exact again I9 hm w9
      | true =>
        rw [if_pos rfl] at q9 ⊢
        refine wpAny_mono (he s3.heap.objs.size s3 H3 fp pins _ s9 σ8 H9 _ I9 q9) (fun yv s10 h10 => ?_) fun _ _ z => z
        obtain ⟨y, H10, I10, r10, hl10, hz10, m', hm, w10⟩ := h10
        refine wpAny_mono (mt_append (X := compCx X scope cl Nc s3.heap.objs.size s3 H3 fp pins) _ s10 σ8 H10 (.ref s2.heap.objs.size) [y] _ [yv] (fun v H' => H' = upd H10 s2.heap.objs.size (.lst (ys ++ [y]))) I10 rfl (.cons r10 .nil) ⟨_, ys, y, rfl, rfl, hl10, hz10, rfl⟩) (fun _ s11 h11 => ?_) fun _ _ z => z
        obtain ⟨_, H11, I11, _, e11⟩ := h11
        subst e11
        exact again I11 hm w10
  have L := loop (s2.toks + ([] : List (Str × Value)).length)
  rw [show s3.gens = s2.gens by rw [← hs3], show s3.drawn = s2.drawn by rw [← hs3], show s3.os = s2.os by rw [← hs3]] at L
  exact codeAny_compStart_list L (T.self _ 0 _ _ _ st4 L)
theorem pe_comp (hc : X.calm = true) (ck : CompOk X scope cl Nc nl fr) (hi : PI X tg iter wi)
    (hg : ∀ C s3 H3 fp pins, PG (compCx X scope cl Nc C s3 H3 fp pins) tg g) (ht : ∀ C s3 H3 fp pins, PIf (compCx X scope cl Nc C s3 H3 fp pins) ifs tt) (he : ∀ C s3 H3 fp pins, PE (compCx X scope cl Nc C s3 H3 fp pins) elt te)
    (hs : ∀ x, foldedSetIterable iter X.env x = pure x := by intro _; rfl) : PE X (.ListComp elt [⟨tg, iter, ifs, 0⟩] scope pos) (tComp wi nl fr g tt te) := by
  intro pins s σ H Q I h
  rw [eval_ListComp]
  refine wpAny_comprehension_free (use := none) rfl hs ck.clos ck.kind ck.names (comp_run (RR := fun acc C => compPost (model X.prog X.w) X.A X.xe none (EP X pins σ Q) acc C) hc ck hi hg ht he I h fun D C s' hh => ?_)
  obtain ⟨H', ⟨m, hm⟩, hI, hF, q⟩ := hh
  exact ⟨m, hm, fun h' hs' => ⟨.ref D, H', hI.off hF hs', rfl, q⟩⟩
end
end L2

set_option maxHeartbeats 1000000
namespace Mq
abbrev Q2 := Int × Int
def gc (a b : Int) : Int := (Int.gcd a b : Nat)
theorem gc_step (a b : Int) : gc b (Int.fmod a b) = gc a b := by
  unfold gc
  rw [Int.fmod_def, Int.gcd_comm a b, Int.sub_eq_add_neg, ← Int.mul_neg, Int.gcd_add_mul_left_right]
theorem fmod_less {a b : Int} (h : b ≠ 0) : (Int.fmod a b).natAbs < b.natAbs := by
  rcases (by omega : 0 < b ∨ b < 0) with h1 | h1
  · have := Int.fmod_nonneg_of_pos a h1
    have := Int.fmod_lt_of_pos a h1
    omega
  · have h2 : 0 < -b := by omega
    have e : Int.fmod a b = - Int.fmod (-a) (-b) := by
      rw [Int.neg_fmod_neg]; omega
    have := Int.fmod_nonneg_of_pos (-a) h2
    have := Int.fmod_lt_of_pos (-a) h2
    omega
theorem gc_zero (a : Int) : gc a 0 = if a < 0 then -a else a := by
  unfold gc
  rw [Int.gcd_zero]
  split <;> omega
structure Low (p : Q2) : Prop where
  pos : 1 ≤ p.2
  one : gc p.1 p.2 = 1
def B (n : Nat) (i : Int) : Prop := i.natAbs < 2 ^ n
structure Bd (n : Nat) (p : Q2) : Prop where
  a : B n p.1
  b : B n p.2
theorem B.mono {n m : Nat} {i : Int} (h : B n i) (l : n ≤ m) : B m i := Nat.lt_of_lt_of_le h (Nat.pow_le_pow_right (by decide) l)
theorem Bd.mono {n m : Nat} {p : Q2} (h : Bd n p) (l : n ≤ m) : Bd m p := ⟨h.a.mono l, h.b.mono l⟩
end Mq

set_option Elab.async false
set_option linter.all false
set_option maxRecDepth 100000
set_option maxHeartbeats 1000000
namespace L2
open PySem PySem.Spec PyProof.Rows
section
variable {X : Cx} {e st : Expr} {te ts : TE} {p2 pos : Pos}
end

structure FunD (K : PySem.W.Frag) (x qual : Str) (st : Stmt) (dV : Value) (f : Addr) (fd : FuncData) : Prop where
  ex : ∃ (oc : Value) (od : Option Addr) (kV doc pm : Value) (an : Option Addr) (cdv ct : Value) (osl : Array (Option Value)),
    fd = PySem.W.fnOf x qual (defArgs st) (defBody st) (defScope st) dV kV doc pm an cdv ct ∧ K.lookup f = some ⟨oc, od, .func fd, osl⟩ ∧ PySem.W.codeIn K cdv qual = true
  kp : PySem.W.keepIn K (.ref f) = true
section
variable {P : Program} {w : World} {K : PySem.W.Frag} {mg : Str → Option Value} {base : Heap} {CX : CXT}
theorem FunD.okX {x qual : Str} {st : Stmt} {dV : Value} {f : Addr} {fd : FuncData} {N ps : List Str} {k : Nat} {sp : Sp} (F : FunD K x qual st dV f fd) (S : FnScope N ps (defScope st)) (len : ∀ vs H Q E, sp vs H Q E → vs.length = ps.length)
    (hbody : ∀ (cdv : Value) (A : Around) (outer : List Env) (s : Shared) (H : Hp) (vs : List V) (Q : VK) (E : XK), Room k (A.deeper (envOfC qual (defScope st) s.heap.objs.size f cdv)) → sp vs H Q E →
      ∃ t, PSs (cxOf CX P w K mg base N qual (defScope st) f cdv A outer s H E) (defBody st) t ∧ t { nx := fun _ H' => Q .non H', rt := Q } (start N vs) H) : FnOk P w K mg base CX (k + 1) f fd ps sp := by
  obtain ⟨oc, od, kV, doc, pm, an, cdv, ct, osl, rfl, lk, hcd⟩ := F.ex
  exact fn_of lk hcd S len fun A outer s H vs Q E hr hsp => hbody cdv A outer s H vs Q E hr hsp
theorem FunD.ok {x qual : Str} {st : Stmt} {dV : Value} {f : Addr} {fd : FuncData} {N ps : List Str} {k : Nat} {sp : Sp} (F : FunD K x qual st dV f fd) (S : FnScope N ps (defScope st)) (len : ∀ vs H Q E, sp vs H Q E → vs.length = ps.length)
    (hbody : ∀ (cdv : Value) (A : Around) (outer : List Env) (s : Shared) (H : Hp) (vs : List V) (Q : VK) (E : XK), Room k (A.deeper (envOfC qual (defScope st) s.heap.objs.size f cdv)) → sp vs H Q E →
      ∃ t, PSs (cxOf CX P w K mg base N qual (defScope st) f cdv A outer s H E).nox (defBody st) t ∧ t { nx := fun _ H' => Q .non H', rt := Q } (start N vs) H) : FnOk P w K mg base CX (k + 1) f fd ps sp :=
  F.okX S len fun cdv A outer s H vs Q E hr hsp => by
    obtain ⟨t, h, q⟩ := hbody cdv A outer s H vs Q E hr hsp
    exact ⟨t, h.nox, q⟩
theorem FunD.binds {x qual : Str} {st : Stmt} {dV : Value} {f : Addr} {fd : FuncData} {ps : List Str} (F : FunD K x qual st dV f fd)
    (h : ∀ (kV doc pm : Value) (an : Option Addr) (cdv ct : Value) (us : List Value), us.length = ps.length → bindArgs (PySem.W.fnOf x qual (defArgs st) (defBody st) (defScope st) dV kV doc pm an cdv ct) ⟨us, []⟩ = pure (ps.zip us)) : Binds K fd ps [] := by
  obtain ⟨oc, od, kV, doc, pm, an, cdv, ct, osl, rfl, lk, hcd⟩ := F.ex
  exact .all (h kV doc pm an cdv ct)
theorem fund_mk {x qual : Str} {st : Stmt} {dV : Value} {f : Addr} {oc : Value} {od an : Option Addr} {osl : Array (Option Value)} {kV doc pm cdv ct : Value} (l : K.lookup f = some ⟨oc, od, .func (PySem.W.fnOf x qual (defArgs st) (defBody st) (defScope st) dV kV doc pm an cdv ct), osl⟩)
    (c : PySem.W.codeIn K cdv qual = true) (k : PySem.W.keepIn K (.ref f) = true) : FunD K x qual st dV f (PySem.W.fnOf x qual (defArgs st) (defBody st) (defScope st) dV kV doc pm an cdv ct) := ⟨⟨oc, od, kV, doc, pm, an, cdv, ct, osl, rfl, l, c⟩, k⟩
end

abbrev fT (p : Mq.Q2) : HO := .tup [.int p.1, .int p.2]
def Fq (K : PySem.W.Frag) (H : Hp) (a : Addr) (p : Mq.Q2) : Prop := SqT K H a [.int p.1, .int p.2]
theorem Same.seqT {K : PySem.W.Frag} {H H' : Hp} {a : Addr} {xs : List V} (e : Same H H') (h : SqT K H a xs) : SqT K H' a xs := by
  rcases h with (h | ⟨o, h⟩) | h
  · exact .inl (.inl (e _ _ h))
  · exact .inl (.inr ⟨o, e _ _ h⟩)
  · exact .inr h
theorem same_new {H : Hp} {p : Addr} (h : H p = none) (o : HO) : Same H (upd H p o) := fun b u q => by rw [upd_ne (ne_of_none q h)]; exact q
theorem Same.fq {K : PySem.W.Frag} {H H' : Hp} {a : Addr} {p : Mq.Q2} (e : Same H H') (h : Fq K H a p) : Fq K H' a p := e.seqT h
theorem Fq.of {K : PySem.W.Frag} {H : Hp} {a : Addr} {p : Mq.Q2} (h : H a = some (fT p)) : Fq K H a p := SqT.of h
theorem rd_ix0 {K : PySem.W.Frag} {σ : St} {H : Hp} {i : Nat} {a : Addr} {p : Mq.Q2} {Q : VK} (hv : σ[i]? = some (some (.ref a))) (h : Fq K H a p) (q : Q (.int p.1) H) : tOp (rIxT K) (tVar i) (tC (.int 0)) σ H Q :=
  ⟨_, hv, a, _, _, _, rfl, rfl, h, rfl, q⟩
theorem rd_ix1 {K : PySem.W.Frag} {σ : St} {H : Hp} {i : Nat} {a : Addr} {p : Mq.Q2} {Q : VK} (hv : σ[i]? = some (some (.ref a))) (h : Fq K H a p) (q : Q (.int p.2) H) : tOp (rIxT K) (tVar i) (tC (.int 1)) σ H Q :=
  ⟨_, hv, a, _, _, _, rfl, rfl, h, rfl, q⟩
theorem rd_mulB {H : Hp} {n m : Nat} {i j : Int} {Q : VK} (h1 : Mq.B n i) (h2 : Mq.B m j) (h3 : n ≤ 1048576) (h4 : m ≤ 1048576) (q : Q (.int (i * j)) H) : rI CBig (fun i j => .int (i * j)) (.int i) (.int j) H Q :=
  ⟨_, _, rfl, rfl, ⟨n, m, h1, h2, h3, h4⟩, q⟩
structure Bl (mg : Str → Option Value) : Prop where
  isi : mg "isinstance" = none
  int : mg "int" = none
  bool : mg "bool" = none
  abs : mg "abs" = none
end L2

set_option Elab.async false
set_option linter.all false
namespace L2
open PySem PySem.Spec PyProof.Rows
def NotWhole (t : Value) : Prop := t = .type "bool" ∨ t = .type "str" ∨ t = .type "NoneType" ∨ t = .type "tuple" ∨ t = .type "list"
def spWhole (K : PySem.W.Frag) : Sp := fun vs H Q _ => ∃ x, vs = [x] ∧ ((∃ i, x = .int i ∧ Q (.bl true) H) ∨ (∃ t, TyOf K H x t ∧ NotWhole t ∧ Q (.bl false) H))
def spGc : Sp := fun vs H Q _ => ∃ a b : Int, vs = [.int a, .int b] ∧ Q (.int (Mq.gc a b)) H
end L2

set_option Elab.async false
set_option linter.all false
set_option maxHeartbeats 1000000
namespace L2
open PySem PySem.Spec PyProof.Rows
theorem Fq.upd {K : PySem.W.Frag} {H : Hp} {a l : Addr} {p : Mq.Q2} {xs : List V} {o : HO} (h : Fq K H a p) (hl : H l = some (.lst xs)) : Fq K (L2.upd H l o) a p := by
  rcases h with (h | ⟨u, h⟩) | h
  · exact .inl (.inl (by rw [upd_ne (ne_of h hl (fun z => by cases z))]; exact h))
  · exact .inl (.inr ⟨u, by rw [upd_ne (ne_of h hl (fun z => by cases z))]; exact h⟩)
  · exact .inr h
theorem Same.change {H H' : Hp} {l : Addr} {o : HO} (s : Same H H') (h : H l = none) : Same H (L2.upd H' l o) := fun b u q => by
  rw [upd_ne (ne_of_none q h)]; exact s b u q
end L2

set_option Elab.async false
set_option linter.all false
set_option maxRecDepth 100000
set_option maxHeartbeats 2000000
namespace L2
open PySem PySem.Spec PyProof.Rows
abbrev CompT (nl : Nat) (fr : List Nat) (g : TG) (tt : TT) (te : TE) (σ : St) (D : Addr) (Pv : Nat → List V → Hp → Prop) (i : Nat) (ys : List V) (x : V) (H : Hp) : Prop :=
  g x (σC nl fr σ) H fun σ2 H4 => σ2.length = (σC nl fr σ).length ∧ (∀ (i : Nat) v, (σC nl fr σ)[i]? = some (some v) → σ2[i]? = some (some v)) ∧
    tt σ2 H4 fun b H5 => if b = true then te σ2 H5 fun y H6 => H6 D = some (.lst ys) ∧ ys.length < sizeLine ∧ Pv (i + 1) (ys ++ [y]) (upd H6 D (.lst (ys ++ [y]))) else Pv (i + 1) ys H5
section
variable {nl : Nat} {fr : List Nat} {g : TG} {tt : TT} {te : TE} {σ : St} {D : Addr} {H1 : Hp} {Q : VK}
theorem comp_range {lo : Int} {n : Nat} (Pv : Nat → List V → Hp → Prop) (h0 : Pv 0 [] (upd H1 D (.lst []))) (hl : ∀ i ys H, Pv i ys H → H D = some (.lst ys))
    (hs : ∀ i ys H, i < n → Pv i ys H → ∀ (C : Nat → List V → Hp → Prop), (∀ ys H, Pv (i + 1) ys H → C (i + 1) ys H) → CompT nl fr g tt te σ D C i ys (.int (lo + i)) H) (hd : ∀ ys H, Pv n ys H → Q (.ref D) H) :
    CompW (Itr lo n) nl fr g tt te σ D H1 Q := by
  refine ⟨fun i m ys H => m = n - i ∧ i ≤ n ∧ Pv i ys H, ⟨n, by simp, Nat.zero_le _, h0⟩, ?_⟩
  rintro i m ys H ⟨rfl, hi, p⟩
  refine ⟨hl i ys H p, ?_⟩
  by_cases hlt : i < n
  · refine .inr ⟨hlt, fun x H' y => ?_⟩
    obtain ⟨e, y⟩ := y
    subst e y
    exact hs i ys _ hlt p (fun j zs Hz => ∃ m', m' < n - i ∧ m' = n - j ∧ j ≤ n ∧ Pv j zs Hz) fun zs Hz z => ⟨n - (i + 1), by omega, rfl, hlt, z⟩
  · have e : i = n := by omega
    subst e
    exact .inl ⟨Nat.le_refl _, hd ys H p⟩
theorem comp_list {K : PySem.W.Frag} {a : Addr} {xs : List V} (Pv : Nat → List V → Hp → Prop) (h0 : Pv 0 [] (upd H1 D (.lst []))) (hl : ∀ i ys H, Pv i ys H → H D = some (.lst ys)) (hx : ∀ i ys H, i ≤ xs.length → Pv i ys H → SqL K H a xs)
    (hs : ∀ i ys x H, xs[i]? = some x → Pv i ys H → ∀ (C : Nat → List V → Hp → Prop), (∀ ys H, Pv (i + 1) ys H → C (i + 1) ys H) → CompT nl fr g tt te σ D C i ys x H) (hd : ∀ ys H, Pv xs.length ys H → Q (.ref D) H) :
    CompW (Itl K a) nl fr g tt te σ D H1 Q := by
  refine ⟨fun i m ys H => m = xs.length - i ∧ i ≤ xs.length ∧ Pv i ys H, ⟨xs.length, by simp, Nat.zero_le _, h0⟩, ?_⟩
  rintro i m ys H ⟨rfl, hi, p⟩
  refine ⟨hl i ys H p, ?_⟩
  have q := hx i ys H hi p
  by_cases hlt : i < xs.length
  · refine .inr ⟨⟨xs, xs[i], q, by simp [hlt]⟩, fun x H' y => ?_⟩
    obtain ⟨e, y⟩ := y
    subst e
    exact hs i ys x _ (y xs q) p (fun j zs Hz => ∃ m', m' < xs.length - i ∧ m' = xs.length - j ∧ j ≤ xs.length ∧ Pv j zs Hz) fun zs Hz z => ⟨xs.length - (i + 1), by omega, rfl, hlt, z⟩
  · have e : i = xs.length := by omega
    subst e
    exact .inl ⟨⟨xs, q, Nat.le_refl _⟩, hd ys H p⟩
end
theorem keep1 {fr : List Nat} {σ : St} {x : V} : ((σC 1 fr σ).set 0 (some x)).length = (σC 1 fr σ).length ∧ ∀ (i : Nat) v, (σC 1 fr σ)[i]? = some (some v) → ((σC 1 fr σ).set 0 (some x))[i]? = some (some v) := by
  refine ⟨by simp, fun i v h => ?_⟩
  match i with
  | 0 => unfold σC at h; simp at h
  | k + 1 => rw [List.getElem?_set_ne (by omega)]; exact h
theorem has_of {names : List (Str × NameKind)} {cl : List (Str × Addr)} (h : names.all (fun y => !(y.2 == .cell || y.2 == .free) || (cl.lookup y.1).isSome) = true) (x : Str) (hx : names.lookup x = some .cell ∨ names.lookup x = some .free) : ∃ c, cl.lookup x = some c := by
  have key : ∀ k, (k = NameKind.cell ∨ k = NameKind.free) → names.lookup x = some k → ∃ c, cl.lookup x = some c := fun k hk e => by
    have m := List.all_eq_true.mp h _ (PySem.mem_of_lookup e)
    have : (k == NameKind.cell || k == NameKind.free) = true := by rcases hk with rfl | rfl <;> rfl
    simp only [this, Bool.not_true, Bool.false_or] at m
    exact Option.isSome_iff_exists.mp m
  rcases hx with e | e
  · exact key _ (.inl rfl) e
  · exact key _ (.inr rfl) e
end L2

set_option Elab.async false
set_option linter.all false
set_option maxRecDepth 100000
set_option maxHeartbeats 2000000
namespace L2
open PySem PySem.Spec PyProof.Rows
section
variable {X : Cx} {pins : List (Addr × Obj)} {σ : St} {H : Hp} {s : Shared} {h' : Heap}
theorem Inv.turnedL {t' : Nat} {fp : List Addr} (I : Inv X pins σ H s) (k : ∀ b o, b ∉ fp → s.heap.get? b = some o → h'.get? b = some o) (hf : ∀ b ∈ fp, FpOk X pins H b) : Inv X pins σ H { s with heap := h', toks := t' } := by
  have nit : ∀ b u, H b = some u → b ∉ fp := fun b u e z => by rw [(hf b z).1] at e; cases e
  have nL : X.env.locals ∉ fp := fun z => (hf _ z).2.1 rfl
  refine I.step (g' := s.gens) (d' := s.drawn) (ch := fp) (fun b hb => ?_) (fun b o _ _ hc e _ => k b o hc e) (fun b o _ _ hc e _ => ⟨o.slots, k b o hc e⟩) (fun _ _ _ _ n => n)
    (fun b o hc e => ⟨o, k b o hc e⟩) (fun _ _ e => e) (fun _ _ _ e => e) (fun b ps e => ⟨#[], by rw [e]; simp⟩) (fun m hm => ?_) (fun b u e => ?_) I.bare
  · obtain ⟨f0, f1, f2, f3, f4, f5⟩ := hf b hb
    exact ⟨f3, f1, f4, f5⟩
  · obtain ⟨o, es, ep, ho, r⟩ := hm
    exact ⟨o, es, ep, k _ o nL ho, r⟩
  · refine (I.hok b u e).stay (fun c v hc q => k c v ?_ q) (fun _ q => q) fun _ _ q => q
    rcases hc with z | z
    · rw [z]; exact nit b u e
    · exact nit c _ z
end
section
variable {X : Cx}
end
end L2

set_option Elab.async false
set_option linter.all false
set_option maxRecDepth 100000
set_option maxHeartbeats 2000000
namespace L2
open PySem PySem.Spec PyProof.Rows
section
variable {X : Cx}
def rInsert : V → List V → Hp → VK → Prop := fun x vs H Q => ∃ (l : Addr) (xs : List V) (k : Nat) (i : Int) (y : V), x = .ref l ∧ vs = [.int i, y] ∧ i = (k : Int) ∧ k ≤ xs.length ∧ H l = some (.lst xs) ∧ xs.length < sizeLine ∧ Q .non (upd H l (.lst (xs.take k ++ y :: xs.drop k)))
theorem mt_insert : MtM X "list.insert" rInsert := by
  intro pins s σ H x vs v us Q I rx rv h
  obtain ⟨l, xs, k, i, y, rfl, rfl, hik, hk, hH, hz, q⟩ := h
  cases rx
  obtain ⟨u1, u2, rfl, ⟨t, rfl⟩, ru⟩ := vals2 rv
  obtain ⟨z, its, n, r, hl, e⟩ := I.lstM hH
  have hs : sizeLine = 16777216 := sizeLine_eq
  have hfit : ¬ (!Builtin.List.listFitsIndex i) = true := by
    rw [fitsIndex_both (by omega) (by omega)]
    exact Bool.false_ne_true
  have hM := AutoSeq1.list_insert_list_int_val_1 l its.toArray n i t u2 hfit (by rw [List.size_toArray]; omega)
  refine call_meets F.slot_list_insert ⟨_, e, rfl⟩ F.entry_list_insert (F.args_list_insert_3 (Value.ref l) (Value.int i t) u2) hM ⟨e, ?_⟩
  refine ⟨.non, _, I.lset (its' := its.take k ++ u2 :: its.drop k) hH e ?_ ((r.take k).append (.cons ru (r.drop k))) ?_, rfl, q⟩
  · have ek : (if i < 0 then (i + (its.toArray.size : Int)).toNat else min i.toNat its.toArray.size) = k := by
      rw [if_neg (by omega), List.size_toArray]
      omega
    show (its.toArray.extract 0 (if i < 0 then (i + (its.toArray.size : Int)).toNat else min i.toNat its.toArray.size)).push u2 ++ its.toArray.extract (if i < 0 then (i + (its.toArray.size : Int)).toNat else min i.toNat its.toArray.size) = _
    rw [ek]
    apply Array.ext'
    simp [List.take_of_length_le]
  · rw [List.length_append, List.length_cons, List.length_take, List.length_drop]
    omega
end
end L2

set_option Elab.async false
set_option linter.all false
set_option maxRecDepth 100000
set_option maxHeartbeats 1000000
namespace L2
open PySem PySem.Spec PyProof.Rows

section
variable {M : Model} {A : Around} {E : Value → Shared → Prop} {s : Shared}
end

section
variable {X : Cx} {pins : List (Addr × Obj)} {σ : List (Option V)} {H H' : Hp} {s : Shared} {h' : Heap}
end

section
variable {X : Cx} {pins : List (Addr × Obj)} {σ : List (Option V)} {H : Hp} {s s' : Shared} {E : XK} {e : Value}
end
end L2

set_option Elab.async false
set_option linter.all false
set_option maxRecDepth 100000
set_option maxHeartbeats 1000000
namespace L2
open PySem PySem.Spec PyProof.Rows

section
variable {X : Cx} {pins : List (Addr × Obj)} {σ : List (Option V)} {H : Hp} {s : Shared}
end

section
variable {X : Cx} {k : Nat} {f C : Addr} {fd : FuncData} {ps : List Str} {sp : Sp} {dvs : List V} {ds : List Value} {x m : Str} {p pos apos : Pos} {e o : Expr} {es : List Expr} {ta : TE} {t : TA}
end

section
variable {X : Cx} {pins : List (Addr × Obj)} {σ : List (Option V)} {H : Hp} {s : Shared} {a : Addr}
end

abbrev TH := Addr → Value → Option Addr → Ends → St → Hp → Prop
section
variable {X : Cx} {pos np : Pos} {T : Str} {tc : Value} {b₀ : Stmt} {suite : List Stmt} {rest : List ExceptHandler} {ts : TS} {tr : TH}
end

end L2

set_option Elab.async false
set_option linter.all false
set_option maxHeartbeats 1000000
namespace L2
open PySem PySem.Spec PyProof.Rows
section
variable {X : Cx}
end
end L2

set_option Elab.async false
set_option linter.all false
set_option maxRecDepth 100000
set_option maxHeartbeats 1000000
namespace L2
open PySem PySem.Spec PyProof.Rows

section
variable {prog : Program} {w : World} {A : Around} {E : Value → Shared → Prop} {s : Shared} {K : PySem.W.Frag} {x D : Addr} {ox : Obj} {odo : Option Obj} {name : Str}
end
section
variable {X : Cx}
end
end L2

set_option maxHeartbeats 1000000
namespace Mq
end Mq

set_option Elab.async false
set_option linter.all false
set_option maxHeartbeats 1000000
namespace L2
open PySem PySem.Spec PyProof.Rows
def spUnder (K : PySem.W.Frag) : Sp := fun vs H Q _ => ∃ (a b : Addr) (p q : Mq.Q2) (n m : Nat), vs = [.ref a, .ref b] ∧ Fq K H a p ∧ Fq K H b q ∧ Mq.Bd n p ∧ Mq.Bd m q ∧ n + m + 1 ≤ 9000 ∧ Q (.bl (decide (p.1 * q.2 < q.1 * p.2))) H
end L2

set_option Elab.async false
set_option linter.all false
set_option maxRecDepth 100000
set_option maxHeartbeats 2000000
namespace L2
open PySem PySem.Spec PyProof.Rows
inductive TyQ (K : PySem.W.Frag) (H : Hp) : V → Value → Prop where
  | of {x : V} {t : Value} (h : TyOf K H x t) : TyQ K H x t
  | tup {a : Addr} {xs : List V} (h : SqT K H a xs) : TyQ K H (.ref a) (.type "tuple")
  | lst {a : Addr} {xs : List V} (h : SqL K H a xs) : TyQ K H (.ref a) (.type "list")
section
variable {X : Cx} {pins : List (Addr × Obj)} {σ : St} {H : Hp} {s : Shared} {A : Around} {E : Value → Shared → Prop} {Q : Value → Shared → Prop} {c : Value} {b : Bool}
theorem isinst_okQ {x : V} {u t : Value} (I : Inv X pins σ H s) (rx : RelV x u) (ty : TyQ X.K H x t) (e : PySem.W.kitOne X.K t c = some b) (h : ∀ tk, Q (.bool b) { s with toks := tk }) :
    wpAny (model X.prog X.w) A (call (.builtin "isinstance") [u, c]) Q E s := by
  cases ty with
  | of ty => exact isinst_ok I rx ty e h
  | @tup a xs ht =>
    cases (show u = Value.ref a from rx)
    obtain ⟨its, _, p, _⟩ := I.tuple ht
    obtain ⟨o, h1, h2, _⟩ := p
    exact PySem.W.kia_one PySem.W.kitx_tuple I.kIn ⟨o, h1, h2⟩ e (fun z => nomatch z) h
  | @lst a xs ht =>
    cases (show u = Value.ref a from rx)
    obtain ⟨its, _, p, _⟩ := I.list ht
    obtain ⟨o, h1, h2, _⟩ := p.isList
    exact PySem.W.kia_one PySem.W.kitx_list I.kIn ⟨_, h1, h2⟩ e (fun z => nomatch z) h
end
section
variable {X : Cx}
theorem call_isiQ : CallR X (.builtin "isinstance") (fun xs H Q => ∃ x n t b, xs = [x, .ty n] ∧ TyQ X.K H x t ∧ PySem.W.kitOne X.K t (.type n) = some b ∧ Q (.bl b) H) := by
  intro pins s σ H vs us Q I rv h
  obtain ⟨x, n, t, b, rfl, ty, e, q⟩ := h
  obtain ⟨u, u2, rfl, r1, r2⟩ := vals2 rv
  cases (show u2 = Value.type n from r2)
  exact isinst_okQ I r1 ty e fun tk => ⟨.bl b, H, I.tok tk, rfl, q⟩
theorem pe_isiQ {i : Nat} {x T : Str} {T' : String} {p1 p2 p3 pos : Pos} (hN : X.N[i]? = some x) (hv : Vis X.env.scope x) (b : X.mg "isinstance" = none) (b2 : X.mg T = none) (g1 : Gl X "isinstance") (g2 : Gl X T) (hT : bootBuiltins T = some (.type T'))
    (hd : (x == ("__debug__" : Str)) = false := by decide) (hcd : (x == ("__classdict__" : Str)) = false := by decide) (hTn : T ≠ "__name__" := by decide) (hTd : (T == ("__debug__" : Str)) = false := by decide)
    (he : starEach [.Name x p2, .Name T p3] X.env = (false, eval (.Name x p2) X.env) :: starEach [.Name T p3] X.env := by rfl)
    (he2 : starEach [.Name T p3] X.env = (false, eval (.Name T p3) X.env) :: starEach [] X.env := by rfl) (hpl : (backTo pos (starEach [.Name T p3] X.env)).any (·.1) = false := by rfl) :
    PE X (.Call (.Name "isinstance" p1) [.Name x p2, .Name T p3] [] pos) (fun σ H Q => ∃ v t b, σ[i]? = some (some v) ∧ TyQ X.K H v t ∧ PySem.W.kitOne X.K t (.type T') = some b ∧ Q (.bl b) H) := by
  have h := pe_callB (X := X) (pos := pos) (p := p1) call_isiQ g1 b PyProof.Rows.boot_isinstance (pa_cons (pe_var (i := i) (pos := p2) hN hv hd hcd) (pa_cons (pe_bltn (v := .ty T') (pos := p3) g2 b2 hT rfl hTn hTd) pa_nil he2) he) (by decide) (by decide) he hpl
  intro pins s σ H Q I q
  obtain ⟨v, t, bb, h1, h2, h3, h4⟩ := q
  exact h pins s σ H Q I ⟨v, h1, v, T', t, bb, rfl, h2, h3, h4⟩
end
theorem SqT.upd {K : PySem.W.Frag} {H : Hp} {a l : Addr} {xs ys : List V} {o : HO} (h : SqT K H a xs) (hl : H l = some (.lst ys)) : SqT K (L2.upd H l o) a xs := by
  rcases h with (h | ⟨u, h⟩) | h
  · exact .inl (.inl (by rw [upd_ne (ne_of h hl (fun z => by cases z))]; exact h))
  · exact .inl (.inr ⟨u, by rw [upd_ne (ne_of h hl (fun z => by cases z))]; exact h⟩)
  · exact .inr h
theorem ints_dat {K : PySem.W.Frag} {H : Hp} : ∀ ns : List Int, DatVs K H (ns.map V.int) (ns.map PyData.int)
  | [] => .nil
  | n :: r => .cons (.int n) (ints_dat r)
theorem ints_lay : ∀ ns : List Int, PyData.canLayAll0 (ns.map PyData.int) = true
  | [] => rfl
  | n :: r => by
    show ((PyData.int n).canLay0 && PyData.canLayAll0 (r.map PyData.int)) = true
    rw [ints_lay r]; rfl
theorem cut_ints (ns : List Int) (lo hi : Option Int) : ∃ ms : List Int, cutV (ns.map V.int) lo hi = ms.map V.int ∧ ms.length ≤ ns.length := by
  refine ⟨(ns.drop (HT.sIx (ns.map V.int).length 0 lo)).take (HT.sIx (ns.map V.int).length (ns.map V.int).length hi - HT.sIx (ns.map V.int).length 0 lo), ?_, ?_⟩
  · unfold cutV; rw [List.map_take, List.map_drop]
  · rw [List.length_take, List.length_drop]; omega
theorem rd_eqNil {K : PySem.W.Frag} {H : Hp} {a b : Addr} {ns : List Int} {neg : Bool} {Q : VK} (h1 : SqL K H a (ns.map V.int)) (h2 : SqL K H b []) (z : Q (.bl (if neg then !ns.isEmpty else ns.isEmpty)) H) : rDat K neg (.ref a) (.ref b) H Q := by
  refine ⟨_, _, .lst h1 (ints_dat ns), .lst h2 .nil, ints_lay ns, rfl, ?_, ?_⟩
  · have : (PyData.list []).depth ≤ 1 := by decide
    omega
  · cases ns <;> exact z
theorem keep2 {fr : List Nat} {σ : St} {x y : V} : (((σC 2 fr σ).set 0 (some x)).set 1 (some y)).length = (σC 2 fr σ).length ∧ ∀ (i : Nat) v, (σC 2 fr σ)[i]? = some (some v) → (((σC 2 fr σ).set 0 (some x)).set 1 (some y))[i]? = some (some v) := by
  refine ⟨by simp, fun i v h => ?_⟩
  match i with
  | 0 => unfold σC at h; simp at h
  | 1 => unfold σC at h; simp at h
  | k + 2 => rw [List.getElem?_set_ne (by omega), List.getElem?_set_ne (by omega)]; exact h
theorem B_of {n : Nat} {i : Int} (lo : -(2 ^ n : Int) < i) (hi : i < 2 ^ n) : Mq.B n i := by
  unfold Mq.B
  have e : ((2 ^ n : Nat) : Int) = 2 ^ n := by simp
  omega
theorem pa_ints (X : Cx) : ∀ l : List (Int × _ × Pos), PA X (l.map fun q => Expr.Constant (.int q.1) q.2.1 q.2.2) (fun _ H Q => Q (l.map fun q => V.int q.1) H)
  | [] => pa_nil
  | q :: l => pa_cons (te := tC (.int q.1)) pe_int (pa_ints X l) rfl
end L2

set_option Elab.async false
set_option linter.all false
set_option maxRecDepth 100000
set_option maxHeartbeats 2000000
namespace L2
open PySem PySem.Spec PyProof.Rows
section
variable {X : Cx} {tg : Expr}
def rAll (K : PySem.W.Frag) : List V → Hp → VK → Prop := fun xs H Q => ∃ (p : Addr) (bs : List Bool), xs = [.ref p] ∧ SqL K H p (bs.map V.bl) ∧ Q (.bl (bs.all id)) H
theorem call_all (hc : X.calm = true) : CallR X (.builtin "all") (rAll X.K) := by
  intro pins s σ H xs us Q I r h
  obtain ⟨p, bs, rfl, hq, q⟩ := h
  obtain ⟨u, rfl, rx⟩ := vals1 r
  cases rx
  obtain ⟨its, rv, pl, hz⟩ := I.list hq
  have hlen : its.toArray.size = bs.length := by rw [List.size_toArray, ← rv.length, List.length_map]
  have hne : p ≠ s.heap.objs.size := by
    obtain ⟨o, e, _⟩ := pl.isList
    exact Nat.ne_of_lt (Heap.lt_size e)
  refine call_all_walk (wpAny_pyIter_list pl.isList ?_)
  refine ⟨s.heap.objs.size, _, _, _, _, _, fun i => bs.getD i false, rfl, Walks.list (by exact I.ok.hd hc) s.heap.objs.size p hne its.toArray, ⟨⟨_, Heap.get?_push_size _ rfl, rfl, rfl⟩, ?_⟩, ?_, ?_⟩
  · obtain ⟨o, e, c⟩ := pl.isList
    exact ⟨o, Heap.get?_push_of_some _ e, c⟩
  · intro i v s' Q' E' hv q'
    have hv' : its[i]? = some v := by simpa using hv
    have hi : i < its.length := (List.getElem?_eq_some_iff.mp hv').1
    have hb : (bs.map V.bl)[i]? = some (.bl (bs.getD i false)) := by
      rw [List.getElem?_map, List.getElem?_eq_getElem (by rw [← hlen]; simpa using hi)]
      simp [List.getD, List.getElem?_eq_getElem (show i < bs.length by rw [← hlen]; simpa using hi)]
    obtain ⟨u, hu, ru⟩ := rv.get hb
    have e : u = v := by rw [hv'] at hu; cases hu; rfl
    subst e
    cases ru
    exact wpAny_truthy_bool q'
  · intro h' tk kk
    have e : (List.range its.toArray.size).all (fun i => bs.getD i false) = bs.all id := by
      rw [hlen, Bool.eq_iff_iff, List.all_eq_true, List.all_eq_true]
      constructor
      · intro z b hb
        obtain ⟨i, hi, rfl⟩ := List.getElem_of_mem hb
        have := z i (List.mem_range.mpr hi)
        simpa [List.getD, List.getElem?_eq_getElem hi] using this
      · intro z i hi
        have hi' := List.mem_range.mp hi
        have := z bs[i] (List.getElem_mem hi')
        simpa [List.getD, List.getElem?_eq_getElem hi'] using this
    rw [e]
    refine ⟨.bl _, H, I.kept (t' := tk) fun b o hb => ?_, rfl, q⟩
    have hb2 : b ≠ s.heap.objs.size := Nat.ne_of_lt (Heap.lt_size hb)
    exact kk b o (by simpa using hb2) (Heap.get?_push_of_some _ hb)
end
end L2

set_option Elab.async false
set_option linter.all false
set_option maxRecDepth 100000
set_option maxHeartbeats 2000000
namespace L2
open PySem PySem.Spec PyProof.Rows
section
variable {X : Cx}
end
def tMethD {ι : Type} (C : ι → Addr) (m : Str) (sp : ι → Sp) (dvs : List V) (E : XK) (ta : TE) (t : TA) : TE := fun σ H Q => ta σ H fun x H1 => ∃ i a dx fs, x = .ref a ∧ H1 a = some (.ins (C i) dx fs) ∧ fs.lookup m = none ∧
  t σ H1 fun vs H2 => sp i (x :: (vs ++ dvs)) H2 Q E
section
variable {X : Cx} {ι : Type} {C f : ι → Addr} {fd : ι → FuncData} {sp : ι → Sp} {m : Str} {CX : CXT} {k : Nat} {ps : List Str} {ds : List Value} {dvs : List V} {E : XK} {o e : Expr} {es : List Expr} {ta : TE} {t : TA} {apos pos : Pos}
theorem pe_methD0 {pl : Sem Bool} (he : PE X o ta) (c : ∀ i, Cls X.K (C i)) (hm : ∀ i, Meth X.K (C i) m (f i)) (F : ∀ i, FnOk X.prog X.w X.K X.mg X.base CX k (f i) (fd i) ps (sp i)) (hr : Room k X.A) (hb : ∀ i, Binds X.K (fd i) ps ds) (hd : Vals dvs ds) (hx : Passes CX X E)
    (ht : eval (.Call (.Attribute o m apos) [] [] pos) X.env = (do
      let ov ← eval o X.env
      standAt apos.atName
      let (f, first) ← holding [ov] (getMethod ov m pl)
      callWith pos f first (backTo pos (starEach [] X.env)) (backToKw pos (keywordEach [] X.env))) := by rfl) :
    PE X (.Call (.Attribute o m apos) [] [] pos) (tMethD C m sp dvs E ta tNil) := by
  intro pins s σ H Q I h
  refine PySem.W.methodCall_KW (pl := pl) (thn (he pins s σ H _ I h) fun u s1 ⟨x, H1, I1, rx, i, a, dx, fs, ex, ea, l, q⟩ => ?_) ht
  subst ex
  obtain rfl : u = Value.ref a := rx
  refine getmeth_ok I1 ea (c i) (hm i) l ?_
  exact PySem.W.callWith_K0 (first := [.ref a]) I1.kIn (hm i).kp (run_fn (us := [.ref a]) (vs := [.ref a]) (F i) hr (hb i) hd hx I1 (.cons rfl .nil) q)
end
inductive Kd where
  | pc | pu | ho
  deriving DecidableEq
def Kd.wd : Kd → Str
  | .pc => "piece"
  | .pu => "push"
  | .ho => "hold"
def Kd.cn : Kd → Str
  | .pc => "Piece"
  | .pu => "Push"
  | .ho => "Hold"
theorem Kd.wd_inj {k j : Kd} (h : k.wd = j.wd) : k = j := by
  cases k <;> cases j <;> first | rfl | exact absurd h (by decide +kernel)
theorem fsg : ¬ (("start" : Str) = "goal") := by decide +kernel
theorem fsz : ¬ (("start" : Str) = "size") := by decide +kernel
theorem fgz : ¬ (("goal" : Str) = "size") := by decide +kernel
def rflds (s g z : V) : List (Str × V) := putF "size" z (putF "goal" g (putF "start" s []))
theorem rflds_start (s g z : V) : (rflds s g z).lookup ("start" : Str) = some s := by
  unfold rflds
  rw [lookup_putF, if_neg fsz, lookup_putF, if_neg fsg, lookup_putF, if_pos rfl]
theorem rflds_goal (s g z : V) : (rflds s g z).lookup ("goal" : Str) = some g := by
  unfold rflds
  rw [lookup_putF, if_neg fgz, lookup_putF, if_pos rfl]
theorem rflds_size (s g z : V) : (rflds s g z).lookup ("size" : Str) = some z := by
  unfold rflds
  rw [lookup_putF, if_pos rfl]
theorem rflds_no (s g z : V) {m : Str} (h1 : ¬ m = "start") (h2 : ¬ m = "goal") (h3 : ¬ m = "size") : (rflds s g z).lookup m = none := by
  unfold rflds
  rw [lookup_putF, if_neg h3, lookup_putF, if_neg h2, lookup_putF, if_neg h1]
  rfl
def Rw (CK : Kd → Addr) (H : Hp) (x : Addr) (k : Kd) (s g z : V) : Prop := ∃ dx, H x = some (.ins (CK k) dx (rflds s g z))
theorem Rw.same {CK : Kd → Addr} {H H' : Hp} {x : Addr} {k : Kd} {s g z : V} (e : Same H H') (h : Rw CK H x k s g z) : Rw CK H' x k s g z := let ⟨dx, q⟩ := h; ⟨dx, e _ _ q⟩
structure RT (K : PySem.W.Frag) (mg : Str → Option Value) (CR : Addr) (CK : Kd → Addr) : Prop where
  cl : ∀ k, Cls K (CK k)
  nS : ∀ k, NoAttr K (CK k) "start"
  nG : ∀ k, NoAttr K (CK k) "goal"
  nZ : ∀ k, NoAttr K (CK k) "size"
  t1 : ∀ k, PySem.W.findIn K (.ref (CK k)) "__class__" = some (some (.builtin "object.__class__"))
  t2 : PySem.W.specialIn K (.builtin "object.__class__") "__get__" = some (some (.builtin "getset_descriptor.__get__"))
  t3 : PySem.W.takesIn K (.builtin "object.__class__") = some true
  t4 : ∀ k, PySem.W.mroIn K (CK k) (.type "object") = some true
  isR : ∀ k, PySem.W.kitOne K (.ref (CK k)) (.ref CR) = some true
  isK : ∀ k j, PySem.W.kitOne K (.ref (CK k)) (.ref (CK j)) = some (decide (k = j))
  mR : mg "Row" = some (.ref CR)
  mK : ∀ k, mg (Kd.cn k) = some (.ref (CK k))
section
variable {K : PySem.W.Frag} {mg : Str → Option Value} {CR : Addr} {CK : Kd → Addr} {H : Hp} {x : Addr} {k : Kd} {s g z : V}
theorem Rw.new {C x dx : Addr} {fs : List (Str × V)} (h1 : H x = none) (h2 : H dx = none) (ne : dx ≠ x) : Same H (L2.upd (L2.upd H dx (.own x)) x (.ins C dx fs)) := fun b o e => by
  rw [upd_ne (ne_of_none e h1), upd_ne (ne_of_none e h2)]; exact e
end
def spRInit (CK : Kd → Addr) : Sp := fun vs H Q _ => ∃ (x dx : Addr) (k : Kd) (s g z : V), vs = [.ref x, s, g, z] ∧ H x = some (.ins (CK k) dx []) ∧ Q .non (upd H x (.ins (CK k) dx (rflds s g z)))
def spWord (k : Kd) : Sp := fun vs H Q _ => ∃ x, vs = [x] ∧ Q (.str k.wd) H
def spRTold (CK : Kd → Addr) : Sp := fun vs H Q _ => ∃ (x : Addr) (k : Kd) (s g z : V), vs = [.ref x] ∧ Rw CK H x k s g z ∧ ∀ t, H t = none → Q (.ref t) (upd H t (.tup [.str k.wd, s, g, z]))
def NewR (CK : Kd → Addr) (H : Hp) (Q : VK) (k : Kd) (s g z : V) : Prop := ∀ x H', Same H H' → H x = none → Rw CK H' x k s g z → Q (.ref x) H'
end L2
namespace L2
open PySem PySem.Spec PyProof.Rows
theorem rd_eqS {K : PySem.W.Frag} {H : Hp} {x y : V} {d : PyData} {neg : Bool} {Q : VK} (h1 : DatV K H x d) (h2 : DatV K H y d) (hl : d.canLay0 = true) (hd : d.depth ≤ 16) (z : Q (.bl (!neg)) H) : rDat K neg x y H Q := by
  refine ⟨d, d, h1, h2, hl, hl, by omega, ?_⟩
  have e : PyData.eqv d d = true := PySem.SeqAt.eqv_refl _ hl
  rw [e]
  cases neg <;> exact z
theorem ifT {c : Bool} {A B : Prop} (h : c = true) (x : A) : if c = true then A else B := by rw [if_pos h]; exact x
theorem ifF {c : Bool} {A B : Prop} (h : c = false) (x : B) : if c = true then A else B := by rw [if_neg (by rw [h]; decide)]; exact x
theorem dec_wd (k j : Kd) : decide (V.str k.wd = V.str j.wd) = decide (k = j) := by
  by_cases h : k = j
  · subst h; simp
  · rw [decide_eq_false h]
    exact decide_eq_false fun z => h (Kd.wd_inj (V.str.inj z))
end L2
namespace L2
open PySem PySem.Spec PyProof.Rows
end L2
namespace L2
theorem all3 {p : Kd → Prop} (a : p .pc) (b : p .pu) (c : p .ho) : ∀ k, p k := fun k => by cases k <;> assumption
theorem kit_self (K : PySem.W.Frag) (t : PySem.Value) : PySem.W.kitOne K t t = some true := by unfold PySem.W.kitOne; rw [if_pos (beq_self_eq_true _)]
def kd3 {α : Type} (a b c : α) : Kd → α
  | .pc => a
  | .pu => b
  | .ho => c
end L2

set_option maxHeartbeats 1000000
namespace Mq
end Mq

set_option Elab.async false
set_option linter.all false
set_option maxRecDepth 100000
namespace L2
open PySem PySem.Spec PyProof.Rows

section
variable {κ : Type} [DecidableEq κ]
def valV (kvs : List (κ × V)) (k : κ) : Option V := (kvs.find? fun kv => decide (kv.1 = k)).map (·.2)
def putK (kvs : List (κ × V)) (k : κ) (v : V) : List (κ × V) :=
  if (kvs.any fun kv => decide (kv.1 = k)) = true then kvs.map (fun kv => if kv.1 = k then (kv.1, v) else kv) else kvs ++ [(k, v)]
theorem valV_pos {p : κ × V} {r : List (κ × V)} {k : κ} (e : p.1 = k) : valV (p :: r) k = some p.2 := by simp [valV, List.find?_cons, e]
theorem valV_neg {p : κ × V} {r : List (κ × V)} {k : κ} (e : ¬ p.1 = k) : valV (p :: r) k = valV r k := by simp [valV, List.find?_cons, e]
theorem valV_any (k : κ) : ∀ kvs : List (κ × V), (kvs.any fun kv => decide (kv.1 = k)) = (valV kvs k).isSome
  | [] => rfl
  | p :: r => by
    rw [List.any_cons]
    by_cases e : p.1 = k
    · simp only [valV_pos e, decide_eq_true e, Bool.true_or, Option.isSome_some]
    · rw [valV_neg e, decide_eq_false e, Bool.false_or]; exact valV_any k r
theorem length_putK (kvs : List (κ × V)) (k : κ) (v : V) : (putK kvs k v).length ≤ kvs.length + 1 := by
  unfold putK
  split
  · rw [List.length_map]; omega
  · rw [List.length_append, List.length_cons, List.length_nil]; omega
theorem RelO.isSome_eq {o : Option V} {u : Option Value} (r : RelO o u) : o.isSome = u.isSome := by
  cases o with
  | none => cases u with
    | none => rfl
    | some _ => exact (show False from r).elim
  | some _ => cases u with
    | none => exact (show False from r).elim
    | some _ => rfl
theorem RelO.getD {o : Option V} {u : Option Value} {d : V} {d' : Value} (r : RelO o u) (rd : RelV d d') : RelV (o.getD d) (u.getD d') := by
  cases o with
  | none => cases u with
    | none => exact rd
    | some _ => exact (show False from r).elim
  | some _ => cases u with
    | none => exact (show False from r).elim
    | some _ => exact r

theorem KV.val {kvs : List (κ × V)} {vs : List (κ × Value)} (r : KV kvs vs) (k : κ) : RelO (valV kvs k) (valueAt vs k) := by
  unfold KV at r
  induction r with
  | nil => exact True.intro
  | @cons p q ps qs h t ih =>
    obtain ⟨h1, h2⟩ := h
    by_cases e : p.1 = k
    · have e' : q.1 = k := h1.symm.trans e
      have b : valueAt (q :: qs) k = some q.2 := by simp [valueAt, List.find?_cons, e']
      rw [valV_pos e, b]; exact h2
    · have e' : ¬ q.1 = k := fun z => e (h1.trans z)
      have b : valueAt (q :: qs) k = valueAt qs k := by simp [valueAt, List.find?_cons, e']
      rw [valV_neg e, b]; exact ih
theorem KV.any {kvs : List (κ × V)} {vs : List (κ × Value)} (r : KV kvs vs) (k : κ) : (kvs.any fun kv => decide (kv.1 = k)) = vs.any fun kv => decide (kv.1 = k) := by
  unfold KV at r
  induction r with
  | nil => rfl
  | cons h t ih => rw [List.any_cons, List.any_cons, ih, h.1]
theorem KV.repl {kvs : List (κ × V)} {vs : List (κ × Value)} (r : KV kvs vs) (k : κ) {y : V} {u : Value} (ry : RelV y u) :
    KV (kvs.map fun kv => if kv.1 = k then (kv.1, y) else kv) (vs.map fun kv => if kv.1 = k then (kv.1, u) else kv) := by
  unfold KV at r ⊢
  induction r with
  | nil => exact .nil
  | @cons p q ps qs h t ih =>
    rw [List.map_cons, List.map_cons]
    refine .cons ?_ ih
    obtain ⟨h1, h2⟩ := h
    by_cases e : p.1 = k
    · rw [if_pos e, if_pos (h1.symm.trans e)]; exact ⟨h1, ry⟩
    · rw [if_neg e, if_neg (fun z => e (h1.trans z))]; exact ⟨h1, h2⟩
theorem KV.put {kvs : List (κ × V)} {vs : List (κ × Value)} (r : KV kvs vs) (k : κ) {y : V} {u : Value} (ry : RelV y u) : KV (putK kvs k y) (stored vs k u) := by
  unfold putK stored
  rw [r.any k]
  by_cases e : (vs.any fun kv => decide (kv.1 = k)) = true
  · rw [if_pos e, if_pos e]; exact r.repl k ry
  · rw [if_neg e, if_neg e]; exact Paired.snoc r ⟨rfl, ry⟩
theorem KV.length {kvs : List (κ × V)} {vs : List (κ × Value)} (r : KV kvs vs) : kvs.length = vs.length := Paired.length r
end


theorem kV_is {P : Program} {w : World} {k : Key} {u : Value} (r : RelV (kV k) u) : (mixKind P w).is k u = true := by
  cases k with
  | inl i => obtain ⟨t, e⟩ := (show ∃ t, u = Value.int i t from r); subst e; exact mixKind_int P w i t
  | inr x => obtain ⟨t, e⟩ := (show ∃ t, u = Value.str x t from r); subst e; exact mixKind_str P w x t
theorem items_are {P : Program} {w : World} : ∀ {ks : List Key} {us : List Value}, Vals (ks.map kV) us → ItemsAre (mixKind P w) ks us
  | [], _, r => by rw [List.map_nil] at r; cases r; exact .nil
  | k :: ks, _, r => by
    rw [List.map_cons] at r
    cases r with
    | cons h t => exact .cons (kV_is h) (items_are t)

abbrev KT (H : Hp) : List (List Key × V) → List (List Key × Addr × Value) → Prop := Paired fun p q => p.1 = q.1 ∧ H q.2.1 = some (.tup (p.1.map kV)) ∧ RelV p.2 q.2.2
theorem KT.val {H : Hp} {kvs : List (List Key × V)} {xs : List (List Key × Addr × Value)} (r : KT H kvs xs) (k : List Key) : RelO (valV kvs k) ((atKey xs k).map (·.2)) := by
  induction r with
  | nil => exact True.intro
  | @cons p q ps qs h t ih =>
    obtain ⟨h1, _, h2⟩ := h
    by_cases e : p.1 = k
    · have e' : q.1 = k := h1.symm.trans e
      have b : atKey (q :: qs) k = some q.2 := by simp [atKey, List.find?_cons, e']
      rw [valV_pos e, b]; exact h2
    · have e' : ¬ q.1 = k := fun z => e (h1.trans z)
      have b : atKey (q :: qs) k = atKey qs k := by simp [atKey, List.find?_cons, e']
      rw [valV_neg e, b]; exact ih
theorem KT.repl {H : Hp} {kvs : List (List Key × V)} {xs : List (List Key × Addr × Value)} (r : KT H kvs xs) (k : List Key) {y : V} {u : Value} (ry : RelV y u) :
    KT H (kvs.map fun kv => if kv.1 = k then (kv.1, y) else kv) (xs.map (putAt k u)) := by
  induction r with
  | nil => exact .nil
  | @cons p q ps qs h t ih =>
    rw [List.map_cons, List.map_cons]
    refine .cons ?_ ih
    obtain ⟨h1, h2, h3⟩ := h
    unfold putAt
    by_cases e : p.1 = k
    · rw [if_pos e, if_pos (h1.symm.trans e)]; exact ⟨h1, h2, ry⟩
    · rw [if_neg e, if_neg (fun z => e (h1.trans z))]; exact ⟨h1, h2, h3⟩
theorem KT.put {H : Hp} {kvs : List (List Key × V)} {xs : List (List Key × Addr × Value)} (r : KT H kvs xs) (k : List Key) {b : Addr} {y : V} {u : Value} (hb : H b = some (.tup (k.map kV))) (ry : RelV y u) :
    KT H (putK kvs k y) (storedH xs k b u) := by
  have e : (kvs.any fun kv => decide (kv.1 = k)) = (atKey xs k).isSome := by
    rw [valV_any, (r.val k).isSome_eq, Option.isSome_map]
  unfold putK storedH
  rw [e]
  by_cases q : (atKey xs k).isSome = true
  · rw [if_pos q, if_pos q]; exact r.repl k ry
  · rw [if_neg q, if_neg q]; exact Paired.snoc r ⟨rfl, hb, ry⟩
theorem KT.keeps {H H' : Hp} {kvs : List (List Key × V)} {xs : List (List Key × Addr × Value)} (r : KT H kvs xs) (ht : ∀ b ys, H b = some (.tup ys) → H' b = some (.tup ys)) : KT H' kvs xs :=
  Paired.mapP r fun _ _ z => ⟨z.1, ht _ _ z.2.1, z.2.2⟩

section
variable {P : Program} {w : World} {H : Hp} {h : Heap} {a : Addr}
theorem rd_of {u : HO} (ok : HOk P w H h) (e : Rd H a u) : ObjOk P w H h a u := e.ok ok
theorem dk_rd {kvs : List (Key × V)} (ok : HOk P w H h) (e : Rd H a (.dK kvs)) : kvs.length ≤ sizeLine ∧ (a == sysModules) = false ∧ ∃ vs, KV kvs vs ∧ h.DictOf (mixKind P w) a vs :=
  show ObjOk P w H h a (.dK kvs) from rd_of ok e
theorem dk_of {kvs : List (Key × V)} (ok : HOk P w H h) (e : H a = some (.dK kvs)) : kvs.length ≤ sizeLine ∧ (a == sysModules) = false ∧ ∃ vs, KV kvs vs ∧ h.DictOf (mixKind P w) a vs := dk_rd ok (.inl e)
theorem key_of {ks : List Key} (ok : HOk P w H h) (e : H a = some (.tup (ks.map kV))) : (tupleKind (mixKind P w)).is h ks a := by
  obtain ⟨_, its, r, o, h1, h2, n, h3⟩ := (show ObjOk P w H h a (.tup (ks.map kV)) from ok a _ e)
  exact ⟨o, its.toArray, n, h1, h2, h3, by simpa using items_are r⟩
theorem dt_rd {kvs : List (List Key × V)} (ok : HOk P w H h) (e : Rd H a (.dT kvs)) : kvs.length ≤ sizeLine ∧ (a == sysModules) = false ∧
    ∃ xs, KT H kvs xs ∧ h.DictOfH (tupleKind (mixKind P w)) a xs := by
  obtain ⟨z, y, xs, r, o, es, ep, h1, h2, h3, h4, h5⟩ := (show ObjOk P w H h a (.dT kvs) from rd_of ok e)
  refine ⟨z, y, xs, r, o, es, ep, h1, h2, h3, h4, fun x hx => ?_, h5⟩
  have all : ∀ {l : List (List Key × V)} {m : List (List Key × Addr × Value)}, KT H l m → ∀ x ∈ m, (tupleKind (mixKind P w)).is h x.1 x.2.1 := by
    intro l m q
    induction q with
    | nil => intro x hx; exact nomatch hx
    | @cons p q ps qs hq t ih =>
      intro x hx
      rcases List.mem_cons.mp hx with e | hx
      · subst e
        exact key_of ok (by rw [← hq.1]; exact hq.2.1)
      · exact ih x hx
  exact all r x hx
theorem dt_of {kvs : List (List Key × V)} (ok : HOk P w H h) (e : H a = some (.dT kvs)) : kvs.length ≤ sizeLine ∧ (a == sysModules) = false ∧
    ∃ xs, KT H kvs xs ∧ h.DictOfH (tupleKind (mixKind P w)) a xs := dt_rd ok (.inl e)
end

def DGet (H : Hp) (a : Addr) (y : V) (r : Option V) : Prop :=
  (∃ kvs k, Rd H a (.dK kvs) ∧ y = kV k ∧ r = valV kvs k) ∨ ∃ kvs k b, Rd H a (.dT kvs) ∧ y = .ref b ∧ H b = some (.tup (k.map kV)) ∧ r = valV kvs k
def DPut (H : Hp) (a : Addr) (y v : V) (H' : Hp) : Prop :=
  (∃ kvs k, H a = some (.dK kvs) ∧ y = kV k ∧ kvs.length < sizeLine ∧ H' = upd H a (.dK (putK kvs k v))) ∨
  ∃ kvs k b, H a = some (.dT kvs) ∧ y = .ref b ∧ H b = some (.tup (k.map kV)) ∧ kvs.length < sizeLine ∧ H' = upd H a (.dT (putK kvs k v))
theorem DGet.k {H : Hp} {a : Addr} {kvs : List (Key × V)} {k : Key} (e : H a = some (.dK kvs)) : DGet H a (kV k) (valV kvs k) := .inl ⟨kvs, k, .inl e, rfl, rfl⟩
theorem DPut.k {H : Hp} {a : Addr} {kvs : List (Key × V)} {k : Key} {v : V} (e : H a = some (.dK kvs)) (hl : kvs.length < sizeLine) : DPut H a (kV k) v (upd H a (.dK (putK kvs k v))) := .inl ⟨kvs, k, e, rfl, hl, rfl⟩
section
variable {X : Cx} {pins : List (Addr × Obj)} {σ : St} {H : Hp} {s : Shared} {a : Addr} {y v : V} {u r : Value} {o : Option V} {A : Around} {E : Value → Shared → Prop}

theorem Inv.big (I : Inv X pins σ H s) : sysModules < s.heap.objs.size := by
  have h : mainGlobals < s.heap.objs.size := (I.mod.glob.keeps I.bk).lt
  exact Nat.lt_trans (by decide) h

theorem d_getItem {Q : Value → Shared → Prop} (hu : A.units + 1 < cLine) (I : Inv X pins σ H s) (g : DGet H a y (some v)) (ry : RelV y u) (h : ∀ w' s', Inv X pins σ H s' → RelV v w' → Q w' s') :
    wpAny (model X.prog X.w) A (getItem (.ref a) u) Q E s := by
  rcases g with ⟨kvs, k, e, ey, l⟩ | ⟨kvs, k, b, e, ey, eb, l⟩
  · subst ey
    obtain ⟨z, hd, vs, rel, dd⟩ := dk_rd I.hok e
    obtain ⟨w', hw, rw'⟩ := RelO.some_of (v := v) (o := valueAt vs k) (by rw [l]; exact rel.val k)
    exact wpAny_getItem_of (kV_is ry) dd.mapOf hw (h w' _ (I.tok _) rw')
  · subst ey
    cases (show u = Value.ref b from ry)
    obtain ⟨z, hd, xs, rel, dd⟩ := dt_rd I.hok e
    obtain ⟨w', hw, rw'⟩ := RelO.some_of (v := v) (o := (atKey xs k).map (·.2)) (by rw [l]; exact rel.val k)
    obtain ⟨p, hp, hp2⟩ := Option.map_eq_some_iff.mp hw
    refine wpAny_getItem_heap (tupleKind_room_in1 hu) (key_of I.hok eb) dd hp ?_
    rw [hp2]
    exact h w' _ (I.tok _) rw'
theorem d_notIn {Q : Value → Shared → Prop} (hu : A.units + 1 < cLine) (I : Inv X pins σ H s) (g : DGet H a y o) (ry : RelV y u) (h : ∀ s', Inv X pins σ H s' → Q (.bool (!o.isSome)) s') :
    wpAny (model X.prog X.w) A (compareOp .NotIn u (.ref a)) Q E s := by
  rcases g with ⟨kvs, k, e, ey, l⟩ | ⟨kvs, k, b, e, ey, eb, l⟩
  · subst ey
    obtain ⟨z, hd, vs, rel, dd⟩ := dk_rd I.hok e
    refine wpAny_notIn_of (kV_is ry) hd dd.mapOf ?_
    rw [← (rel.val k).isSome_eq, ← l]
    exact h _ (I.tok _)
  · subst ey
    cases (show u = Value.ref b from ry)
    obtain ⟨z, hd, xs, rel, dd⟩ := dt_rd I.hok e
    refine wpAny_notIn_heap (tupleKind_room_in1 hu) (key_of I.hok eb) hd dd ?_
    have q := (rel.val k).isSome_eq
    rw [Option.isSome_map] at q
    rw [← q, ← l]
    exact h _ (I.tok _)
theorem d_write {h' : Heap} {t' : Nat} {ob : HO} (I : Inv X pins σ H s) (mu : Mut (H a)) (hs : Heap.SameBut a s.heap h') (he : ∃ q, h'.get? a = some q) (new : ObjOk X.prog X.w (upd H a ob) h' a ob) :
    Inv X pins σ (upd H a ob) { s with heap := h', toks := t' } :=
  I.write (x := a) (e := a) mu (.inl rfl) (fun b q hb z => (hs.2 b hb).trans z) he new
theorem dk_new {P : Program} {w : World} {H' : Hp} {h' : Heap} {kvs : List (Key × V)} {vs : List (Key × Value)} (z : kvs.length ≤ sizeLine) (hd : (a == sysModules) = false) (rel : KV kvs vs) (dd : h'.DictOf (mixKind P w) a vs) :
    ObjOk P w H' h' a (.dK kvs) := ⟨z, hd, vs, rel, dd⟩
theorem d_setItem {H' : Hp} {Q : Unit → Shared → Prop} (hu : A.units + 1 < cLine) (I : Inv X pins σ H s) (g : DPut H a y v H') (ry : RelV y u) (rv : RelV v r) (h : ∀ s', Inv X pins σ H' s' → Q () s') :
    wpAny (model X.prog X.w) A (setItem (.ref a) u r) Q E s := by
  rcases g with ⟨kvs, k, e, ey, l, eH⟩ | ⟨kvs, k, b, e, ey, eb, l, eH⟩
  · subst ey eH
    obtain ⟨z, hd, vs, rel, dd⟩ := dk_of I.hok e
    have hz : vs.length ≤ sizeLine := by rw [← rel.length]; exact z
    have hl : (putK kvs k v).length ≤ sizeLine := by have := length_putK kvs k v; omega
    refine wpAny_setItem_pairs (hsz := hz) (kV_is ry) dd fun h' dd' hs => h _ ?_
    have he : ∃ q, h'.get? a = some q := let ⟨q, _, _, hq, _⟩ := dd'; ⟨q, hq⟩
    exact d_write I (by rw [e]; exact True.intro) hs he (dk_new hl hd (rel.put k rv) dd')
  · subst ey eH
    cases (show u = Value.ref b from ry)
    obtain ⟨z, hd, xs, rel, dd⟩ := dt_of I.hok e
    have hz : xs.length ≤ sizeLine := by rw [← Paired.length rel]; exact z
    have hl : (putK kvs k v).length ≤ sizeLine := by have := length_putK kvs k v; omega
    refine wpAny_setItem_heap (hsz := hz) (tupleKind_room_in1 hu) (key_of I.hok eb) dd fun h' dd' hs => h _ ?_
    obtain ⟨q, es, ep, hq, h2, h3, h4, _, h5⟩ := dd'
    refine d_write I (by rw [e]; exact True.intro) hs ⟨q, hq⟩ ⟨hl, hd, _, (rel.put k eb rv).keeps fun c ys ec => ?_, q, es, ep, hq, h2, h3, h4, h5⟩
    rw [upd_ne (ne_of ec e (fun z => nomatch z))]
    exact ec
end

section
variable {X : Cx} {pins : List (Addr × Obj)} {σ : St} {H : Hp} {s : Shared} {a : Addr} {kvs : List (Key × V)} {k : Key} {u : Value} {A : Around} {E : Value → Shared → Prop}
end


def NoSl (i : Expr) : Prop := ∀ ov iv, subscripted i false ov iv = operate [ov, iv] (getItem ov iv)
theorem subD_of {prog : Program} {w : World} {A : Around} {E : Value → Shared → Prop} {s : Shared} {env : Env} {value slice : Expr} {pos : Pos} {T id : String} {Q : Value → Shared → Prop}
    (hl : typeLookup (.type T) "__getitem__" = pure (some (.builtin id))) (hs : NoSl slice)
    (h : wpAny (model prog w) A (eval value env) (fun o s₁ => wpAny (model prog w) A (eval slice env) (fun i s₂ => s₂.TypeIs o T ∧ wpAny (model prog w) A (getItem o i) Q E s₂) E s₁) E s) :
    wpAny (model prog w) A (eval (.Subscript value slice pos) env) Q E s := by
  refine Subscript_ (wpAny_mono h (fun o s₁ h₁ => wpAny_mono h₁ (fun i s₂ h₂ => ?_) fun _ _ x => x) fun _ _ x => x)
  obtain ⟨hT, h₂⟩ := h₂
  unfold subscriptTail
  refine wpAny_bind ?_
  rw [getitemInPython_of_ne hT.not_modules]
  refine wpAny_bind (wpAny_specialOf hT hl ?_)
  have fin : wpAny (model prog w) A (subscripted slice false o i) (fun r s₃ => wpAny (model prog w) A (letTemporaryGo value o r >>= fun _ => pure r) Q E s₃) E s₂ := by
    rw [hs o i]
    exact wpAny_operating (wpAny_mono h₂ (fun r s₃ h₃ => wpAny_bind (wpAny_letTemporaryGo (wpAny_pure h₃))) fun _ _ x => x)
  first
    | exact wpAny_pure (wpAny_bind fin)
    | exact wpAny_bind (wpAny_pure (wpAny_bind fin))
    | exact wpAny_bind fin

theorem dict_typeIs {X : Cx} {pins : List (Addr × Obj)} {σ : St} {H : Hp} {s : Shared} {a : Addr} {y : V} {o : Option V} (I : Inv X pins σ H s) (g : DGet H a y o) : s.TypeIs (.ref a) "dict" := by
  rcases g with ⟨kvs, k, e, _, _⟩ | ⟨kvs, k, b, e, _, _, _⟩
  · obtain ⟨_, _, vs, _, dd⟩ := dk_rd I.hok e
    exact dd.typeIs
  · obtain ⟨_, _, xs, _, dd⟩ := dt_rd I.hok e
    exact dd.typeIs
def tDGet (td ty : TE) : TE := fun σ H Q => td σ H fun x H1 => ty σ H1 fun y H2 => ∃ a v, x = .ref a ∧ DGet H2 a y (some v) ∧ Q v H2
def tDNotIn (ty td : TE) : TE := fun σ H Q => ty σ H fun y H1 => td σ H1 fun x H2 => ∃ a o, x = .ref a ∧ DGet H2 a y o ∧ Q (.bl (!o.isSome)) H2
def sDPut (td ty tv : TE) : TS := fun D σ H => tv σ H fun v H1 => td σ H1 fun x H2 => ty σ H2 fun y H3 => ∃ a H4, x = .ref a ∧ DPut H3 a y v H4 ∧ D.nx σ H4
section
variable {X : Cx} {o i e value : Expr} {pos pos' tpos : Pos} {td ty tv : TE}
theorem pe_dget (hu : X.A.units + 1 < cLine) (ho : PE X o td) (hi : PE X i ty) (hs : NoSl i) : PE X (.Subscript o i pos) (tDGet td ty) := by
  intro pins s σ H Q I h
  refine subD_of PySem.F.slot_dict_getitem.lookup hs (thn (ho pins s σ H _ I h) fun u s1 ⟨x, H1, I1, rx, q1⟩ => thn (hi pins s1 σ H1 _ I1 q1) fun iv s2 ⟨y, H2, I2, ry, a, v, ex, g, q2⟩ => ?_)
  subst ex
  obtain rfl : u = Value.ref a := rx
  exact ⟨dict_typeIs I2 g, d_getItem hu I2 g ry fun w' s3 I3 rw' => ⟨v, H2, I3, rw', q2⟩⟩
theorem pc_dnotin (hu : X.A.units + 1 < cLine) (hi : PE X i ty) (ho : PE X o td) : PC X .NotIn i o (tDNotIn ty td) := by
  intro pins s σ H Q I h
  refine thn (hi pins s σ H _ I h) fun iv s1 ⟨y, H1, I1, ry, q1⟩ => thn (ho pins s1 σ H1 _ I1 q1) fun u s2 ⟨x, H2, I2, rx, a, ov, ex, g, q2⟩ => ?_
  subst ex
  obtain rfl : u = Value.ref a := rx
  exact d_notIn hu I2 g ry fun s3 I3 => ⟨.bl (!ov.isSome), H2, I3, rfl, q2⟩
theorem ps_dput (hu : X.A.units + 1 < cLine) (ho : PE X o td) (hi : PE X i ty) (hv : PE X value tv) (hs : swapsWith value (some (.Subscript o i pos')) pos.line X.env = pure false) :
    PS X (.Assign [.Subscript o i pos'] value pos) (sDPut td ty tv) := by
  intro pins s σ H D I h
  refine wpAny_Assign_Subscript (thn (hv pins s σ H _ I h) fun r s1 ⟨v, H1, I1, rv, q1⟩ => thn (ho pins s1 σ H1 _ I1 q1) fun u s2 ⟨x, H2, I2, rx, q2⟩ => thn (hi pins s2 σ H2 _ I2 q2) fun iv s3 ⟨y, H3, I3, ry, a, H4, ex, g, q3⟩ => ?_) hs
  subst ex
  obtain rfl : u = Value.ref a := rx
  exact d_setItem hu I3 g ry rv fun s4 I4 => ⟨σ, H4, I4, q3⟩
end


theorem dk_empty {P : Program} {w : World} {H : Hp} (h : Heap) (hb : sysModules < h.objs.size) : ObjOk P w H (h.push { cls := .type "dict", data := .dict #[] }) h.objs.size (.dK []) :=
  ⟨Nat.zero_le _, beq_eq_false_iff_ne.mpr (Ne.symm (Nat.ne_of_lt hb)), [], .nil, Heap.DictOf.new h⟩
section
variable {X : Cx} {pos : Pos}
end

def tPairs : List (TE × TE) → St → Hp → (List (V × V) → Hp → Prop) → Prop
  | [], _, H, Q => Q [] H
  | (tk, tv) :: r, σ, H, Q => tk σ H fun x H1 => tv σ H1 fun y H2 => tPairs r σ H2 fun ps H3 => Q ((x, y) :: ps) H3
abbrev VV : List (V × V) → List (Value × Value) → Prop := Paired fun p q => RelV p.1 q.1 ∧ RelV p.2 q.2
def PPs (X : Cx) (pos : Pos) (keys : List (Option Expr)) (values : List Expr) (trs : List (TE × TE)) : Prop :=
  ∀ (pins : List (Addr × Obj)) (s : Shared) (σ : St) (H : Hp) (Q : List (V × V) → Hp → Prop), Inv X pins σ H s → tPairs trs σ H Q →
    wpAny (model X.prog X.w) X.A (evalPairs (pairTrees keys values X.env pos)) (fun vs s' => ∃ ps H', Inv X pins σ H' s' ∧ VV ps vs ∧ Q ps H') X.xe s
theorem pps_nil {X : Cx} {pos : Pos} : PPs X pos [] [] [] := fun pins s σ H Q I h => pairTrees_nil_walk ⟨[], H, I, .nil, h⟩
theorem pps_cons {X : Cx} {pos : Pos} {k v : Expr} {ks : List (Option Expr)} {vs : List Expr} {tk tv : TE} {trs : List (TE × TE)} (hk : PE X k tk) (hv : PE X v tv) (hr : PPs X pos ks vs trs) :
    PPs X pos (some k :: ks) (v :: vs) ((tk, tv) :: trs) := fun pins s σ H Q I h =>
  pairTrees_cons_walk (thn (hk pins s σ H _ I h) fun u s1 ⟨x, H1, I1, rx, q1⟩ => thn (hv pins s1 σ H1 _ I1 q1) fun w2 s2 ⟨y, H2, I2, ry, q2⟩ =>
    thn (hr pins s2 σ H2 _ I2 q2) fun ws s3 ⟨ps, H3, I3, rel, q3⟩ => ⟨(x, y) :: ps, H3, I3, .cons ⟨rx, ry⟩ rel, q3⟩)

def mergeK (kvs more : List (Key × V)) : List (Key × V) := more.foldl (fun acc kv => putK acc kv.1 kv.2) kvs
theorem KV.merge : ∀ {more : List (Key × V)} {rs : List (Key × Value)} {kvs : List (Key × V)} {vs : List (Key × Value)}, KV more rs → KV kvs vs → KV (mergeK kvs more) (merged vs rs) := by
  intro more rs kvs vs r
  unfold KV at r
  induction r generalizing kvs vs with
  | nil => intro q; exact q
  | @cons p q ps qs h t ih =>
    intro r0
    have e : KV (putK kvs p.1 p.2) (stored vs q.1 q.2) := by
      have := r0.put p.1 h.2
      rw [← h.1]; exact this
    exact ih e
theorem length_mergeK : ∀ (more kvs : List (Key × V)), (mergeK kvs more).length ≤ kvs.length + more.length
  | [], kvs => by show kvs.length ≤ kvs.length + 0; omega
  | p :: r, kvs => by
    have h1 := length_mergeK r (putK kvs p.1 p.2)
    have h2 := length_putK kvs p.1 p.2
    show (mergeK (putK kvs p.1 p.2) r).length ≤ _
    rw [List.length_cons]; omega
theorem carries_of {P : Program} {w : World} : ∀ {kvs : List (Key × V)} {ws : List (Value × Value)}, VV (kvs.map fun kv => (kV kv.1, kv.2)) ws → ∃ rs, Carries (mixKind P w) ws rs ∧ KV kvs rs
  | [], _, r => by rw [List.map_nil] at r; cases r; exact ⟨[], True.intro, .nil⟩
  | p :: kvs, _, r => by
    rw [List.map_cons] at r
    cases r with
    | @cons a b as bs h t =>
      obtain ⟨rs, c, q⟩ := carries_of (P := P) (w := w) t
      obtain ⟨b1, b2⟩ := b
      exact ⟨(p.1, b2) :: rs, ⟨kV_is h.1, rfl, c⟩, .cons ⟨rfl, h.2⟩ q⟩
def tDisp (trs : List (TE × TE)) : TE := fun σ H Q => ∀ p, H p = none → tPairs trs σ (upd H p (.dK [])) fun ps H2 => H2 p = some (.dK []) ∧ ∃ kvs : List (Key × V), ps = kvs.map (fun kv => (kV kv.1, kv.2)) ∧ kvs.length ≤ 15 ∧ Q (.ref p) (upd H2 p (.dK (mergeK [] kvs)))
theorem pe_disp {X : Cx} {pos : Pos} {keys : List (Option Expr)} {values : List Expr} {trs : List (TE × TE)} (h : PPs X pos keys values trs) (hall : keys.all (·.isSome) = true) (hl : keys.length = values.length) (h0 : keys ≠ [])
    (h15 : keys.length ≤ 15) : PE X (.Dict keys values pos) (tDisp trs) := by
  intro pins s σ H Q I q
  have hn := I.hok.fresh (Nat.le_refl s.heap.objs.size)
  have I1 := I.laid (a := s.heap.objs.size) (o := .dK []) (h' := s.heap.push { cls := .type "dict", data := .dict #[] }) (t' := s.toks) (fun _ _ q => Heap.get?_push_of_some _ q) (Nat.le_refl _) (dk_empty s.heap I.big)
  refine wpAny_Dict_walk (knd := mixKind X.prog X.w) hall hl h0 h15 (thn (h pins _ σ _ _ I1 (q _ hn)) fun ws s2 ⟨ps, H2, I2, rel, e, kvs, ep, lk, q2⟩ => ?_)
  subst ep
  obtain ⟨rs, c, rk⟩ := carries_of (P := X.prog) (w := X.w) rel
  obtain ⟨z, hd, vs0, r0, dd⟩ := dk_of I2.hok e
  cases r0
  refine ⟨rs, c, dd, fun h' dd' hs => ⟨.ref s.heap.objs.size, _, ?_, rfl, q2⟩⟩
  have hz : (mergeK [] kvs).length ≤ sizeLine := by
    have h1 := length_mergeK kvs []
    rw [List.length_nil] at h1
    rw [sizeLine_eq]; omega
  have he : ∃ q, h'.get? s.heap.objs.size = some q := let ⟨q, _, _, hq, _⟩ := dd'; ⟨q, hq⟩
  exact d_write I2 (by rw [e]; exact True.intro) hs he (dk_new hz hd (rk.merge .nil) dd')


structure M1 (X : Cx) (o : Expr) (m : Str) (apos : Pos) (e : Expr) (cpos : Pos) : Prop where
  base : attributeBase o m X.env (eval o X.env) = eval o X.env
  few : ((backTo cpos (starEach [e] X.env)).all (fun x => !x.1) && (backToKw cpos (keywordEach [] X.env)).all (fun x => x.1.isSome)
    && decide (([e] : List Expr).length + ([] : List Keyword).length + (if ([] : List Keyword).isEmpty then 0 else 1) < 30)) = true
  line : (apos.endLine == cpos.line) = true
  trees : backTo cpos (starEach [e] X.env) = [(false, eval e X.env)]
def IsD (H : Hp) (a : Addr) : Prop := (∃ kvs, Rd H a (.dK kvs)) ∨ ∃ kvs, Rd H a (.dT kvs)
theorem isD_at {X : Cx} {pins : List (Addr × Obj)} {σ : St} {H : Hp} {s : Shared} {a : Addr} (I : Inv X pins σ H s) (d : IsD H a) :
    s.TypeIs (.ref a) "dict" ∧ (∀ b, Value.ref a = .ref b → ∃ ob, s.heap.get? b = some ob ∧ ob.dict = none) ∧ (a == sysModules) = false := by
  rcases d with ⟨kvs, e⟩ | ⟨kvs, e⟩
  · obtain ⟨_, hd, vs, _, dd⟩ := dk_rd I.hok e
    refine ⟨dd.typeIs, fun b q => ?_, hd⟩
    cases q
    obtain ⟨ob, _, _, h1, h2, _⟩ := dd
    exact ⟨ob, h1, h2.2.1⟩
  · obtain ⟨_, hd, xs, _, dd⟩ := dt_rd I.hok e
    refine ⟨dd.typeIs, fun b q => ?_, hd⟩
    cases q
    obtain ⟨ob, _, _, h1, h2, _⟩ := dd
    exact ⟨ob, h1, h2.2.1⟩

section
variable {X : Cx} {pins : List (Addr × Obj)} {σ : St} {H : Hp} {s : Shared} {a : Addr} {y d : V} {u r : Value} {o : Option V} {A : Around} {E : Value → Shared → Prop}
theorem d_get1 {Q : Value → Shared → Prop} (hu : A.units + 1 < cLine) (I : Inv X pins σ H s) (g : DGet H a y o) (ry : RelV y u) (h : ∀ w' s', Inv X pins σ H s' → RelV (o.getD .non) w' → Q w' s') :
    wpAny (model X.prog X.w) A (call (.builtin "dict.get") [.ref a, u]) Q E s := by
  rcases g with ⟨kvs, k, e, ey, l⟩ | ⟨kvs, k, b, e, ey, eb, l⟩
  · subst ey
    obtain ⟨z, hd, vs, rel, dd⟩ := dk_rd I.hok e
    refine call_meetsIn PySem.F.slot_dict_get dd.typeIs PySem.F.entry_dict_get (PySem.F.args_dict_get_2 _ _) (meets_dict_get (mixKind X.prog X.w) a (kV_is ry) hd) ⟨_, dd.mapOf, h _ _ (I.tok _) ?_⟩
    rw [l]
    exact (rel.val k).getD rfl
  · subst ey
    cases (show u = Value.ref b from ry)
    obtain ⟨z, hd, xs, rel, dd⟩ := dt_rd I.hok e
    refine call_meetsIn PySem.F.slot_dict_get dd.typeIs PySem.F.entry_dict_get (PySem.F.args_dict_get_2 _ _) (meetsH_dict_get (tupleKind (mixKind X.prog X.w)) a b hd) ⟨tupleKind_room_in1 hu, k, xs, key_of I.hok eb, dd, h _ _ (I.tok _) ?_⟩
    rw [l]
    exact (rel.val k).getD rfl
end

def tDGet1 (td ty : TE) : TE := fun σ H Q => td σ H fun x H1 => ∃ a, x = .ref a ∧ IsD H1 a ∧ ty σ H1 fun y H2 => ∃ o, DGet H2 a y o ∧ Q (o.getD .non) H2
section
variable {X : Cx} {o e f : Expr} {apos cpos : Pos} {td ty tx : TE}
theorem pe_dget1 (hu : X.A.units + 1 < cLine) (ho : PE X o td) (he : PE X e ty) (m : M1 X o "get" apos e cpos) : PE X (.Call (.Attribute o "get" apos) [e] [] cpos) (tDGet1 td ty) := by
  intro pins s σ H Q I h
  refine wpAny_Call_method m.base m.few m.line PySem.F.plainAttrs_dict PySem.F.slot_dict_get PySem.F.type_dict_get (thn (ho pins s σ H _ I h) fun u s1 ⟨x, H1, I1, rx, a, ex, d, q1⟩ => ?_)
  subst ex
  obtain rfl : u = Value.ref a := rx
  obtain ⟨t1, t2, _⟩ := isD_at I1 d
  refine ⟨t1, t2, ?_⟩
  rw [m.trees]
  refine Calls.callWith_builtin rfl (Calls.evalArgs_plain (Calls.spliced_cons (thn (he pins s1 σ H1 _ I1 q1) fun iv s2 ⟨y, H2, I2, ry, ov, g, q2⟩ => Calls.spliced_nil ?_)))
  exact d_get1 hu I2 g ry fun w' s3 I3 rw' => ⟨_, H2, I3, rw', q2⟩
end

section
variable {X : Cx} {pins : List (Addr × Obj)} {σ : St} {H : Hp} {s : Shared} {a : Addr} {kvs : List (Key × V)} {A : Around} {E : Value → Shared → Prop}
end


section
variable {X : Cx} {pins : List (Addr × Obj)} {σ : St} {H : Hp} {s : Shared} {a : Addr} {y : V} {u : Value} {A : Around} {E : Value → Shared → Prop}
end
end L2

namespace L2
open PySem PySem.Spec PyProof.Rows
section
variable {X : Cx}
end
section
variable {κ : Type} [DecidableEq κ]
end
end L2

set_option Elab.async false
set_option linter.all false
set_option maxRecDepth 100000
set_option maxHeartbeats 2000000
namespace Mq
end Mq
namespace L2
open PySem PySem.Spec PyProof.Rows
theorem ints_depth : ∀ ns : List Int, PyData.depthAll (ns.map PyData.int) ≤ 1
  | [] => by simp [PyData.depthAll]
  | n :: r => by
    have b := ints_depth r
    simp only [List.map_cons, PyData.depthAll, PyData.depth]
    omega
theorem rd_eqI {K : PySem.W.Frag} {H : Hp} {a b : Addr} {ns : List Int} {neg : Bool} {Q : VK} (h1 : SqL K H a (ns.map V.int)) (h2 : SqL K H b (ns.map V.int)) (z : Q (.bl (!neg)) H) : rDat K neg (.ref a) (.ref b) H Q :=
  rd_eqS (d := .list (ns.map PyData.int)) (.lst h1 (ints_dat ns)) (.lst h2 (ints_dat ns)) (ints_lay ns) (by have := ints_depth ns; simp only [PyData.depth]; omega) z
theorem Fq.mod {K : PySem.W.Frag} {a : Addr} {d : Option Addr} {n : Nat} {sl : Array (Option Value)} {i j : Int} {t u : Tok} (l : K.lookup a = some ⟨.type "tuple", d, .seq #[.int i t, .int j u] n, sl⟩) (H : Hp) : Fq K H a (i, j) :=
  .inr ⟨_, _, _, l, rfl, rfl, (by show 2 ≤ sizeLine; decide), .cons ⟨_, rfl⟩ (.cons ⟨_, rfl⟩ .nil)⟩
end L2

set_option Elab.async false
set_option linter.all false
set_option maxRecDepth 100000
set_option maxHeartbeats 2000000
namespace L2
open PySem PySem.Spec PyProof.Rows
abbrev RD := Kd × Int × Int × Mq.Q2
inductive Rts (K : PySem.W.Frag) (H : Hp) : List V → List RD → Prop where
  | nil : Rts K H [] []
  | cons {t z : Addr} {k : Kd} {i j : Int} {p : Mq.Q2} {xs : List V} {ds : List RD} (h : SqT K H t [.str k.wd, .int i, .int j, .ref z]) (f : Fq K H z p) (q : Rts K H xs ds) : Rts K H (.ref t :: xs) ((k, i, j, p) :: ds)
section
variable {K : PySem.W.Frag} {H H' : Hp}
theorem Rts.same (e : Same H H') : ∀ {xs : List V} {ds : List RD}, Rts K H xs ds → Rts K H' xs ds
  | _, _, .nil => .nil
  | _, _, .cons h f q => .cons (e.seqT h) (e.fq f) (Rts.same e q)
theorem Rts.length : ∀ {xs : List V} {ds : List RD}, Rts K H xs ds → xs.length = ds.length
  | _, _, .nil => rfl
  | _, _, .cons _ _ q => by simp [Rts.length q]
theorem Rts.app : ∀ {xs ys : List V} {ds es : List RD}, Rts K H xs ds → Rts K H ys es → Rts K H (xs ++ ys) (ds ++ es)
  | _, _, _, _, .nil, r => r
  | _, _, _, _, .cons h f q, r => .cons h f (Rts.app q r)
theorem Rts.at : ∀ {xs : List V} {ds : List RD} {q : Nat} {d : RD}, Rts K H xs ds → ds[q]? = some d → ∃ t z, xs[q]? = some (.ref t) ∧ SqT K H t [.str d.1.wd, .int d.2.1, .int d.2.2.1, .ref z] ∧ Fq K H z d.2.2.2
  | _, _, _, _, .nil, h => by simp at h
  | _, _, 0, _, .cons h f _, e => by simp at e; subst e; exact ⟨_, _, rfl, h, f⟩
  | _, _, i + 1, _, .cons _ _ q, e => by simpa using Rts.at q (by simpa using e)
theorem Rts.upd {l : Addr} {ys : List V} {o : HO} (hl : H l = some (.lst ys)) : ∀ {xs : List V} {ds : List RD}, Rts K H xs ds → Rts K (L2.upd H l o) xs ds
  | _, _, .nil => .nil
  | _, _, .cons h f q => .cons (h.upd hl) (f.upd hl) (Rts.upd hl q)
end
def SameX (l : Addr) (H H' : Hp) : Prop := ∀ b o, H b = some o → b ≠ l → H' b = some o
theorem Same.x {l : Addr} {H H' : Hp} (s : Same H H') : SameX l H H' := fun b o h _ => s b o h
theorem SameX.write {l : Addr} {H H1 : Hp} {o : HO} (a : SameX l H H1) : SameX l H (upd H1 l o) := fun c u h n => by rw [upd_ne n]; exact a c u h n
section
variable {K : PySem.W.Frag} {H H' : Hp} {l : Addr}
end
theorem fpk : ¬ (("point_count" : Str) = "kept") := by decide +kernel
def nflds (m : Int) (l : Addr) : List (Str × V) := putF "kept" (.ref l) (putF "point_count" (.int m) [])
theorem nflds_pc (m : Int) (l : Addr) : (nflds m l).lookup ("point_count" : Str) = some (.int m) := by
  unfold nflds
  rw [lookup_putF, if_neg fpk, lookup_putF, if_pos rfl]
theorem nflds_kept (m : Int) (l : Addr) : (nflds m l).lookup ("kept" : Str) = some (.ref l) := by
  unfold nflds
  rw [lookup_putF, if_pos rfl]
theorem nflds_no (m : Int) (l : Addr) {x : Str} (h1 : ¬ x = "point_count") (h2 : ¬ x = "kept") : (nflds m l).lookup x = none := by
  unfold nflds
  rw [lookup_putF, if_neg h2, lookup_putF, if_neg h1]
  rfl
def RdOk (m : Int) (d : RD) : Prop := 0 ≤ d.2.1 ∧ d.2.1 < m ∧ 0 ≤ d.2.2.1 ∧ d.2.2.1 < m ∧ Mq.Low d.2.2.2 ∧ (d.1 = .pc → 0 < d.2.2.2.1) ∧ Mq.Bd 1000 d.2.2.2
structure NetAt (CN : Addr) (K : PySem.W.Frag) (H : Hp) (n l : Addr) (m : Int) (ds : List RD) : Prop where
  ob : ∃ dx, H n = some (.ins CN dx (nflds m l))
  ls : ∃ ts, H l = some (.lst ts) ∧ Rts K H ts ds
theorem NetAt.same {CN : Addr} {K : PySem.W.Frag} {H H' : Hp} {n l : Addr} {m : Int} {ds : List RD} (e : Same H H') (h : NetAt CN K H n l m ds) : NetAt CN K H' n l m ds :=
  let ⟨⟨dx, a⟩, ts, b, c⟩ := h; ⟨⟨dx, e _ _ a⟩, ts, e _ _ b, c.same e⟩
structure NT (K : PySem.W.Frag) (mg : Str → Option Value) (CN : Addr) : Prop where
  cl : Cls K CN
  nP : NoAttr K CN "point_count"
  nK : NoAttr K CN "kept"
  t1 : PySem.W.findIn K (.ref CN) "__class__" = some (some (.builtin "object.__class__"))
  t2 : PySem.W.specialIn K (.builtin "object.__class__") "__get__" = some (some (.builtin "getset_descriptor.__get__"))
  t3 : PySem.W.takesIn K (.builtin "object.__class__") = some true
  t4 : PySem.W.mroIn K CN (.type "object") = some true
  mN : mg "Net" = some (.ref CN)
def spRowOfG (K : PySem.W.Frag) (CK : Kd → Addr) : Sp := fun vs H Q _ => ∃ (t : Addr) (v s g z : V), vs = [.ref t] ∧ SqT K H t [v, s, g, z] ∧ ∃ k : Kd, v = .str k.wd ∧ NewR CK H Q k s g z
def spIsF (K : PySem.W.Frag) : Sp := fun vs H Q _ => ∃ (a : Addr) (p : Mq.Q2), vs = [.ref a] ∧ Fq K H a p ∧ Mq.Low p ∧ Q (.bl true) H
def spPS (K : PySem.W.Frag) : Sp := fun vs H Q _ => ∃ (a : Addr) (p : Mq.Q2) (n : Nat), vs = [.ref a] ∧ Fq K H a p ∧ Mq.Low p ∧ 0 < p.1 ∧ Mq.Bd n p ∧ n ≤ 8000 ∧ Q (.bl true) H
def spNB : Sp := fun vs H Q _ => ∃ i b : Int, vs = [.int i, .int b] ∧ 0 ≤ i ∧ i < b ∧ Q (.bl true) H
def spRS (K : PySem.W.Frag) : Sp := fun vs H Q _ => ∃ (k : Kd) (z : Addr) (p : Mq.Q2), vs = [.str k.wd, .ref z] ∧ Fq K H z p ∧ Mq.Low p ∧ (k = .pc → 0 < p.1) ∧ Mq.Bd 1000 p ∧ Q .non H
def spNInit (CN : Addr) : Sp := fun vs H Q _ => ∃ (n dx : Addr) (m : Int), vs = [.ref n, .int m] ∧ H n = some (.ins CN dx []) ∧ 1 ≤ m ∧ m ≤ 20 ∧ ∀ l H', H l = none → (∀ b o, H b = some o → b ≠ n → H' b = some o) → H' n = some (.ins CN dx (nflds m l)) → H' l = some (.lst []) → Q .non H'
def spCount (CN : Addr) (K : PySem.W.Frag) : Sp := fun vs H Q _ => ∃ (n l : Addr) (m : Int) (ds : List RD), vs = [.ref n] ∧ NetAt CN K H n l m ds ∧ Q (.int ds.length) H
def spAdd (CN : Addr) (K : PySem.W.Frag) (CK : Kd → Addr) : Sp := fun vs H Q _ => ∃ (n l x z : Addr) (m : Int) (ds : List RD) (k : Kd) (i j : Int) (p : Mq.Q2), vs = [.ref n, .ref x] ∧ NetAt CN K H n l m ds ∧ Rw CK H x k (.int i) (.int j) (.ref z) ∧ Fq K H z p ∧ RdOk m (k, i, j, p) ∧ ds.length < 40 ∧
  ∀ H', SameX l H H' → NetAt CN K H' n l m (ds ++ [(k, i, j, p)]) → Q (.int ds.length) H'
end L2

set_option Elab.async false
set_option linter.all false
set_option maxRecDepth 100000
set_option maxHeartbeats 2000000
namespace L2
open PySem PySem.Spec PyProof.Rows
section
variable {K : PySem.W.Frag} {H H' : Hp} {l r : Addr} {as bs : List V}
end
section
variable {CN : Addr} {K : PySem.W.Frag} {H H' : Hp} {N R : Addr} {rs : List NR}
end
theorem cut1 {a1 u : TS} {D : Ends} {σ : St} {H : Hp} (P : St → Hp → Prop) (h1 : ∀ X : St → Hp → Prop, (∀ σ' H', P σ' H' → X σ' H') → (a1) { D with nx := X } σ H) (h2 : ∀ σ' H', P σ' H' → u D σ' H') : (tSeq a1 (u)) D σ H := h1 _ h2
theorem cut2 {a1 a2 u : TS} {D : Ends} {σ : St} {H : Hp} (P : St → Hp → Prop) (h1 : ∀ X : St → Hp → Prop, (∀ σ' H', P σ' H' → X σ' H') → (tSeq a1 (a2)) { D with nx := X } σ H) (h2 : ∀ σ' H', P σ' H' → u D σ' H') : (tSeq a1 (tSeq a2 (u))) D σ H := h1 _ h2
theorem cut3 {a1 a2 a3 u : TS} {D : Ends} {σ : St} {H : Hp} (P : St → Hp → Prop) (h1 : ∀ X : St → Hp → Prop, (∀ σ' H', P σ' H' → X σ' H') → (tSeq a1 (tSeq a2 (a3))) { D with nx := X } σ H) (h2 : ∀ σ' H', P σ' H' → u D σ' H') : (tSeq a1 (tSeq a2 (tSeq a3 (u)))) D σ H := h1 _ h2
theorem cut4 {a1 a2 a3 a4 u : TS} {D : Ends} {σ : St} {H : Hp} (P : St → Hp → Prop) (h1 : ∀ X : St → Hp → Prop, (∀ σ' H', P σ' H' → X σ' H') → (tSeq a1 (tSeq a2 (tSeq a3 (a4)))) { D with nx := X } σ H) (h2 : ∀ σ' H', P σ' H' → u D σ' H') : (tSeq a1 (tSeq a2 (tSeq a3 (tSeq a4 (u))))) D σ H := h1 _ h2
theorem cut5 {a1 a2 a3 a4 a5 u : TS} {D : Ends} {σ : St} {H : Hp} (P : St → Hp → Prop) (h1 : ∀ X : St → Hp → Prop, (∀ σ' H', P σ' H' → X σ' H') → (tSeq a1 (tSeq a2 (tSeq a3 (tSeq a4 (a5))))) { D with nx := X } σ H) (h2 : ∀ σ' H', P σ' H' → u D σ' H') : (tSeq a1 (tSeq a2 (tSeq a3 (tSeq a4 (tSeq a5 (u)))))) D σ H := h1 _ h2
end L2

set_option linter.all false
namespace Mq
end Mq

set_option linter.all false
namespace Mq
abbrev Row := Nat × Nat × Q2
end Mq

set_option linter.all false
namespace Mq
end Mq

set_option Elab.async false
set_option linter.all false
set_option maxRecDepth 100000
set_option maxHeartbeats 2000000
namespace L2
open PySem PySem.Spec PyProof.Rows
section
variable {M : Model} {A : Around} {E : Value → Shared → Prop} {s : Shared}
end
section
variable {X : Cx} {scope : Scope} {cl : List (Str × Addr)} {x0 : Str} {Nc : List Str} {nl : Nat} {fr : List Nat} {pins : List (Addr × Obj)} {σ : St} {H3 : Hp} {s3 : Shared} {fp : List Addr} {h4 : Heap} {tk : Nat}
end
section
variable {X : Cx} {scope : Scope} {cl : List (Str × Addr)} {x0 : Str} {Nc : List Str} {nl : Nat} {fr : List Nat} {elt tg iter : Expr} {ifs : List Expr} {pos : Pos} {wi : TI} {g : TG} {tt : TT} {te : TE}
end
end L2

set_option Elab.async false
set_option linter.all false
set_option maxRecDepth 100000
set_option maxHeartbeats 2000000
namespace L2
open PySem PySem.Spec PyProof.Rows
section
variable {X : Cx}
end
end L2
namespace L2
open PySem PySem.Spec PyProof.Rows
end L2
namespace L2
open PySem PySem.Spec PyProof.Rows
end L2
namespace L2
open PySem PySem.Spec PyProof.Rows
end L2

set_option Elab.async false
set_option linter.all false
set_option maxRecDepth 100000
set_option maxHeartbeats 2000000
namespace L2
open PySem PySem.Spec PyProof.Rows
def Ite (K : PySem.W.Frag) (a : Addr) : It :=
  ⟨fun i H => ∃ xs x, SqL K H a xs ∧ xs[i]? = some x,
   fun i H v H' => ∃ T x, v = .ref T ∧ H T = none ∧ H' = upd H T (.tup [.int (i : Int), x]) ∧ ∀ xs, SqL K H a xs → xs[i]? = some x,
   fun i H => ∃ xs, SqL K H a xs ∧ xs.length ≤ i⟩
def EnumTn (e it l : Addr) (i : Nat) (h : Heap) : Prop := e ≠ it ∧ (∃ old, IsEnum h e it (i : Int) old) ∧ h.IsListIter it l i
theorem turn_enum {P : Program} {w : World} {K : PySem.W.Frag} {elts : List Expr} {kk : Nat} {tpos : Pos} (e it l : Addr) :
    Turn P w K (.Tuple elts kk tpos) (Ite K l) [e, it] e (EnumTn e it l) where
  mem := by simp
  obj := fun i h st b hb => by
    obtain ⟨ne, ⟨old, he⟩, ⟨o1, e1, c1, d1⟩⟩ := st
    simp only [List.mem_cons, List.not_mem_nil, or_false] at hb
    rcases hb with rfl | rfl
    · exact ⟨_, he, fun v q => by cases q⟩
    · exact ⟨o1, e1, fun v q => by rw [d1] at q; cases q⟩
  keep := fun i h h' st k => by
    obtain ⟨ne, ⟨old, he⟩, ⟨o1, e1, c1, d1⟩⟩ := st
    exact ⟨ne, ⟨old, k _ (by simp) _ he⟩, ⟨o1, k _ (by simp) _ e1, c1, d1⟩⟩
  item := by
    intro X hP hw hK hc i pins s σ H E I hf st hg
    subst hP hw hK
    obtain ⟨ne, ⟨old, he⟩, t1⟩ := st
    obtain ⟨xs, x, hx, ex⟩ := hg
    obtain ⟨its1, rv1, p1, z1⟩ := I.list hx
    obtain ⟨u1, hu1, ru1⟩ := rv1.get ex
    refine wpAny_pyNext_enum_item he t1 p1.isList (x := u1) (by simpa using hu1) ne fun h' g1 g2 g3 g4 kk' => ?_
    have hn : H s.heap.objs.size = none := I.hok.fresh (Nat.le_refl _)
    have lt : ∀ b ∈ [e, it], b < s.heap.objs.size := fun b hb => by
      simp only [List.mem_cons, List.not_mem_nil, or_false] at hb
      obtain ⟨o1, e1, _⟩ := t1
      rcases hb with rfl | rfl
      · exact Heap.lt_size he
      · exact Heap.lt_size e1
    have I1 : Inv X pins σ (upd H s.heap.objs.size (.tup [.int (i : Int), x])) { s with heap := s.heap.push { cls := .type "tuple", data := .seq #[.int i s.toks, u1] }, toks := s.toks + 1 } :=
      I.laid (t' := s.toks + 1) (fun b o e => Heap.get?_push_of_some _ e) (Nat.le_refl _) (show ObjOk X.prog X.w _ _ _ (.tup [.int (i : Int), x]) from ⟨by show 2 ≤ sizeLine; decide, [.int i s.toks, u1], .cons ⟨_, rfl⟩ (.cons ru1 .nil), IsTup.new _ _⟩)
    have hf1 : ∀ b ∈ [e, it], FpOk X pins (upd H s.heap.objs.size (.tup [.int (i : Int), x])) b := fun b hb => ⟨by rw [upd_ne (Nat.ne_of_lt (lt b hb))]; exact (hf b hb).1, (hf b hb).2⟩
    have k1 : ∀ b o, b ∉ [e, it] → (s.heap.push { cls := .type "tuple", data := .seq #[.int i s.toks, u1] }).get? b = some o → h'.get? b = some o := fun b o nb e => by
      simp only [List.mem_cons, List.not_mem_nil, or_false, not_or] at nb
      by_cases hb : b = s.heap.objs.size
      · subst hb
        rw [Heap.get?_push_size _ rfl] at e
        cases e
        exact g3
      · have e0 : s.heap.get? b = some o := by rw [Heap.get?_push_ne _ _ _ hb] at e; exact e
        exact kk' b o nb.1 nb.2 e0
    have I2 : Inv X pins σ (upd H s.heap.objs.size (.tup [.int (i : Int), x])) { s with heap := h', toks := s.toks + 1 } := Inv.turnedL (s := { s with heap := s.heap.push { cls := .type "tuple", data := .seq #[.int i s.toks, u1] }, toks := s.toks + 1 }) (t' := s.toks + 1) I1 k1 hf1
    refine ⟨_, rfl, wpAny_letOwnedTupleGo_enum (s := { s with heap := h', toks := s.toks + 1 }) g1 fun h2 q1 q2 => ?_⟩
    have kz : ∀ b o, b ≠ e → h'.get? b = some o → h2.get? b = some o := fun b o nb e => (q2.2 b nb).trans e
    have I3 : Inv X pins σ (upd H s.heap.objs.size (.tup [.int (i : Int), x])) { s with heap := h2, toks := s.toks + 1 } := Inv.turnedL (s := { s with heap := h', toks := s.toks + 1 }) (t' := s.toks + 1) (fp := [e]) I2 (fun b o nb e => kz b o (by simpa using nb) e) fun b hb => hf1 b (by simp at hb; simp [hb])
    obtain ⟨o3, e3, c3, d3⟩ := g2
    refine ⟨.ref s.heap.objs.size, _, I3, rfl, ⟨_, x, rfl, hn, rfl, fun xs' h1 => ?_⟩, ⟨ne, ⟨_, q1⟩, ⟨o3, kz _ _ ne.symm e3, c3, d3⟩⟩, fun b hb => (hf1 b hb).1⟩
    rw [I.list_inj h1 hx]
    exact ex
  done := by
    intro X hP hw hK hc i pins s σ H E I hf st hg
    subst hP hw hK
    obtain ⟨ne, ⟨old, he⟩, t1⟩ := st
    obtain ⟨xs, hx, hor⟩ := hg
    obtain ⟨its1, rv1, p1, z1⟩ := I.list hx
    have l1' := rv1.length
    refine wpAny_pyNext_enum_end (I.ok.hd hc) he t1 p1.isList (by simp; omega) fun h' kk' => ⟨rfl, ?_⟩
    refine I.turnedL (t' := s.toks) (fun b o nb e => ?_) hf
    simp only [List.mem_cons, List.not_mem_nil, or_false, not_or] at nb
    exact kk' b o nb.2 e
  self := fun A i s Q E st h => by
    obtain ⟨ne, ⟨old, he⟩, t1⟩ := st
    exact wpAny_pyIter_enum he h
section
variable {X : Cx}
def iEnum (K : PySem.W.Frag) (ta : TA) : TI := fun σ H R => ta σ H fun vs H1 => ∃ a, vs = [.ref a] ∧ (∃ xs, SqL K H1 a xs) ∧ R (Ite K a) H1
theorem pi_enum {e1 : Expr} {ta : TA} {p pos : Pos} {elts : List Expr} {kk : Nat} {tpos : Pos} (hg : Gl X "enumerate") (hm : X.mg "enumerate" = none) (hv : bootBuiltins "enumerate" = some (.type "enumerate")) (ha : PA X [e1] ta)
    (hs : starEach [e1] X.env = (false, eval e1 X.env) :: starEach [] X.env := by rfl) (hpl : (backTo pos (starEach [] X.env)).any (·.1) = false := by rfl) : PI X (.Tuple elts kk tpos) (.Call (.Name "enumerate" p) [e1] [] pos) (iEnum X.K ta) := by
  intro pins s σ H R I h
  refine Call_ (ld_blt I hg hm hv (PyProof.Rows.callWith_type1 (thn (ha pos pins s σ H _ I h) fun us s1 ⟨vs, H1, I1, r1, q1⟩ => ?_) hs hpl))
  obtain ⟨a, rfl, ⟨xs, hx⟩, q⟩ := q1
  obtain ⟨u, rfl, ra⟩ := vals1 r1
  cases (show u = Value.ref a from ra)
  obtain ⟨its1, rv1, p1, z1⟩ := I1.list hx
  have la : a < s1.heap.objs.size := by obtain ⟨o, e, _⟩ := p1.isList; exact Heap.lt_size e
  refine call_enumerate_list p1.isList fun h' g1 g2 g3 kk' => ?_
  refine wpAny_pyIter_enum g1 ?_
  refine ⟨s1.heap.objs.size + 1, [s1.heap.objs.size + 1, s1.heap.objs.size], _, Ite X.K a, H1, rfl, I1.kept (t' := s1.toks) kk', turn_enum _ _ a, ⟨?_, ⟨_, g1⟩, g2⟩, fun c hc => ?_, q⟩
  · exact Nat.succ_ne_self _
  · have hle : s1.heap.objs.size ≤ c := by
      simp only [List.mem_cons, List.not_mem_nil, or_false] at hc
      rcases hc with rfl | rfl <;> first | exact Nat.le_add_right _ _ | exact Nat.le_refl _
    exact I1.fpOk hle (I1.hok.fresh hle)
theorem for_enum {K : PySem.W.Frag} {a : Addr} {xs : List V} {g : TG} {tb : TS} {D : Ends} {σ : St} {H : Hp} (Pv : Nat → St → Hp → Prop) (h0 : Pv 0 σ H) (hl : ∀ i σ H, i ≤ xs.length → Pv i σ H → SqL K H a xs)
    (hs : ∀ i x σ H T, xs[i]? = some x → Pv i σ H → H T = none → g (.ref T) σ (upd H T (.tup [.int (i : Int), x])) fun σ2 H2 => tb { D with nx := Pv (i + 1), ct := Pv (i + 1), bk := D.nx } σ2 H2) (hd : ∀ σ H, Pv xs.length σ H → D.nx σ H) :
    ∃ W : Nat → Nat → St → Hp → Prop, (∃ m, W 0 m σ H) ∧ ∀ i m σ H, W i m σ H →
      ((Ite K a).stop i H ∧ D.nx σ H) ∨ ((Ite K a).go i H ∧ ∃ N : St → Hp → Prop, (∀ σ' H', N σ' H' → ∃ m', m' < m ∧ W (i + 1) m' σ' H') ∧ ∀ x H', (Ite K a).yld i H x H' → g x σ H' fun σ2 H2 => tb { D with nx := N, ct := N, bk := D.nx } σ2 H2) := by
  refine ⟨fun i m σ H => m = xs.length - i ∧ i ≤ xs.length ∧ Pv i σ H, ⟨_, rfl, Nat.zero_le _, h0⟩, ?_⟩
  rintro i m σ H ⟨rfl, hi, p⟩
  have qx := hl i σ H hi p
  by_cases hlt : i < xs.length
  · refine .inr ⟨⟨xs, xs[i], qx, by simp [hlt]⟩, Pv (i + 1), fun σ' H' p' => ⟨xs.length - (i + 1), by omega, rfl, hlt, p'⟩, fun v H' z => ?_⟩
    obtain ⟨T, x, rfl, hT, rfl, hh⟩ := z
    exact hs i x σ H T (hh xs qx) p hT
  · have e : i = xs.length := by omega
    subst e
    exact .inl ⟨⟨xs, qx, Nat.le_refl _⟩, hd σ H p⟩
theorem comp_enum {K : PySem.W.Frag} {a : Addr} {xs : List V} {nl : Nat} {fr : List Nat} {g : TG} {tt : TT} {te : TE} {σ : St} {D : Addr} {H1 : Hp} {Q : VK} (Pv : Nat → List V → Hp → Prop) (h0 : Pv 0 [] (upd H1 D (.lst []))) (hl : ∀ i zs H, Pv i zs H → H D = some (.lst zs)) (hx : ∀ i zs H, i ≤ xs.length → Pv i zs H → SqL K H a xs)
    (hs : ∀ i zs x H T, xs[i]? = some x → Pv i zs H → H T = none → ∀ (C : Nat → List V → Hp → Prop), (∀ zs H, Pv (i + 1) zs H → C (i + 1) zs H) → CompT nl fr g tt te σ D C i zs (.ref T) (upd H T (.tup [.int (i : Int), x]))) (hd : ∀ zs H, Pv xs.length zs H → Q (.ref D) H) :
    CompW (Ite K a) nl fr g tt te σ D H1 Q := by
  refine ⟨fun i m zs H => m = xs.length - i ∧ i ≤ xs.length ∧ Pv i zs H, ⟨_, rfl, Nat.zero_le _, h0⟩, ?_⟩
  rintro i m zs H ⟨rfl, hi, p⟩
  refine ⟨hl i zs H p, ?_⟩
  have qx := hx i zs H hi p
  by_cases hlt : i < xs.length
  · refine .inr ⟨⟨xs, xs[i], qx, by simp [hlt]⟩, fun v H' z => ?_⟩
    obtain ⟨T, x, rfl, hT, rfl, hh⟩ := z
    exact hs i zs x H T (hh xs qx) p hT (fun j zs Hz => ∃ m', m' < xs.length - i ∧ m' = xs.length - j ∧ j ≤ xs.length ∧ Pv j zs Hz) fun zs Hz z => ⟨xs.length - (i + 1), by omega, rfl, hlt, z⟩
  · have e : i = xs.length := by omega
    subst e
    exact .inl ⟨⟨xs, qx, Nat.le_refl _⟩, hd zs H p⟩
end
end L2

set_option Elab.async false
set_option linter.all false
namespace L2
open PySem PySem.Spec PyProof.Rows
end L2

set_option Elab.async false
set_option linter.all false
set_option maxRecDepth 100000
set_option maxHeartbeats 4000000
namespace Shp
open PySem L2
end Shp

set_option Elab.async false
set_option linter.all false
set_option maxRecDepth 100000
set_option maxHeartbeats 4000000
namespace Shp
open PySem L2
end Shp

set_option linter.all false
namespace Mq
abbrev Mat := Nat → Nat → Rat
end Mq

set_option linter.all false
namespace Mq
section
variable {m : Nat} {A E : Mat} {r col : Nat} {d : Rat} {c : Nat → Nat}
end
end Mq

set_option linter.all false
namespace Mq
end Mq

set_option Elab.async false
set_option linter.all false
set_option maxRecDepth 100000
set_option maxHeartbeats 4000000
namespace Shp
open PySem L2
end Shp
namespace L2
open PySem
end L2

set_option linter.all false
set_option maxHeartbeats 1000000
namespace Mq
end Mq

set_option Elab.async false
set_option linter.all false
set_option maxRecDepth 100000
set_option maxHeartbeats 2000000
namespace PySem
open Sem (wp)
section
variable {prog : Program} {w : World} {A : Around} {E : Value → Shared → Prop} {h : Heap} {g : Array GenState} {d : Drawn} {t : Nat} {os : OsState}
variable {nm q : Str} {C N f : Addr} {bs bm bmB : List Value} {hdct : Bool} {sn : List Str} {sub : List Value} {ab : Bool} {col : Option Bool} {dd : Option Addr} {k0 k1 k2 k3 k5 : Option Value} {B Bn newId nid initId inN : String} {bmN : List Value}
end
section
variable {M : Model} {A : Around} {E : Value → Shared → Prop} {env : Env}
variable {nm q : Str} {C N : Addr} {bs bm : List Value} {hdct : Bool} {sn : List Str} {sub : List Value} {ab : Bool} {col : Option Bool} {dd : Option Addr} {k0 k1 k2 k3 k5 : Option Value} {newId : String}
end
section
variable {prog : Program} {w : World} {A : Around} {E : Value → Shared → Prop} {s : Shared} {env : Env}
variable {nm q : Str} {C N f : Addr} {bs bm bmB : List Value} {hdct : Bool} {sn : List Str} {sub : List Value} {ab : Bool} {col : Option Bool} {dd : Option Addr} {k0 k1 k2 k3 k5 : Option Value} {B Bn newId nid initId inN : String} {bmN : List Value}
end
end PySem

set_option Elab.async false
set_option linter.all false
set_option maxRecDepth 100000
set_option maxHeartbeats 2000000
namespace L2
open PySem PySem.Spec PyProof.Rows
section
variable {X : Cx} {pins : List (Addr × Obj)} {σ : List (Option V)} {H : Hp} {s : Shared}
end
section
variable {X : Cx} {pins : List (Addr × Obj)} {σ : List (Option V)} {H : Hp} {s : Shared} {k : Nat} {f C C0 : Addr} {fd : FuncData} {ps : List Str} {sp : Sp}
end
end L2

set_option Elab.async false
set_option linter.all false
set_option maxRecDepth 100000
set_option maxHeartbeats 2000000
namespace L2
open PySem PySem.Spec PyProof.Rows
section
variable {X : Cx} {C C0 f : Addr}
end
section
variable {prog : Program} {w : World} {A : Around} {E : Value → Shared → Prop} {s : Shared} {K : PySem.W.Frag} {x C C0 f : Addr} {name : Str} {v : Value} {vs : Array Value}
end
section
variable {X : Cx} {o value : Expr} {nm : Str} {pos pos' : Pos} {ta tv : TE}
end
section
variable {X : Cx} {o : Expr} {nm : Str} {pos : Pos} {ta : TE}
end
end L2

set_option Elab.async false
set_option linter.all false
set_option maxRecDepth 100000
set_option maxHeartbeats 4000000
namespace Shp
open PySem L2
end Shp
namespace L2
open PySem
end L2

set_option linter.all false
set_option maxHeartbeats 2000000
namespace Mq
end Mq

set_option Elab.async false
set_option linter.all false
set_option maxRecDepth 100000
set_option maxHeartbeats 4000000
namespace L2
open PySem
end L2
namespace Mq
end Mq
namespace Shp
open PySem L2
end Shp

set_option linter.all false
set_option maxHeartbeats 1000000
namespace Mq
end Mq

set_option Elab.async false
set_option linter.all false
set_option maxRecDepth 100000
set_option maxHeartbeats 4000000
namespace Shp
open PySem L2
section
variable {X : List (List Mq.Q2)} {qs : List Mq.Q2}
end
end Shp

set_option linter.all false
set_option maxHeartbeats 1000000
namespace Mq
section
variable {m : Nat} {A E : Mat} {r col : Nat} {d : Rat} {c : Nat → Nat} {n : Nat}
end
end Mq

set_option Elab.async false
set_option linter.all false
set_option maxRecDepth 100000
set_option maxHeartbeats 4000000
namespace Shp
open PySem L2
abbrev bq (n m : Nat) : Nat := (n + 4) * (m + 1) + 7
end Shp

set_option Elab.async false
set_option linter.all false
set_option maxRecDepth 100000
set_option maxHeartbeats 4000000
namespace L2
open PySem PyProof.Rows
end L2

set_option Elab.async false
set_option linter.all false
set_option maxRecDepth 100000
set_option maxHeartbeats 2000000
namespace L2
open PySem PySem.Spec PyProof.Rows
section
variable {X : Cx} {k : Nat} {f C : Addr} {fd : FuncData} {ps : List Str} {sp : Sp} {dvs : List V} {ds : List Value} {x : Str} {p pos : Pos} {e : Expr} {es : List Expr} {t : TA}
end
theorem FnOk.weak {P : Program} {w : World} {K : PySem.W.Frag} {mg : Str → Option Value} {base : Heap} {CX : CXT} {k : Nat} {f : Addr} {fd : FuncData} {ps : List Str} {sp sp' : Sp} (F : FnOk P w K mg base CX k f fd ps sp) (h : ∀ vs H Q E, sp' vs H Q E → sp vs H Q E) : FnOk P w K mg base CX k f fd ps sp' :=
  ⟨fun vs H Q E q => F.len vs H Q E (h _ _ _ _ q), fun A outer s H args us vs Q E hr he hb hv hs => F.run A outer s H args us vs Q E hr he hb hv (h _ _ _ _ hs)⟩
abbrev PtOk (m i j : Int) : Prop := 0 ≤ i ∧ i < m ∧ 0 ≤ j ∧ j < m
end L2

set_option Elab.async false
set_option linter.all false
set_option maxRecDepth 100000
set_option maxHeartbeats 2000000
namespace L2
open PySem PySem.Spec PyProof.Rows
inductive Zv (K : PySem.W.Frag) (H : Hp) : V → Option Mq.Q2 → Prop where
  | fr {u : Addr} {p : Mq.Q2} (h : Fq K H u p) (l : Mq.Low p) : Zv K H (.ref u) (some p)
  | ty {v : V} {t : Value} (h : TyQ K H v t) (n : PySem.W.kitOne K t (.type "tuple") = some false) : Zv K H v none
  | len {u : Addr} {x y z : V} (h : SqT K H u [x, y, z]) : Zv K H (.ref u) none
  | n0 {u : Addr} {x y : V} {t : Value} (h : SqT K H u [x, y]) (ty : TyOf K H x t) (n : NotWhole t) : Zv K H (.ref u) none
  | n1 {u : Addr} {i : Int} {y : V} {t : Value} (h : SqT K H u [.int i, y]) (ty : TyOf K H y t) (n : NotWhole t) : Zv K H (.ref u) none
  | fb {u : Addr} {p : Mq.Q2} (h : Fq K H u p) (c : p.2 < 1 ∨ (1 ≤ p.2 ∧ Mq.gc p.1 p.2 ≠ 1)) : Zv K H (.ref u) none
def spIsFV (K : PySem.W.Frag) : Sp := fun vs H Q _ => ∃ (v : V) (o : Option Mq.Q2), vs = [v] ∧ Zv K H v o ∧ Q (.bl o.isSome) H
inductive Robs (CK : Kd → Addr) (K : PySem.W.Frag) (H : Hp) : List V → List RD → Prop where
  | nil : Robs CK K H [] []
  | cons {x z : Addr} {k : Kd} {i j : Int} {p : Mq.Q2} {xs : List V} {ds : List RD} (h : Rw CK H x k (.int i) (.int j) (.ref z)) (f : Fq K H z p) (q : Robs CK K H xs ds) : Robs CK K H (.ref x :: xs) ((k, i, j, p) :: ds)
section
variable {CK : Kd → Addr} {K : PySem.W.Frag} {H H' : Hp}
theorem Robs.same (e : Same H H') : ∀ {xs : List V} {ds : List RD}, Robs CK K H xs ds → Robs CK K H' xs ds
  | _, _, .nil => .nil
  | _, _, .cons h f q => .cons (h.same e) (e.fq f) (Robs.same e q)
theorem Robs.length : ∀ {xs : List V} {ds : List RD}, Robs CK K H xs ds → xs.length = ds.length
  | _, _, .nil => rfl
  | _, _, .cons _ _ q => by simp [Robs.length q]
theorem Robs.app : ∀ {xs ys : List V} {ds es : List RD}, Robs CK K H xs ds → Robs CK K H ys es → Robs CK K H (xs ++ ys) (ds ++ es)
  | _, _, _, _, .nil, r => r
  | _, _, _, _, .cons h f q, r => .cons h f (Robs.app q r)
theorem Robs.at : ∀ {xs : List V} {ds : List RD} {q : Nat} {d : RD}, Robs CK K H xs ds → ds[q]? = some d → ∃ x z, xs[q]? = some (.ref x) ∧ Rw CK H x d.1 (.int d.2.1) (.int d.2.2.1) (.ref z) ∧ Fq K H z d.2.2.2
  | _, _, _, _, .nil, h => by simp at h
  | _, _, 0, _, .cons h f _, e => by simp at e; subst e; exact ⟨_, _, rfl, h, f⟩
  | _, _, i + 1, _, .cons _ _ q, e => by simpa using Robs.at q (by simpa using e)
theorem Robs.upd {l : Addr} {ys : List V} {o : HO} (hl : H l = some (.lst ys)) : ∀ {xs : List V} {ds : List RD}, Robs CK K H xs ds → Robs CK K (L2.upd H l o) xs ds
  | _, _, .nil => .nil
  | _, _, .cons (h := h) f q => by
    obtain ⟨dx, e⟩ := h
    exact .cons ⟨dx, by rw [upd_ne (ne_of e hl (fun z => by cases z))]; exact e⟩ (f.upd hl) (Robs.upd hl q)
end
def spRows (CN : Addr) (K : PySem.W.Frag) (CK : Kd → Addr) : Sp := fun vs H Q _ => ∃ (n l : Addr) (m : Int) (ds : List RD), vs = [.ref n] ∧ NetAt CN K H n l m ds ∧ ds.length ≤ 100 ∧ ∀ a xs H', Same H H' → H a = none → H' a = some (.lst xs) → Robs CK K H' xs ds → Q (.ref a) H'
end L2

set_option Elab.async false
set_option linter.all false
set_option maxRecDepth 100000
set_option maxHeartbeats 2000000
namespace L2
open PySem PySem.Spec PyProof.Rows
section
variable {X : Cx} {pins : List (Addr × Obj)} {σ : St} {H : Hp} {s : Shared} {a : Addr} {k : Key} {kvs : List (Key × V)} {u r : Value} {z : V} {A : Around} {E : Value → Shared → Prop}
end
section
variable {X : Cx} {o e f : Expr} {apos cpos : Pos} {td ty tx : TE}
end
section
variable {X : Cx} {o : Expr} {apos cpos pos p : Pos} {td : TE}
end
def tLRange (ta : TA) : TE := fun σ H Q => ta σ H fun vs H1 => ∃ n : Nat, vs = [.int (n : Int)] ∧ n ≤ 1000 ∧ ∀ l, H1 l = none → Q (.ref l) (upd H1 l (.lst ((List.range n).map fun (i : Nat) => V.int (i : Int))))
theorem vals_range : ∀ {n : Nat} {acc : List Value}, acc.length = n → (∀ (j : Nat) (v : Value), acc[j]? = some v → ∃ t, v = Value.int (j : Int) t) → Vals ((List.range n).map fun (i : Nat) => V.int (i : Int)) acc
  | 0, [], _, _ => .nil
  | n + 1, acc, hl, h => by
    have e : acc = acc.take n ++ [acc[n]'(by omega)] := by
      have h1 : acc.take (n + 1) = acc := List.take_of_length_le (by omega)
      have h2 : acc.take (n + 1) = acc.take n ++ [acc[n]'(by omega)] := by rw [List.take_add_one, List.getElem?_eq_getElem (by omega)]; rfl
      rw [h1] at h2; exact h2
    rw [List.range_succ, List.map_append, e]
    refine Vals.append (vals_range (by rw [List.length_take]; omega) fun j v hj => ?_) (.cons ?_ .nil)
    · have hjn : j < n := by
        have := (List.getElem?_eq_some_iff.mp hj).1
        rw [List.length_take] at this
        omega
      rw [List.getElem?_take, if_pos hjn] at hj
      exact h j v hj
    · obtain ⟨t, ht⟩ := h n _ (List.getElem?_eq_getElem (by omega))
      rw [ht]
      exact ⟨t, rfl⟩
section
variable {X : Cx} {a : Expr} {p p2 pos pos2 : Pos} {ta : TA}
theorem pe_listrange (hc : X.calm = true) (hgl : Gl X "list") (hml : X.mg "list" = none) (hg : Gl X "range") (hm : X.mg "range" = none) (ha : PA X [a] ta) (hs : starEach [a] X.env = [(false, eval a X.env)] := by rfl)
    (he : starEach [.Call (.Name "range" p2) [a] [] pos2] X.env = (false, eval (.Call (.Name "range" p2) [a] [] pos2) X.env) :: starEach [] X.env := by rfl) (hpl : (backTo pos (starEach [] X.env)).any (·.1) = false := by rfl) :
    PE X (.Call (.Name "list" p) [.Call (.Name "range" p2) [a] [] pos2] [] pos) (tLRange ta) := by
  intro pins s σ H Q I h
  refine wpAny_Call_Name_kw (ld_blt I hgl hml PyProof.Rows.boot_list ?_)
  refine PyProof.Rows.callWith_type1 ?_ he hpl
  rw [he]
  show wpAny _ _ (spliced ((false, eval (.Call (.Name "range" p2) [a] [] pos2) X.env) :: backTo pos (starEach [] X.env))) _ _ s
  refine Calls.spliced_cons ?_
  refine wpAny_Call_Name_kw (ld_blt I hg hm boot_range (PyProof.Rows.callWith_type1 (thn (ha pos2 pins s σ H _ I h) fun us s1 ⟨vs, H1, I1, r1, q1⟩ => ?_) hs rfl))
  obtain ⟨n, e, hn, q⟩ := q1
  subst e
  cases r1 with
  | cons r rr =>
    cases rr
    obtain ⟨t, rfl⟩ := r
    refine call_range_1 ?_
    refine Calls.spliced_nil ?_
    have I2 : ∀ (ob : Obj) (tk : Nat), Inv X pins σ H1 { s1 with heap := s1.heap.push ob, toks := tk } := fun ob tk => I1.kept (t' := tk) (fun b ob e => Heap.get?_push_of_some _ e)
    have hn24 : (n : Nat) ≤ 2 ^ 24 := by omega
    refine call_list_range (n := n) (I1.ok.hd hc) (IsRange.new ..) (small_one (by omega) (by omega) (by omega) (by omega)) (by rw [rangeSize_one]; split <;> omega) hn24 (fun h' tk acc' c' kp e items => ?_)
    have rl : Vals ((List.range n).map fun (i : Nat) => V.int (i : Int)) acc'.toList := vals_range (by rw [Array.length_toList]; exact items.1) (fun j v hj => by
      obtain ⟨t, ht⟩ := items.2 j v (by rw [← Array.getElem?_toList]; exact hj)
      exact ⟨t, by rw [ht]; congr 1; omega⟩)
    have hz : ((List.range n).map fun (i : Nat) => V.int (i : Int)).length ≤ sizeLine := by rw [List.length_map, List.length_range, sizeLine_eq]; omega
    exact ⟨.ref _, _, (I2 _ _).laid (t' := tk) kp (Nat.le_refl _) (show ObjOk X.prog X.w _ h' _ (.lst ((List.range n).map fun (i : Nat) => V.int (i : Int))) from ⟨hz, acc'.toList, c', rl, e⟩), rfl, q _ ((I2 _ _).hok.fresh (Nat.le_refl _))⟩
end
end L2

set_option Elab.async false
set_option linter.all false
set_option maxHeartbeats 1000000
namespace L2
open PySem PySem.Spec PyProof.Rows
end L2

set_option Elab.async false
set_option linter.all false
set_option maxHeartbeats 1000000
namespace L2
open PySem PySem.Spec PyProof.Rows
section
variable {H0 H H' : Hp} {kvs : List (Key × V)} {G : List (Int × List Int)} {as : List Addr}
end
end L2

set_option Elab.async false
set_option linter.all false
set_option maxHeartbeats 1000000
namespace L2
open PySem PySem.Spec PyProof.Rows
theorem nd_le : ∀ {m : Nat} {S : List Nat}, S.Nodup → (∀ p ∈ S, p < m) → S.length ≤ m
  | 0, [], _, _ => Nat.le_refl _
  | 0, p :: S, _, h => absurd (h p (List.mem_cons_self ..)) (Nat.not_lt_zero _)
  | m + 1, S, nd, h => by
    have e := nd_le (m := m) (S := S.erase m) (nd.erase m) (fun p hp => by
      have h1 := h p (List.mem_of_mem_erase hp)
      have h2 : p ≠ m := fun z => by rw [z] at hp; exact (List.Nodup.not_mem_erase nd) hp
      omega)
    have := List.length_erase_le (a := m) (l := S)
    have h3 : S.length ≤ (S.erase m).length + 1 := by
      rw [List.length_erase]; split <;> omega
    omega
end L2

set_option Elab.async false
set_option linter.all false
set_option maxHeartbeats 2000000
namespace L2
open PySem PySem.Spec PyProof.Rows
abbrev Stp := Nat × Int
abbrev Br := Nat × Nat × Nat
def stF (es : List Br) (p : Nat) : List (Stp × Nat) := es.filterMap fun e => if e.2.1 = p then some ((e.1, 1), e.2.2) else if e.2.2 = p then some ((e.1, -1), e.2.1) else none
abbrev WS := List (Nat × List Stp)
def wkeys (w : WS) : List Nat := w.map (·.1)
def wget : WS → Nat → Option (List Stp)
  | [], _ => none
  | e :: w, p => if e.1 = p then some e.2 else wget w p
theorem wget_some {p : Nat} {st : List Stp} : ∀ {w : WS}, wget w p = some st → (p, st) ∈ w
  | [], h => by cases h
  | e :: w, h => by
    unfold wget at h
    by_cases c : e.1 = p
    · rw [if_pos c] at h
      cases h
      obtain ⟨a, b⟩ := e
      have c : a = p := c
      subst c
      exact List.mem_cons_self ..
    · rw [if_neg c] at h
      exact List.mem_cons_of_mem _ (wget_some h)
theorem wget_in {p : Nat} : ∀ {w : WS}, p ∈ wkeys w → ∃ st, wget w p = some st
  | [], h => by cases h
  | e :: w, h => by
    unfold wget
    by_cases c : e.1 = p
    · rw [if_pos c]; exact ⟨_, rfl⟩
    · rw [if_neg c]
      rcases List.mem_cons.mp h with z | z
      · exact absurd z.symm c
      · exact wget_in z
theorem wget_none {p : Nat} : ∀ {w : WS}, p ∉ wkeys w → wget w p = none
  | [], _ => rfl
  | e :: w, h => by
    unfold wget
    rw [if_neg (fun z => h (by rw [← z]; exact List.mem_cons_self ..))]
    exact wget_none fun z => h (List.mem_cons_of_mem _ z)
def inF (p : Nat) (s : WS × List Nat) (t : Stp × Nat) : WS × List Nat := if t.2 ∈ wkeys s.1 then s else (s.1 ++ [(t.2, (wget s.1 p).getD [] ++ [t.1])], s.2 ++ [t.2])
def stepF (es : List Br) (s : WS × List Nat) : WS × List Nat := if s.2 = [] then s else (stF es (s.2.getLastD 0)).foldl (inF (s.2.getLastD 0)) (s.1, s.2.dropLast)
def iterF (es : List Br) (b : Nat) : Nat → WS × List Nat
  | 0 => ([(b, [])], [b])
  | n + 1 => stepF es (iterF es b n)
def wayF (es : List Br) (b e : Nat) : Option (List Stp) := wget (iterF es b 60).1 e
def Goes (es : List Br) (s : Stp) (p q : Nat) : Prop := ∃ u v, (s.1, u, v) ∈ es ∧ ((s.2 = 1 ∧ p = u ∧ q = v) ∨ (s.2 = -1 ∧ p = v ∧ q = u))
inductive Pt (es : List Br) (b : Nat) : List Stp → Nat → List Nat → Prop where
  | nil : Pt es b [] b [b]
  | snoc {st : List Stp} {p q : Nat} {pts : List Nat} {s : Stp} (h : Pt es b st p pts) (g : Goes es s p q) (n : q ∉ pts) : Pt es b (st ++ [s]) q (pts ++ [q])
theorem stF_goes {es : List Br} {p : Nat} {t : Stp × Nat} (h : t ∈ stF es p) : Goes es t.1 p t.2 := by
  unfold stF at h
  obtain ⟨e, he, ht⟩ := List.mem_filterMap.mp h
  by_cases c1 : e.2.1 = p
  · rw [if_pos c1] at ht
    cases ht
    exact ⟨e.2.1, e.2.2, he, .inl ⟨rfl, c1.symm, rfl⟩⟩
  · rw [if_neg c1] at ht
    by_cases c2 : e.2.2 = p
    · rw [if_pos c2] at ht
      cases ht
      exact ⟨e.2.1, e.2.2, he, .inr ⟨rfl, c2.symm, rfl⟩⟩
    · rw [if_neg c2] at ht; cases ht
theorem goes_stF {es : List Br} {p q : Nat} {s : Stp} (h : Goes es s p q) : q = p ∨ ∃ t ∈ stF es p, t.2 = q := by
  obtain ⟨u, v, he, h⟩ := h
  by_cases c : q = p
  · exact .inl c
  refine .inr ?_
  rcases h with ⟨_, rfl, rfl⟩ | ⟨_, rfl, rfl⟩
  · refine ⟨((s.1, 1), q), List.mem_filterMap.mpr ⟨_, he, ?_⟩, rfl⟩
    rw [if_pos rfl]
  · refine ⟨((s.1, -1), q), List.mem_filterMap.mpr ⟨_, he, ?_⟩, rfl⟩
    rw [if_neg c, if_pos rfl]
structure WI (es : List Br) (b : Nat) (s : WS × List Nat) : Prop where
  nd : (wkeys s.1).Nodup
  kb : b ∈ wkeys s.1
  pt : ∀ x st, (x, st) ∈ s.1 → ∃ pts, Pt es b st x pts ∧ ∀ y ∈ pts, y ∈ wkeys s.1
  q : ∀ x ∈ s.2, x ∈ wkeys s.1
  cl : ∀ x ∈ wkeys s.1, x ∉ s.2 → ∀ t y, Goes es t x y → y ∈ wkeys s.1
theorem wi_start (es : List Br) (b : Nat) : WI es b ([(b, [])], [b]) := by
  refine ⟨by simp [wkeys], by simp [wkeys], fun x st h => ?_, fun x h => ?_, fun x h n => ?_⟩
  · have : (x, st) = (b, []) := by simpa using h
    cases this
    exact ⟨[b], .nil, fun y hy => by simpa [wkeys] using hy⟩
  · simpa [wkeys] using h
  · have : x = b := by simpa [wkeys] using h
    exact absurd (by simp [this]) n
theorem wk_app (w : WS) (x : Nat) (st : List Stp) : wkeys (w ++ [(x, st)]) = wkeys w ++ [x] := by unfold wkeys; rw [List.map_append]; rfl
structure WJ (es : List Br) (b p : Nat) (T : List (Stp × Nat)) (s : WS × List Nat) : Prop where
  nd : (wkeys s.1).Nodup
  kb : b ∈ wkeys s.1
  kp : p ∈ wkeys s.1
  pt : ∀ x st, (x, st) ∈ s.1 → ∃ pts, Pt es b st x pts ∧ ∀ y ∈ pts, y ∈ wkeys s.1
  q : ∀ x ∈ s.2, x ∈ wkeys s.1
  cl : ∀ x ∈ wkeys s.1, x ∉ s.2 → x ≠ p → ∀ t y, Goes es t x y → y ∈ wkeys s.1
  t : ∀ t ∈ T, t.2 ∈ wkeys s.1
theorem wj_in {es : List Br} {b p : Nat} {T : List (Stp × Nat)} {s : WS × List Nat} {t : Stp × Nat} (h : WJ es b p T s) (g : Goes es t.1 p t.2) : WJ es b p (T ++ [t]) (inF p s t) := by
  unfold inF
  by_cases c : t.2 ∈ wkeys s.1
  · rw [if_pos c]
    refine { h with t := fun u hu => ?_ }
    rcases List.mem_append.mp hu with z | z
    · exact h.t u z
    · have : u = t := by simpa using z
      rw [this]; exact c
  · rw [if_neg c]
    obtain ⟨sp, ep⟩ := wget_in h.kp
    rw [ep]
    have up : ∀ {x : Nat}, x ∈ wkeys s.1 → x ∈ wkeys (s.1 ++ [(t.2, sp ++ [t.1])]) := fun hx => by rw [wk_app]; exact List.mem_append_left _ hx
    have me : t.2 ∈ wkeys (s.1 ++ [(t.2, sp ++ [t.1])]) := by rw [wk_app]; simp
    refine ⟨?_, up h.kb, up h.kp, fun x st hx => ?_, fun x hx => ?_, fun x hx nx np => ?_, fun u hu => ?_⟩
    · show (wkeys (s.1 ++ [(t.2, sp ++ [t.1])])).Nodup
      rw [wk_app, List.nodup_append]
      refine ⟨h.nd, by simp, fun x hx y hy z => ?_⟩
      have : y = t.2 := by simpa using hy
      exact c (by rw [← this, ← z]; exact hx)
    · rcases List.mem_append.mp hx with z | z
      · obtain ⟨pts, h1, h2⟩ := h.pt x st z
        exact ⟨pts, h1, fun y hy => up (h2 y hy)⟩
      · have : (x, st) = (t.2, sp ++ [t.1]) := by simpa using z
        cases this
        obtain ⟨pts, h1, h2⟩ := h.pt p sp (wget_some ep)
        refine ⟨pts ++ [t.2], .snoc h1 g (fun z => c (h2 _ z)), fun y hy => ?_⟩
        rcases List.mem_append.mp hy with z | z
        · exact up (h2 y z)
        · have : y = t.2 := by simpa using z
          rw [this]; exact me
    · rcases List.mem_append.mp hx with z | z
      · exact up (h.q x z)
      · have : x = t.2 := by simpa using z
        rw [this]; exact me
    · have hx' : x ∈ wkeys s.1 := by
        have hx2 : x ∈ wkeys (s.1 ++ [(t.2, sp ++ [t.1])]) := hx
        rw [wk_app] at hx2
        rcases List.mem_append.mp hx2 with z | z
        · exact z
        · exact absurd (List.mem_append_right _ z) nx
      intro t' y hg
      exact up (h.cl x hx' (fun z => nx (List.mem_append_left _ z)) np t' y hg)
    · rcases List.mem_append.mp hu with z | z
      · exact up (h.t u z)
      · have : u = t := by simpa using z
        rw [this]; exact me
theorem wj_fold {es : List Br} {b p : Nat} : ∀ (U T : List (Stp × Nat)) {s : WS × List Nat}, WJ es b p T s → (∀ t ∈ U, Goes es t.1 p t.2) → WJ es b p (T ++ U) (U.foldl (inF p) s)
  | [], T, s, h, _ => by rw [List.append_nil]; exact h
  | u :: U, T, s, h, g => by
    have := wj_fold U (T ++ [u]) (wj_in h (g u (by simp))) fun t ht => g t (List.mem_cons_of_mem _ ht)
    rw [List.append_assoc] at this
    exact this
theorem last_in {q : List Nat} (h : q ≠ []) : q.getLastD 0 ∈ q ∧ q = q.dropLast ++ [q.getLastD 0] := by
  have e : q.getLastD 0 = q.getLast h := by rw [List.getLastD_eq_getLast?, List.getLast?_eq_some_getLast h]; rfl
  rw [e]
  exact ⟨List.getLast_mem h, (List.dropLast_concat_getLast h).symm⟩
theorem wi_begin {es : List Br} {b : Nat} {s : WS × List Nat} (h : WI es b s) (hq : s.2 ≠ []) : WJ es b (s.2.getLastD 0) [] (s.1, s.2.dropLast) := by
  obtain ⟨m, e⟩ := last_in hq
  refine ⟨h.nd, h.kb, h.q _ m, h.pt, fun x hx => h.q x (List.dropLast_subset _ hx), fun x hx nx np => h.cl x hx fun z => ?_, fun t ht => by cases ht⟩
  rw [e] at z
  rcases List.mem_append.mp z with z | z
  · exact nx z
  · exact np (by simpa using z)
theorem wi_end {es : List Br} {b p : Nat} {s : WS × List Nat} (h : WJ es b p (stF es p) s) : WI es b s := by
  refine ⟨h.nd, h.kb, h.pt, h.q, fun x hx nx t y hg => ?_⟩
  by_cases c : x = p
  · subst c
    rcases goes_stF hg with z | ⟨u, hu, e⟩
    · rw [z]; exact hx
    · rw [← e]; exact h.t u hu
  · exact h.cl x hx nx c t y hg
theorem wi_step {es : List Br} {b : Nat} {s : WS × List Nat} (h : WI es b s) : WI es b (stepF es s) := by
  unfold stepF
  by_cases c : s.2 = []
  · rw [if_pos c]; exact h
  · rw [if_neg c]
    have := wj_fold (stF es (s.2.getLastD 0)) [] (wi_begin h c) fun t ht => stF_goes ht
    rw [List.nil_append] at this
    exact wi_end this
theorem wi_iter (es : List Br) (b : Nat) : ∀ n, WI es b (iterF es b n)
  | 0 => wi_start es b
  | n + 1 => wi_step (wi_iter es b n)
def muF (s : WS × List Nat) : Nat := 2 * (20 - s.1.length) + s.2.length
structure Ptm (m : Nat) (es : List Br) : Prop where
  p : ∀ e ∈ es, e.2.1 < m ∧ e.2.2 < m
theorem pt_lt {m : Nat} {es : List Br} {b : Nat} (h : Ptm m es) (hb : b < m) {st : List Stp} {x : Nat} {pts : List Nat} (p : Pt es b st x pts) : x < m := by
  cases p with
  | nil => exact hb
  | snoc _ g _ =>
    obtain ⟨u, v, he, g⟩ := g
    have := h.p _ he
    rcases g with ⟨_, _, rfl⟩ | ⟨_, _, rfl⟩
    · exact this.2
    · exact this.1
theorem key_lt {m : Nat} {es : List Br} {b : Nat} (h : Ptm m es) (hb : b < m) {w : WS} (pt : ∀ x st, (x, st) ∈ w → ∃ pts, Pt es b st x pts ∧ ∀ y ∈ pts, y ∈ wkeys w) : ∀ x ∈ wkeys w, x < m := fun x hx => by
  obtain ⟨st, e⟩ := wget_in hx
  obtain ⟨pts, p, _⟩ := pt x st (wget_some e)
  exact pt_lt h hb p
theorem wk_le {m : Nat} {es : List Br} {b : Nat} (h : Ptm m es) (hb : b < m) {w : WS} (nd : (wkeys w).Nodup) (pt : ∀ x st, (x, st) ∈ w → ∃ pts, Pt es b st x pts ∧ ∀ y ∈ pts, y ∈ wkeys w) : w.length ≤ m := by
  have := nd_le nd (key_lt h hb pt)
  unfold wkeys at this
  rwa [List.length_map] at this
theorem mu_in {es : List Br} {b p m : Nat} {T : List (Stp × Nat)} {s : WS × List Nat} {t : Stp × Nat} (hm : Ptm m es) (hb : b < m) (h20 : m ≤ 20) (h : WJ es b p T s) (g : Goes es t.1 p t.2) : muF (inF p s t) ≤ muF s := by
  have h' := wj_in h g
  have le := wk_le hm hb h'.nd h'.pt
  unfold inF at le ⊢
  by_cases c : t.2 ∈ wkeys s.1
  · rw [if_pos c]; exact Nat.le_refl _
  · rw [if_neg c] at le ⊢
    unfold muF
    simp only [List.length_append, List.length_cons, List.length_nil] at le ⊢
    omega
theorem mu_fold {es : List Br} {b p m : Nat} (hm : Ptm m es) (hb : b < m) (h20 : m ≤ 20) : ∀ (U T : List (Stp × Nat)) {s : WS × List Nat}, WJ es b p T s → (∀ t ∈ U, Goes es t.1 p t.2) → muF (U.foldl (inF p) s) ≤ muF s
  | [], _, _, _, _ => Nat.le_refl _
  | u :: U, T, s, h, g => Nat.le_trans (mu_fold hm hb h20 U (T ++ [u]) (wj_in h (g u (by simp))) fun t ht => g t (List.mem_cons_of_mem _ ht)) (mu_in hm hb h20 h (g u (by simp)))
theorem mu_begin {s : WS × List Nat} (h : s.2 ≠ []) : muF (s.1, s.2.dropLast) + 1 = muF s := by
  have : 0 < s.2.length := List.length_pos_iff.mpr h
  show 2 * (20 - s.1.length) + s.2.dropLast.length + 1 = 2 * (20 - s.1.length) + s.2.length
  rw [List.length_dropLast]
  omega
theorem mu_step {es : List Br} {b m : Nat} {s : WS × List Nat} (hm : Ptm m es) (hb : b < m) (h20 : m ≤ 20) (h : WI es b s) (hq : s.2 ≠ []) : muF (stepF es s) + 1 ≤ muF s := by
  unfold stepF
  rw [if_neg hq]
  have := mu_fold hm hb h20 (stF es (s.2.getLastD 0)) [] (wi_begin h hq) fun t ht => stF_goes ht
  have e := mu_begin hq
  omega
theorem iter_done {es : List Br} {b : Nat} {i : Nat} (h : (iterF es b i).2 = []) : ∀ n, iterF es b (i + n) = iterF es b i
  | 0 => rfl
  | n + 1 => by
    show stepF es (iterF es b (i + n)) = _
    rw [iter_done h n]
    unfold stepF
    rw [if_pos h]
theorem iter_60 {es : List Br} {b i : Nat} (h : (iterF es b i).2 = []) (hi : i ≤ 60) : (iterF es b 60).1 = (iterF es b i).1 := by
  have := iter_done h (60 - i)
  rw [show i + (60 - i) = 60 by omega] at this
  rw [this]
theorem iter_ends {es : List Br} {b m : Nat} (hm : Ptm m es) (hb : b < m) (h20 : m ≤ 20) : ∀ n, (iterF es b n).2 = [] ∨ n + muF (iterF es b n) ≤ 39
  | 0 => .inr (by show 0 + (2 * (20 - 1) + 1) ≤ 39; omega)
  | n + 1 => by
    by_cases c : (iterF es b n).2 = []
    · refine .inl ?_
      show (stepF es (iterF es b n)).2 = []
      unfold stepF
      rw [if_pos c]; exact c
    · rcases iter_ends hm hb h20 n with z | z
      · exact absurd z c
      · have := mu_step hm hb h20 (wi_iter es b n) c
        refine .inr ?_
        show n + 1 + muF (stepF es (iterF es b n)) ≤ 39
        omega
theorem iter_end {es : List Br} {b m : Nat} (hm : Ptm m es) (hb : b < m) (h20 : m ≤ 20) : (iterF es b 60).2 = [] := by
  rcases iter_ends hm hb h20 60 with z | z
  · exact z
  · omega
structure Chain (es : List Br) (b e : Nat) (st : List Stp) (pts : List Nat) : Prop where
  l : pts.length = st.length + 1
  hb : pts[0]? = some b
  he : pts[st.length]? = some e
  g : ∀ i s, st[i]? = some s → ∃ p q, pts[i]? = some p ∧ pts[i + 1]? = some q ∧ Goes es s p q
  n : (st.map (·.1)).Nodup
theorem pt_ends {es : List Br} {b x : Nat} {st : List Stp} {pts : List Nat} (p : Pt es b st x pts) : ∀ s ∈ st, ∃ y z, y ∈ pts ∧ z ∈ pts ∧ Goes es s y z := by
  induction p with
  | nil => intro s h; cases h
  | @snoc st p q pts s h g n ih =>
    intro t ht
    rcases List.mem_append.mp ht with z | z
    · obtain ⟨y, z', h1, h2, h3⟩ := ih t z
      exact ⟨y, z', List.mem_append_left _ h1, List.mem_append_left _ h2, h3⟩
    · have : t = s := by simpa using z
      subst this
      refine ⟨p, q, List.mem_append_left _ ?_, by simp, g⟩
      cases h with
      | nil => simp
      | snoc _ _ _ => simp
theorem wpt_chain {es : List Br} {b x : Nat} {st : List Stp} {pts : List Nat} (ne : (es.map (·.1)).Nodup) (p : Pt es b st x pts) : Chain es b x st pts := by
  induction p with
  | nil => exact ⟨rfl, rfl, rfl, fun i s h => by simp at h, by simp⟩
  | @snoc st p q pts s h g n ih =>
    have l := ih.l
    refine ⟨by rw [List.length_append, List.length_append, l]; rfl, ?_, ?_, fun i t ht => ?_, ?_⟩
    · rw [List.getElem?_append_left (by omega)]; exact ih.hb
    · rw [List.length_append, List.getElem?_append_right (by simp; omega)]
      simp only [List.length_cons, List.length_nil]
      rw [show st.length + (0 + 1) - pts.length = 0 by omega]; rfl
    · by_cases c : i < st.length
      · rw [List.getElem?_append_left c] at ht
        obtain ⟨y, z, h1, h2, h3⟩ := ih.g i t ht
        exact ⟨y, z, by rw [List.getElem?_append_left (by omega)]; exact h1, by rw [List.getElem?_append_left (by omega)]; exact h2, h3⟩
      · have hi : i = st.length := by
          have := (List.getElem?_eq_some_iff.mp ht).1
          simp only [List.length_append, List.length_cons, List.length_nil] at this
          omega
        subst hi
        rw [List.getElem?_append_right (Nat.le_refl _), Nat.sub_self] at ht
        have : s = t := by simpa using ht
        subst this
        refine ⟨p, q, by rw [List.getElem?_append_left (by omega)]; exact ih.he, ?_, g⟩
        rw [List.getElem?_append_right (by omega), show st.length + 1 - pts.length = 0 by omega]; rfl
    · rw [List.map_append, List.nodup_append]
      refine ⟨ih.n, by simp, fun a ha c hc z => ?_⟩
      have hc : c = s.1 := by simpa using hc
      obtain ⟨t, ht, et⟩ := List.mem_map.mp ha
      obtain ⟨y, w, h1, h2, u', v', he', g'⟩ := pt_ends h t ht
      obtain ⟨u, v, he, g⟩ := g
      have same : (t.1, u', v') = (s.1, u, v) := by
        have key : ∀ {l : List Br}, (l.map (·.1)).Nodup → ∀ {a c : Br}, a ∈ l → c ∈ l → a.1 = c.1 → a = c := fun {l} => by
          induction l with
          | nil => intro _ a c h; cases h
          | cons x l ih =>
            intro nd a c ha hc e
            rw [List.map_cons, List.nodup_cons] at nd
            rcases List.mem_cons.mp ha with rfl | z1 <;> rcases List.mem_cons.mp hc with rfl | z2
            · rfl
            · exact absurd (List.mem_map.mpr ⟨c, z2, e.symm⟩) nd.1
            · exact absurd (List.mem_map.mpr ⟨a, z1, e⟩) nd.1
            · exact ih nd.2 z1 z2 e
        exact key ne he' he (by show t.1 = s.1; rw [et, z, hc])
      have e1 : u' = u := by injection same with _ e; injection e
      have e2 : v' = v := by injection same with _ e; injection e
      subst e1; subst e2
      rcases g with ⟨_, rfl, rfl⟩ | ⟨_, rfl, rfl⟩ <;> rcases g' with ⟨_, rfl, rfl⟩ | ⟨_, rfl, rfl⟩
      · exact n h2
      · exact n h1
      · exact n h1
      · exact n h2
theorem way_chain {es : List Br} {b e : Nat} {st : List Stp} (ne : (es.map (·.1)).Nodup) (h : wayF es b e = some st) : ∃ pts, Chain es b e st pts := by
  obtain ⟨pts, p, _⟩ := (wi_iter es b 60).pt e st (wget_some h)
  exact ⟨pts, wpt_chain ne p⟩
theorem chain_len {m : Nat} {es : List Br} {b e : Nat} {st : List Stp} (hm : Ptm m es) (hb : b < m) (h : wayF es b e = some st) : st.length < m := by
  obtain ⟨pts, p, k⟩ := (wi_iter es b 60).pt e st (wget_some h)
  have l : pts.length = st.length + 1 := by
    clear h
    induction p with
    | nil => rfl
    | snoc h g n ih => rw [List.length_append, List.length_append, ih fun y hy => k y (List.mem_append_left _ hy)]; rfl
  have nd : pts.Nodup := by
    clear h k l
    induction p with
    | nil => simp
    | snoc h g n ih =>
      rw [List.nodup_append]
      refine ⟨ih, by simp, fun x hx y hy z => n ?_⟩
      rw [List.mem_singleton] at hy
      rw [← hy, ← z]; exact hx
  have := nd_le nd fun y hy => key_lt hm hb (wi_iter es b 60).pt y (k y hy)
  omega
abbrev Sk := Kd × Nat × Nat
def skl (ds : List RD) : List Sk := ds.map fun d => (d.1, d.2.1.toNat, d.2.2.1.toNat)
abbrev RS := List Br × List (Nat × List Stp)
def ringS (W : Kd → Bool) (s : RS) (k : Nat) (d : Sk) : RS := if W d.1 then (match wayF s.1 d.2.2 d.2.1 with
  | none => (s.1 ++ [(k, d.2.1, d.2.2)], s.2)
  | some st => (s.1, s.2 ++ [(k, (k, 1) :: st)])) else s
def ringF (W : Kd → Bool) (sk : List Sk) : Nat → RS
  | 0 => ([], [])
  | n + 1 => match sk[n]? with
    | none => ringF W sk n
    | some d => ringS W (ringF W sk n) n d
theorem ringF_succ {W : Kd → Bool} {sk : List Sk} {n : Nat} {d : Sk} (h : sk[n]? = some d) : ringF W sk (n + 1) = ringS W (ringF W sk n) n d := by
  show (match sk[n]? with | none => ringF W sk n | some d => ringS W (ringF W sk n) n d) = _
  rw [h]
structure RI (W : Kd → Bool) (sk : List Sk) (m n : Nat) (s : RS) : Prop where
  pt : Ptm m s.1
  nd : (s.1.map (·.1)).Nodup
  lt : ∀ e ∈ s.1, e.1 < n
  at_ : ∀ e ∈ s.1, ∃ k, sk[e.1]? = some (k, e.2.1, e.2.2)
  rl : s.2.length ≤ n
  r : ∀ c ∈ s.2, c.1 < n ∧ ∃ k u v st pts, sk[c.1]? = some (k, u, v) ∧ c.2 = (c.1, 1) :: st ∧ (∀ t ∈ st, t.1 < c.1 ∧ t.1 ∈ s.1.map (·.1)) ∧ Chain s.1 v u st pts ∧ st.length < m
theorem Chain.mono {es es' : List Br} {b e : Nat} {st : List Stp} {pts : List Nat} (h : Chain es b e st pts) (hs : ∀ x ∈ es, x ∈ es') : Chain es' b e st pts :=
  { h with g := fun i s hi => let ⟨p, q, h1, h2, u, v, h3, h4⟩ := h.g i s hi; ⟨p, q, h1, h2, u, v, hs _ h3, h4⟩ }
theorem chain_in {es : List Br} {b e : Nat} {st : List Stp} {pts : List Nat} (h : Chain es b e st pts) : ∀ t ∈ st, t.1 ∈ es.map (·.1) := fun t ht => by
  obtain ⟨i, hi⟩ := List.getElem?_of_mem ht
  obtain ⟨p, q, _, _, u, v, h3, _⟩ := h.g i t hi
  exact List.mem_map.mpr ⟨_, h3, rfl⟩
theorem ringF_ok {W : Kd → Bool} {sk : List Sk} {m : Nat} (hm : ∀ d ∈ sk, d.2.1 < m ∧ d.2.2 < m) : ∀ n, n ≤ sk.length → RI W sk m n (ringF W sk n)
  | 0, _ => ⟨⟨fun e h => (by cases h)⟩, (by show ([] : List Nat).Nodup; simp), fun e h => (by cases h), fun e h => (by cases h), Nat.le_refl _, fun c h => (by cases h)⟩
  | n + 1, hn => by
    have ih := ringF_ok (W := W) hm n (by omega)
    have hd : sk[n]? = some sk[n] := List.getElem?_eq_getElem (by omega)
    rw [ringF_succ hd]
    have pm := hm _ (List.mem_of_getElem? hd)
    generalize sk[n] = d at hd pm
    generalize ringF W sk n = s at ih
    unfold ringS
    by_cases hw : W d.1 = true
    · rw [if_pos hw]
      cases hy : wayF s.1 d.2.2 d.2.1 with
      | none =>
        show RI W sk m (n + 1) (s.1 ++ [(n, d.2.1, d.2.2)], s.2)
        refine ⟨⟨fun e he => ?_⟩, ?_, fun e he => ?_, fun e he => ?_, by have := ih.rl; show s.2.length ≤ n + 1; omega, fun c hc => ?_⟩
        · rcases List.mem_append.mp he with z | z
          · exact ih.pt.p e z
          · have : e = (n, d.2.1, d.2.2) := by simpa using z
            rw [this]; exact pm
        · show ((s.1 ++ [(n, d.2.1, d.2.2)]).map (·.1)).Nodup
          rw [List.map_append, List.nodup_append]
          refine ⟨ih.nd, by simp, fun x hx y hy z => ?_⟩
          have : y = n := by simpa using hy
          obtain ⟨e, he, ee⟩ := List.mem_map.mp hx
          have := ih.lt e he
          omega
        · rcases List.mem_append.mp he with z | z
          · have := ih.lt e z; omega
          · have : e = (n, d.2.1, d.2.2) := by simpa using z
            rw [this]; exact Nat.lt_succ_self n
        · rcases List.mem_append.mp he with z | z
          · exact ih.at_ e z
          · have : e = (n, d.2.1, d.2.2) := by simpa using z
            rw [this]; exact ⟨d.1, hd⟩
        · obtain ⟨h1, k, u, v, st, pts, h2, h3, h4, h5, h6⟩ := ih.r c hc
          refine ⟨by omega, k, u, v, st, pts, h2, h3, fun t ht => ⟨(h4 t ht).1, ?_⟩, h5.mono fun x hx => List.mem_append_left _ hx, h6⟩
          show t.1 ∈ (s.1 ++ [(n, d.2.1, d.2.2)]).map (·.1)
          rw [List.map_append]; exact List.mem_append_left _ (h4 t ht).2
      | some st =>
        show RI W sk m (n + 1) (s.1, s.2 ++ [(n, (n, 1) :: st)])
        refine ⟨ih.pt, ih.nd, fun e he => Nat.lt_succ_of_lt (ih.lt e he), ih.at_, by have := ih.rl; show (s.2 ++ [(n, (n, 1) :: st)]).length ≤ n + 1; rw [List.length_append]; simp only [List.length_cons, List.length_nil]; omega, fun c hc => ?_⟩
        rcases List.mem_append.mp hc with z | z
        · obtain ⟨h1, r⟩ := ih.r c z
          exact ⟨by omega, r⟩
        · have : c = (n, (n, 1) :: st) := by simpa using z
          subst this
          obtain ⟨pts, ch⟩ := way_chain ih.nd hy
          refine ⟨Nat.lt_succ_self n, d.1, d.2.1, d.2.2, st, pts, hd, rfl, fun t ht => ?_, ch, chain_len ih.pt pm.2 hy⟩
          have ti := chain_in ch t ht
          obtain ⟨e, he, ee⟩ := List.mem_map.mp ti
          have := ih.lt e he
          exact ⟨by show t.1 < n; omega, ti⟩
    · rw [if_neg hw]
      exact ⟨ih.pt, ih.nd, fun e he => Nat.lt_succ_of_lt (ih.lt e he), ih.at_, by have := ih.rl; omega, fun c hc => let ⟨h1, r⟩ := ih.r c hc; ⟨by omega, r⟩⟩
end L2

set_option Elab.async false
set_option linter.all false
set_option maxHeartbeats 2000000
namespace L2
open PySem PySem.Spec PyProof.Rows
theorem SqT.updD {K : PySem.W.Frag} {H : Hp} {a l : Addr} {xs : List V} {kvs : List (Key × V)} {o : HO} (h : SqT K H a xs) (hl : H l = some (.dK kvs)) : SqT K (L2.upd H l o) a xs := by
  rcases h with (h | ⟨u, h⟩) | h
  · exact .inl (.inl (by rw [upd_ne (ne_of h hl (fun z => by cases z))]; exact h))
  · exact .inl (.inr ⟨u, by rw [upd_ne (ne_of h hl (fun z => by cases z))]; exact h⟩)
  · exact .inr h
inductive Sts (K : PySem.W.Frag) (H : Hp) : List V → List Stp → Prop where
  | nil : Sts K H [] []
  | cons {t : Addr} {n : Nat} {w : Int} {xs : List V} {st : List Stp} (h : SqT K H t [.int (n : Int), .int w]) (q : Sts K H xs st) : Sts K H (.ref t :: xs) ((n, w) :: st)
section
variable {K : PySem.W.Frag} {H H' : Hp}
theorem Sts.same (e : Same H H') : ∀ {xs : List V} {st : List Stp}, Sts K H xs st → Sts K H' xs st
  | _, _, .nil => .nil
  | _, _, .cons h q => .cons (e.seqT h) (Sts.same e q)
theorem Sts.length : ∀ {xs : List V} {st : List Stp}, Sts K H xs st → xs.length = st.length
  | _, _, .nil => rfl
  | _, _, .cons _ q => by simp [Sts.length q]
theorem Sts.app : ∀ {xs ys : List V} {st su : List Stp}, Sts K H xs st → Sts K H ys su → Sts K H (xs ++ ys) (st ++ su)
  | _, _, _, _, .nil, r => r
  | _, _, _, _, .cons h q, r => .cons h (Sts.app q r)
theorem Sts.get : ∀ {xs : List V} {st : List Stp} {i : Nat} {x : V}, Sts K H xs st → xs[i]? = some x → ∃ t s, x = .ref t ∧ st[i]? = some s ∧ SqT K H t [.int (s.1 : Int), .int s.2]
  | _, _, _, _, .nil, h => by simp at h
  | _, _, 0, _, .cons h _, e => by simp at e; subst e; exact ⟨_, _, rfl, rfl, h⟩
  | _, _, i + 1, _, .cons _ q, e => by simpa using Sts.get q (by simpa using e)
theorem Sts.upd {l : Addr} {ys : List V} {o : HO} (hl : H l = some (.lst ys)) : ∀ {xs : List V} {st : List Stp}, Sts K H xs st → Sts K (L2.upd H l o) xs st
  | _, _, .nil => .nil
  | _, _, .cons h q => .cons (SqT.upd h hl) (Sts.upd hl q)
theorem Sts.updD {l : Addr} {kvs : List (Key × V)} {o : HO} (hl : H l = some (.dK kvs)) : ∀ {xs : List V} {st : List Stp}, Sts K H xs st → Sts K (L2.upd H l o) xs st
  | _, _, .nil => .nil
  | _, _, .cons h q => .cons (SqT.updD h hl) (Sts.updD hl q)
end
inductive Sds (K : PySem.W.Frag) (H : Hp) : List V → List (Stp × Nat) → Prop where
  | nil : Sds K H [] []
  | cons {t s : Addr} {n x : Nat} {w : Int} {xs : List V} {st : List (Stp × Nat)} (h : SqT K H t [.ref s, .int (x : Int)]) (g : SqT K H s [.int (n : Int), .int w]) (q : Sds K H xs st) : Sds K H (.ref t :: xs) (((n, w), x) :: st)
section
variable {K : PySem.W.Frag} {H H' : Hp}
theorem Sds.same (e : Same H H') : ∀ {xs : List V} {st : List (Stp × Nat)}, Sds K H xs st → Sds K H' xs st
  | _, _, .nil => .nil
  | _, _, .cons h g q => .cons (e.seqT h) (e.seqT g) (Sds.same e q)
theorem Sds.length : ∀ {xs : List V} {st : List (Stp × Nat)}, Sds K H xs st → xs.length = st.length
  | _, _, .nil => rfl
  | _, _, .cons _ _ q => by simp [Sds.length q]
theorem Sds.app : ∀ {xs ys : List V} {st su : List (Stp × Nat)}, Sds K H xs st → Sds K H ys su → Sds K H (xs ++ ys) (st ++ su)
  | _, _, _, _, .nil, r => r
  | _, _, _, _, .cons h g q, r => .cons h g (Sds.app q r)
theorem Sds.get : ∀ {xs : List V} {st : List (Stp × Nat)} {i : Nat} {x : V}, Sds K H xs st → xs[i]? = some x → ∃ t u s, x = .ref t ∧ st[i]? = some s ∧ SqT K H t [.ref u, .int (s.2 : Int)] ∧ SqT K H u [.int (s.1.1 : Int), .int s.1.2]
  | _, _, _, _, .nil, h => by simp at h
  | _, _, 0, _, .cons h g _, e => by simp at e; subst e; exact ⟨_, _, _, rfl, rfl, h, g⟩
  | _, _, i + 1, _, .cons _ _ q, e => by simpa using Sds.get q (by simpa using e)
theorem Sds.upd {l : Addr} {ys : List V} {o : HO} (hl : H l = some (.lst ys)) : ∀ {xs : List V} {st : List (Stp × Nat)}, Sds K H xs st → Sds K (L2.upd H l o) xs st
  | _, _, .nil => .nil
  | _, _, .cons h g q => .cons (SqT.upd h hl) (SqT.upd g hl) (Sds.upd hl q)
theorem Sds.updD {l : Addr} {kvs : List (Key × V)} {o : HO} (hl : H l = some (.dK kvs)) : ∀ {xs : List V} {st : List (Stp × Nat)}, Sds K H xs st → Sds K (L2.upd H l o) xs st
  | _, _, .nil => .nil
  | _, _, .cons h g q => .cons (SqT.updD h hl) (SqT.updD g hl) (Sds.updD hl q)
end
inductive Wys (K : PySem.W.Frag) (H0 : Hp) (W : Addr) (H : Hp) : List (Key × V) → WS → Prop where
  | nil : Wys K H0 W H [] []
  | cons {a : Addr} {x : Nat} {xs : List V} {st : List Stp} {kvs : List (Key × V)} {w : WS} (n : H0 a = none) (nw : a ≠ W) (h : H a = some (.lst xs)) (f : Sts K H xs st) (q : Wys K H0 W H kvs w) : Wys K H0 W H ((Sum.inl (x : Int), .ref a) :: kvs) ((x, st) :: w)
section
variable {K : PySem.W.Frag} {H0 H H' : Hp} {W : Addr}
theorem Wys.same (e : Same H H') : ∀ {kvs : List (Key × V)} {w : WS}, Wys K H0 W H kvs w → Wys K H0 W H' kvs w
  | _, _, .nil => .nil
  | _, _, .cons n nw h f q => .cons n nw (e _ _ h) (f.same e) (Wys.same e q)
theorem Wys.updW {ys : List V} {o : HO} (hl : H W = some (.lst ys)) : ∀ {kvs : List (Key × V)} {w : WS}, Wys K H0 W H kvs w → Wys K H0 W (L2.upd H W o) kvs w
  | _, _, .nil => .nil
  | _, _, .cons n nw h f q => .cons n nw (by rw [upd_ne nw]; exact h) (f.upd hl) (Wys.updW hl q)
theorem Wys.updD {D : Addr} {kv : List (Key × V)} {o : HO} (hl : H D = some (.dK kv)) : ∀ {kvs : List (Key × V)} {w : WS}, Wys K H0 W H kvs w → Wys K H0 W (L2.upd H D o) kvs w
  | _, _, .nil => .nil
  | _, _, .cons n nw h f q => .cons n nw (by rw [upd_ne (ne_of h hl (fun z => by cases z))]; exact h) (f.updD hl) (Wys.updD hl q)
theorem Wys.length : ∀ {kvs : List (Key × V)} {w : WS}, Wys K H0 W H kvs w → kvs.length = w.length
  | _, _, .nil => rfl
  | _, _, .cons _ _ _ _ q => by simp [Wys.length q]
theorem Wys.snoc {a : Addr} {x : Nat} {xs : List V} {st : List Stp} (n : H0 a = none) (nw : a ≠ W) (h : H a = some (.lst xs)) (f : Sts K H xs st) : ∀ {kvs : List (Key × V)} {w : WS}, Wys K H0 W H kvs w → Wys K H0 W H (kvs ++ [(Sum.inl (x : Int), .ref a)]) (w ++ [(x, st)])
  | _, _, .nil => .cons n nw h f .nil
  | _, _, .cons n' nw' h' f' q => .cons n' nw' h' f' (Wys.snoc n nw h f q)
theorem Wys.none_ {p : Nat} : ∀ {kvs : List (Key × V)} {w : WS}, Wys K H0 W H kvs w → p ∉ wkeys w → valV kvs (Sum.inl (p : Int)) = none ∧ (kvs.any fun kv => decide (kv.1 = Sum.inl (p : Int))) = false
  | _, _, .nil, _ => ⟨rfl, rfl⟩
  | _, _, .cons (x := x) (kvs := kvs) (w := w) n nw h f q, hp => by
    have hx : x ≠ p := fun z => hp (by rw [← z]; exact List.mem_cons_self ..)
    obtain ⟨h1, h2⟩ := Wys.none_ q fun z => hp (List.mem_cons_of_mem _ z)
    refine ⟨by rw [valV_neg (fun z => hx (Int.ofNat.inj (Sum.inl.inj z)))]; exact h1, ?_⟩
    rw [List.any_cons, h2]
    have e : decide ((Sum.inl (x : Int) : Key) = Sum.inl (p : Int)) = false := decide_eq_false fun z => hx (Int.ofNat.inj (Sum.inl.inj z))
    show (decide ((Sum.inl (x : Int) : Key) = Sum.inl (p : Int)) || false) = false
    rw [e]; rfl
theorem Wys.some_ {p : Nat} : ∀ {kvs : List (Key × V)} {w : WS}, Wys K H0 W H kvs w → p ∈ wkeys w → ∃ a xs st, valV kvs (Sum.inl (p : Int)) = some (.ref a) ∧ wget w p = some st ∧ H0 a = none ∧ a ≠ W ∧ H a = some (.lst xs) ∧ Sts K H xs st
  | _, _, .nil, h => by cases h
  | _, _, .cons (a := a) (x := x) (xs := xs) (st := st) (kvs := kvs) (w := w) n nw h f q, hp => by
    by_cases c : x = p
    · subst c
      exact ⟨a, xs, st, by rw [valV_pos rfl], by unfold wget; rw [if_pos rfl], n, nw, h, f⟩
    · have hp' : p ∈ wkeys w := by
        rcases List.mem_cons.mp hp with z | z
        · exact absurd z.symm c
        · exact z
      obtain ⟨a', xs', st', h1, h2, r⟩ := Wys.some_ q hp'
      exact ⟨a', xs', st', by rw [valV_neg (fun z => c (Int.ofNat.inj (Sum.inl.inj z)))]; exact h1, by unfold wget; rw [if_neg c]; exact h2, r⟩
theorem Wys.isSome {p : Nat} {kvs : List (Key × V)} {w : WS} (h : Wys K H0 W H kvs w) : (valV kvs (Sum.inl (p : Int))).isSome = decide (p ∈ wkeys w) := by
  by_cases c : p ∈ wkeys w
  · obtain ⟨a, xs, st, e, _⟩ := h.some_ c
    rw [e, decide_eq_true c]; rfl
  · rw [(h.none_ c).1, decide_eq_false c]; rfl
end
structure Rgs (K : PySem.W.Frag) (H0 H : Hp) (us : List V) (X : List (List Stp)) : Prop where
  l : us.length = X.length
  r : ∀ (i : Nat) (x : V) (st : List Stp), us[i]? = some x → X[i]? = some st → ∃ (a : Addr) (xs : List V), x = .ref a ∧ H0 a = none ∧ H a = some (.lst xs) ∧ Sts K H xs st
theorem Rgs.nil {K : PySem.W.Frag} {H0 H : Hp} : Rgs K H0 H [] [] := ⟨rfl, fun i x st h => by simp at h⟩
theorem Rgs.same {K : PySem.W.Frag} {H0 H H' : Hp} {us : List V} {X : List (List Stp)} (e : Same H H') (f : Rgs K H0 H us X) : Rgs K H0 H' us X := ⟨f.l, fun i x st h1 h2 => let ⟨a, xs, e1, n, h, s⟩ := f.r i x st h1 h2; ⟨a, xs, e1, n, e _ _ h, s.same e⟩⟩
theorem Rgs.snoc {K : PySem.W.Frag} {H0 H : Hp} {us : List V} {X : List (List Stp)} {a : Addr} {xs : List V} {st : List Stp} (f : Rgs K H0 H us X) (n : H0 a = none) (h : H a = some (.lst xs)) (s : Sts K H xs st) : Rgs K H0 H (us ++ [.ref a]) (X ++ [st]) := by
  refine ⟨by rw [List.length_append, List.length_append, f.l]; rfl, fun i x qs h1 h2 => ?_⟩
  have l := f.l
  by_cases c : i < us.length
  · rw [List.getElem?_append_left c] at h1
    rw [List.getElem?_append_left (by omega)] at h2
    exact f.r i x qs h1 h2
  · have hi : i = us.length := by
      have := (List.getElem?_eq_some_iff.mp h1).1
      rw [List.length_append] at this
      simp only [List.length_cons, List.length_nil] at this
      omega
    subst hi
    rw [List.getElem?_append_right (Nat.le_refl _), Nat.sub_self] at h1
    rw [List.getElem?_append_right (by omega), show us.length - X.length = 0 by omega] at h2
    cases h1
    cases h2
    exact ⟨a, xs, rfl, n, h, s⟩
theorem Rgs.updO {K : PySem.W.Frag} {H0 H : Hp} {us : List V} {X : List (List Stp)} {l : Addr} {ys : List V} {o : HO} (f : Rgs K H0 H us X) (hl : H l = some (.lst ys)) (n : ∀ x ∈ us, x ≠ .ref l) : Rgs K H0 (upd H l o) us X := ⟨f.l, fun i x st h1 h2 => let ⟨a, xs, e1, n1, h, s⟩ := f.r i x st h1 h2; ⟨a, xs, e1, n1, by rw [upd_ne (fun z => n x (List.mem_of_getElem? h1) (by rw [e1, z]))]; exact h, s.upd hl⟩⟩
def BrOk (ds : List RD) (es : List Br) : Prop := ∀ e ∈ es, ∃ d, ds[e.1]? = some d ∧ d.2.1 = (e.2.1 : Int) ∧ d.2.2.1 = (e.2.2 : Int)
def spSteps (K : PySem.W.Frag) (CK : Kd → Addr) : Sp := fun vs H Q _ => ∃ (a b : Addr) (xs : List V) (ds : List RD) (es : List Br) (p : Nat), vs = [.ref a, .ref b, .int (p : Int)] ∧ SqL K H a xs ∧ Robs CK K H xs ds ∧ SqL K H b (es.map fun e => V.int (e.1 : Int)) ∧ BrOk ds es ∧ es.length ≤ 100 ∧ ∀ l ys H', Same H H' → H l = none → H' l = some (.lst ys) → Sds K H' ys (stF es p) → Q (.ref l) H'
def spWay (K : PySem.W.Frag) (CK : Kd → Addr) : Sp := fun vs H Q _ => ∃ (a b : Addr) (xs : List V) (ds : List RD) (es : List Br) (m f t : Nat), vs = [.ref a, .ref b, .int (f : Int), .int (t : Int)] ∧ SqL K H a xs ∧ Robs CK K H xs ds ∧ SqL K H b (es.map fun e => V.int (e.1 : Int)) ∧ BrOk ds es ∧ es.length ≤ 100 ∧ Ptm m es ∧ m ≤ 20 ∧ f < m ∧
  (wayF es f t = none → ∀ H', Same H H' → Q .non H') ∧ ∀ st, wayF es f t = some st → ∀ l ys H', Same H H' → H l = none → H' l = some (.lst ys) → Sts K H' ys st → Q (.ref l) H'
inductive Wds (K : PySem.W.Frag) (H : Hp) : V → (Kd → Bool) → Prop where
  | non : Wds K H .non (fun k => decide (k ≠ .pu))
  | seq {a : Addr} {ws : List V} (h : SqL K H a ws) (f : ws.all flatV = true) : Wds K H (.ref a) (fun k => inV (.str k.wd) ws)
def spRings (CN : Addr) (K : PySem.W.Frag) : Sp := fun vs H Q _ => ∃ (n l : Addr) (v : V) (m : Nat) (ds : List RD) (W : Kd → Bool), vs = [.ref n, v] ∧ NetAt CN K H n l (m : Int) ds ∧ (∀ d ∈ ds, PtOk (m : Int) d.2.1 d.2.2.1) ∧ m ≤ 20 ∧ ds.length ≤ 40 ∧ Wds K H v W ∧ ∀ r us H', Same H H' → H r = none → H' r = some (.lst us) → Rgs K H H' us ((ringF W (skl ds) ds.length).2.map (·.2)) → (∀ x ∈ us, x ≠ .ref r) → Q (.ref r) H'
end L2

set_option Elab.async false
set_option linter.all false
set_option maxHeartbeats 1000000
namespace Mq
end Mq
namespace L2
open PySem PySem.Spec PyProof.Rows
abbrev RE := RD × Mq.Q2
section
variable {CK : Kd → Addr} {K : PySem.W.Frag} {H H' : Hp}
end
section
variable {m n : Nat} {hp : List Mq.Q2} {d : RD} {e : RE}
end
end L2

set_option Elab.async false
set_option linter.all false
set_option maxRecDepth 100000
set_option maxHeartbeats 4000000
namespace K71
open PySem L2
def top (i : Nat) : Stmt := PySem.Challenge.pw_ohmyard_k71_blocks.main.body.getD i (.Pass ⟨0, 0, 0, 0⟩)
section
variable {P : Program} {w : World} {K : PySem.W.Frag} {mg : Str → Option Value} {base : Heap} {f g1 g2 g3 g4 g5 g6 g7 g8 : Addr} {fd gd1 gd2 gd3 gd4 gd5 gd6 gd7 gd8 : FuncData} {CX : CXT}
abbrev sWhole : Stmt := top 10
theorem scWhole : FnScope ["thing"] ["thing"] (defScope sWhole) := ⟨rfl, rfl, rfl, by decide +kernel, rfl, by decide +kernel, by decide +kernel⟩
theorem ok_whole {dV : Value} (F : FunD K "is_whole" "is_whole" sWhole dV f fd) (b : Bl mg) : FnOk P w K mg base CX 1 f fd ["thing"] (spWhole K) := by
  refine F.ok scWhole (fun vs H Q E h => ?_) (fun cdv A outer s H vs Q E hr h => ?_)
  · obtain ⟨x, rfl, _⟩ := h
    rfl
  obtain ⟨x, rfl, h⟩ := h
  refine ⟨_, pss_one (ps_ret (pe_and (pe_isiQ (i := 0) rfl (Or.inl rfl) b.isi b.int rfl rfl PyProof.Rows.boot_int) (pe_one (pe_not (pe_isiQ (i := 0) rfl (Or.inl rfl) b.isi b.bool rfl rfl PyProof.Rows.boot_bool))))), ?_⟩
  rcases h with ⟨i, rfl, q⟩ | ⟨t, ty, nw, q⟩
  · exact ⟨_, _, _, rfl, .of (.int i), rfl, _, rfl, iteT ⟨_, _, false, rfl, .of (.int i), (by with_unfolding_all rfl), _, rfl, q⟩⟩
  · rcases nw with rfl | rfl | rfl | rfl | rfl
    · exact ⟨_, _, true, rfl, .of ty, (by with_unfolding_all rfl), _, rfl, iteT ⟨_, _, _, rfl, .of ty, rfl, _, rfl, q⟩⟩
    all_goals exact ⟨_, _, false, rfl, .of ty, (by with_unfolding_all rfl), _, rfl, iteF q⟩
abbrev sGc : Stmt := top 12
theorem scGc : FnScope ["one", "other", "rest"] ["one", "other"] (defScope sGc) := ⟨rfl, rfl, rfl, by decide +kernel, rfl, by decide +kernel, by decide +kernel⟩
theorem ok_gc {dV : Value} (F : FunD K "greatest_common" "greatest_common" sGc dV f fd) (b : Bl mg) : FnOk P w K mg base CX 1 f fd ["one", "other"] spGc := by
  refine F.ok scGc (fun vs H Q E h => ?_) (fun cdv A outer s H vs Q E hr h => ?_)
  · obtain ⟨x, y, rfl, _⟩ := h
    rfl
  obtain ⟨x, y, rfl, q⟩ := h
  refine ⟨_, pss_cons (ps_while PassesOwn.never (pt_cmpR op_ne (pv 1) pe_int (nomark _)) (pss_cons (ps_set (i := 2) scGc.nd rfl (Or.inl rfl) (pe_op op_modN (pv 0) (pv 1)))
    (pss_cons (ps_set (i := 0) scGc.nd rfl (Or.inl rfl) (pv 1)) (pss_one (ps_set (i := 1) scGc.nd rfl (Or.inl rfl) (pv 2))))))
    (pss_one (ps_ret (pe_callB call_abs rfl b.abs PyProof.Rows.boot_abs (pa_cons (pv 0) pa_nil)))), ?_⟩
  refine while_by (fun σ H' => H' = H ∧ ∃ u v z, σ = [some (.int u), some (.int v), z] ∧ Mq.gc u v = Mq.gc x y) (fun σ _ => match σ with | [_, some (.int v), _] => v.natAbs | _ => 0) ⟨rfl, x, y, none, rfl, rfl⟩ ?_ ?_
  · rintro σ H' ⟨rfl, u, v, z, rfl, e⟩
    refine ⟨_, rfl, rfl, _, rfl, ?_⟩
    refine ite2 (fun c => ?_) (fun c => ?_)
    · have hv : v ≠ 0 := by intro q; subst q; simp at c
      refine ⟨_, rfl, _, rfl, _, _, rfl, rfl, hv, _, rfl, _, rfl, ⟨rfl, v, Int.fmod u v, _, rfl, (Mq.gc_step u v).trans e⟩, Mq.fmod_less hv⟩
    · have hv : v = 0 := by
        simp at c
        exact c
      subst hv
      refine ⟨_, rfl, _, rfl, ?_⟩
      rw [← Mq.gc_zero, e]
      exact q
  · rintro σ H Q Q' m ⟨v, h1, h2, k, h3, h4⟩
    exact ⟨v, h1, h2, k, h3, m _ _ h4⟩
abbrev sUnder : Stmt := top 13
theorem scUnder : FnScope ["one", "other"] ["one", "other"] (defScope sUnder) := ⟨rfl, rfl, rfl, by decide +kernel, rfl, by decide +kernel, by decide +kernel⟩
theorem ok_under {dV : Value} (F : FunD K "under" "under" sUnder dV f fd) : FnOk P w K mg base CX 1 f fd ["one", "other"] (spUnder K) := by
  refine F.ok scUnder (fun vs H Q E h => ?_) (fun cdv A outer s H vs Q E hr h => ?_)
  · obtain ⟨a, b, p, q, n, m, rfl, _⟩ := h
    rfl
  obtain ⟨a, b, p, q, n, m, rfl, ha, hb, bp, bq, hn, z⟩ := h
  refine ⟨_, pss_one (ps_ret (pe_cmpR op_lt (pe_op op_mulB (pe_ix ix_tup (pv 0) pe_int (fun _ _ => rfl)) (pe_ix ix_tup (pv 1) pe_int (fun _ _ => rfl))) (pe_op op_mulB (pe_ix ix_tup (pv 1) pe_int (fun _ _ => rfl)) (pe_ix ix_tup (pv 0) pe_int (fun _ _ => rfl))) (nomark _))), ?_⟩
  exact rd_ix0 rfl ha (rd_ix1 rfl hb (rd_mulB bp.a bq.b (by omega) (by omega) (rd_ix0 rfl hb (rd_ix1 rfl ha (rd_mulB bq.a bp.b (by omega) (by omega) ⟨_, _, rfl, rfl, z⟩)))))
variable {CR : Addr} {CK : Kd → Addr} {fW fJ fT fS : Kd → Addr} {fdW fdJ fdT fdS : Kd → FuncData}
abbrev sRInit : Stmt := inClass (top 20) 0
theorem scRInit : FnScope ["self", "start", "goal", "size"] ["self", "start", "goal", "size"] (defScope sRInit) := ⟨rfl, rfl, rfl, by decide +kernel, rfl, by decide +kernel, by decide +kernel⟩
theorem ok_rinit {dV : Value} (F : FunD K "__init__" "Row.__init__" sRInit dV f fd) (T : RT K mg CR CK) : FnOk P w K mg base CX 1 f fd ["self", "start", "goal", "size"] (spRInit CK) := by
  refine F.ok scRInit (fun vs H Q E h => ?_) (fun cdv A outer s H vs Q E hr h => ?_)
  · obtain ⟨x, dx, k, s, g, z, rfl, _⟩ := h
    rfl
  obtain ⟨x, dx, k, s, g, z, rfl, hx, q⟩ := h
  refine ⟨_, (pss_cons (ps_fld (pv 0) (pv 1) rfl) (pss_cons (ps_fld (pv 0) (pv 2) rfl) (pss_one (ps_fld (pv 0) (pv 3) rfl)))), ?_⟩
  have l1 := length_putF ("start" : Str) s []
  have l2 := length_putF ("goal" : Str) g (putF "start" s [])
  simp only [List.length_nil] at l1
  refine ⟨_, rfl, _, rfl, x, CK k, dx, [], rfl, hx, T.cl k, T.nS k, (by show 0 < 1000; decide), ?_⟩
  refine ⟨_, rfl, _, rfl, x, CK k, dx, _, rfl, upd_same, T.cl k, T.nG k, by omega, ?_⟩
  refine ⟨_, rfl, _, rfl, x, CK k, dx, _, rfl, upd_same, T.cl k, T.nZ k, by omega, ?_⟩
  rw [upd_upd, upd_upd]
  exact q
abbrev sWord_pc : Stmt := inClass (top 21) 0
theorem scWord_pc : FnScope ["self"] ["self"] (defScope sWord_pc) := ⟨rfl, rfl, rfl, by decide +kernel, rfl, by decide +kernel, by decide +kernel⟩
theorem ok_word_pc {dV : Value} (F : FunD K "word" "Piece.word" sWord_pc dV f fd) : FnOk P w K mg base CX 1 f fd ["self"] (spWord .pc) := by
  refine F.ok scWord_pc (fun vs H Q E h => ?_) (fun cdv A outer s H vs Q E hr h => ?_)
  · obtain ⟨x, rfl, _⟩ := h
    rfl
  obtain ⟨x, rfl, q⟩ := h
  exact ⟨_, (pss_one (ps_ret pe_str)), q⟩
abbrev sWord_pu : Stmt := inClass (top 22) 0
theorem scWord_pu : FnScope ["self"] ["self"] (defScope sWord_pu) := ⟨rfl, rfl, rfl, by decide +kernel, rfl, by decide +kernel, by decide +kernel⟩
theorem ok_word_pu {dV : Value} (F : FunD K "word" "Push.word" sWord_pu dV f fd) : FnOk P w K mg base CX 1 f fd ["self"] (spWord .pu) := by
  refine F.ok scWord_pu (fun vs H Q E h => ?_) (fun cdv A outer s H vs Q E hr h => ?_)
  · obtain ⟨x, rfl, _⟩ := h
    rfl
  obtain ⟨x, rfl, q⟩ := h
  exact ⟨_, (pss_one (ps_ret pe_str)), q⟩
abbrev sWord_ho : Stmt := inClass (top 23) 0
theorem scWord_ho : FnScope ["self"] ["self"] (defScope sWord_ho) := ⟨rfl, rfl, rfl, by decide +kernel, rfl, by decide +kernel, by decide +kernel⟩
theorem ok_word_ho {dV : Value} (F : FunD K "word" "Hold.word" sWord_ho dV f fd) : FnOk P w K mg base CX 1 f fd ["self"] (spWord .ho) := by
  refine F.ok scWord_ho (fun vs H Q E h => ?_) (fun cdv A outer s H vs Q E hr h => ?_)
  · obtain ⟨x, rfl, _⟩ := h
    rfl
  obtain ⟨x, rfl, q⟩ := h
  exact ⟨_, (pss_one (ps_ret pe_str)), q⟩
abbrev sRTold : Stmt := inClass (top 20) 1
theorem scRTold : FnScope ["self"] ["self"] (defScope sRTold) := ⟨rfl, rfl, rfl, by decide +kernel, rfl, by decide +kernel, by decide +kernel⟩
theorem ok_rtold {dV : Value} (F : FunD K "told" "Row.told" sRTold dV f fd) (T : RT K mg CR CK)
    (GW : ∀ k, FnOk P w K mg base CX0 1 (fW k) (fdW k) ["self"] (spWord k)) (bW : ∀ k, Binds K (fdW k) ["self"] []) (mW : ∀ k, Meth K (CK k) "word" (fW k)) : FnOk P w K mg base CX 2 f fd ["self"] (spRTold CK) := by
  refine F.ok scRTold (fun vs H Q E h => ?_) (fun cdv A outer s H vs Q E hr h => ?_)
  · obtain ⟨x, k, s, g, z, rfl, _⟩ := h
    rfl
  obtain ⟨x, k, s, g, z, rfl, ⟨dx, hx⟩, q⟩ := h
  refine ⟨_, (pss_one (ps_ret (pe_tup (pa_cons (pe_methD0 (pv 0) T.cl mW GW hr bW .nil pass0) (pa_cons (pe_fld (pv 0) rfl) (pa_cons (pe_fld (pv 0) rfl) (pa_cons (pe_fld (pv 0) rfl) pa_nil))))))), ?_⟩
  refine ⟨_, rfl, k, x, dx, _, rfl, hx, (rflds_no _ _ _ (by decide +kernel) (by decide +kernel) (by decide +kernel)), _, rfl, ?_⟩
  refine ⟨_, rfl, x, CK k, dx, _, _, rfl, hx, T.cl k, T.nS k, rflds_start _ _ _, ?_⟩
  refine ⟨_, rfl, x, CK k, dx, _, _, rfl, hx, T.cl k, T.nG k, rflds_goal _ _ _, ?_⟩
  refine ⟨_, rfl, x, CK k, dx, _, _, rfl, hx, T.cl k, T.nZ k, rflds_size _ _ _, ?_⟩
  exact ⟨by show 4 ≤ sizeLine; decide, q⟩
abbrev sRowOf : Stmt := top 24
theorem scRowOf : FnScope ["told", "word"] ["told"] (defScope sRowOf) := ⟨rfl, rfl, rfl, by decide +kernel, rfl, by decide +kernel, by decide +kernel⟩
theorem ok_rowof {dV : Value} {gI : Addr} {gdI : FuncData} (F : FunD K "row_of" "row_of" sRowOf dV f fd) (T : RT K mg CR CK) (b : Bl mg) (ms : mg "str" = none)
    (GI : FnOk P w K mg base CX0 1 gI gdI ["self", "start", "goal", "size"] (spRInit CK)) (bI : Binds K gdI ["self", "start", "goal", "size"] []) (MK : ∀ k, Mk K (CK k) gI) : FnOk P w K mg base CX 3 f fd ["told"] (spRowOfG K CK) := by
  refine F.ok scRowOf (fun vs H Q E h => ?_) (fun cdv A outer s H vs Q E hr h => ?_)
  · obtain ⟨t, v, s, g, z, rfl, _⟩ := h
    rfl
  obtain ⟨t, v, s, g, z, rfl, hT, k, rfl, q⟩ := h
  refine ⟨_, (pss_cons (ps_set (i := 1) scRowOf.nd rfl (Or.inl rfl) (pe_ix ix_tup (pv 0) pe_int (fun _ _ => rfl)))
    (pss_cons (ps_if (PW.pt (pw_and (pt_val (pe_isiQ (i := 1) rfl (Or.inl rfl) b.isi ms rfl rfl PyProof.Rows.boot_str)) (pw_and1 (pt_cmpR op_eq (pv 1) pe_str (nomark _))))) (pss_one (ps_ret (pe_make (MK .pc) GI hr rfl (T.mK .pc) bI .nil pass0 (pa_cons (pe_ix ix_tup (pv 0) pe_int (fun _ _ => rfl)) (pa_cons (pe_ix ix_tup (pv 0) pe_int (fun _ _ => rfl)) (pa_cons (pe_ix ix_tup (pv 0) pe_int (fun _ _ => rfl)) pa_nil)))))) pss_nil)
    (pss_cons (ps_if (PW.pt (pw_and (pt_val (pe_isiQ (i := 1) rfl (Or.inl rfl) b.isi ms rfl rfl PyProof.Rows.boot_str)) (pw_and1 (pt_cmpR op_eq (pv 1) pe_str (nomark _))))) (pss_one (ps_ret (pe_make (MK .pu) GI hr rfl (T.mK .pu) bI .nil pass0 (pa_cons (pe_ix ix_tup (pv 0) pe_int (fun _ _ => rfl)) (pa_cons (pe_ix ix_tup (pv 0) pe_int (fun _ _ => rfl)) (pa_cons (pe_ix ix_tup (pv 0) pe_int (fun _ _ => rfl)) pa_nil)))))) pss_nil)
    (pss_cons (ps_if (PW.pt (pw_and (pt_val (pe_isiQ (i := 1) rfl (Or.inl rfl) b.isi ms rfl rfl PyProof.Rows.boot_str)) (pw_and1 (pt_cmpR op_eq (pv 1) pe_str (nomark _))))) (pss_one (ps_ret (pe_make (MK .ho) GI hr rfl (T.mK .ho) bI .nil pass0 (pa_cons (pe_ix ix_tup (pv 0) pe_int (fun _ _ => rfl)) (pa_cons (pe_ix ix_tup (pv 0) pe_int (fun _ _ => rfl)) (pa_cons (pe_ix ix_tup (pv 0) pe_int (fun _ _ => rfl)) pa_nil)))))) pss_nil)
    (pss_one ps_never))))), ?_⟩
  cases k
  · refine cut2 (fun _ _ => False) (fun X _ => ?_) (fun _ _ h => h.elim)
    refine ⟨_, rfl, t, _, 0, _, rfl, rfl, hT, rfl, ?_⟩
    exact ⟨_, _, true, rfl, .of (.str _), rfl, _, rfl, iteT ⟨_, rfl, rfl, _, rfl, ifT (dec_wd .pc .pc) ⟨_, rfl, t, _, 1, s, rfl, rfl, hT, rfl, _, rfl, t, _, 2, g, rfl, rfl, hT, rfl, _, rfl, t, _, 3, z, rfl, rfl, hT, rfl, fun x dx h1 h2 ne => ⟨x, dx, .pc, s, g, z, rfl, upd_same, rfl, by rw [upd_upd]; exact q x _ (Rw.new h1 h2 ne) h1 ⟨dx, upd_same⟩⟩⟩⟩⟩
  · refine cut3 (fun _ _ => False) (fun X _ => ?_) (fun _ _ h => h.elim)
    refine ⟨_, rfl, t, _, 0, _, rfl, rfl, hT, rfl, ?_⟩
    exact ⟨_, _, true, rfl, .of (.str _), rfl, _, rfl, iteT ⟨_, rfl, rfl, _, rfl, ifF (dec_wd .pu .pc) (⟨_, _, true, rfl, .of (.str _), rfl, _, rfl, iteT ⟨_, rfl, rfl, _, rfl, ifT (dec_wd .pu .pu) ⟨_, rfl, t, _, 1, s, rfl, rfl, hT, rfl, _, rfl, t, _, 2, g, rfl, rfl, hT, rfl, _, rfl, t, _, 3, z, rfl, rfl, hT, rfl, fun x dx h1 h2 ne => ⟨x, dx, .pu, s, g, z, rfl, upd_same, rfl, by rw [upd_upd]; exact q x _ (Rw.new h1 h2 ne) h1 ⟨dx, upd_same⟩⟩⟩⟩⟩)⟩⟩
  · refine cut4 (fun _ _ => False) (fun X _ => ?_) (fun _ _ h => h.elim)
    refine ⟨_, rfl, t, _, 0, _, rfl, rfl, hT, rfl, ?_⟩
    exact ⟨_, _, true, rfl, .of (.str _), rfl, _, rfl, iteT ⟨_, rfl, rfl, _, rfl, ifF (dec_wd .ho .pc) (⟨_, _, true, rfl, .of (.str _), rfl, _, rfl, iteT ⟨_, rfl, rfl, _, rfl, ifF (dec_wd .ho .pu) (⟨_, _, true, rfl, .of (.str _), rfl, _, rfl, iteT ⟨_, rfl, rfl, _, rfl, ifT (dec_wd .ho .ho) ⟨_, rfl, t, _, 1, s, rfl, rfl, hT, rfl, _, rfl, t, _, 2, g, rfl, rfl, hT, rfl, _, rfl, t, _, 3, z, rfl, rfl, hT, rfl, fun x dx h1 h2 ne => ⟨x, dx, .ho, s, g, z, rfl, upd_same, rfl, by rw [upd_upd]; exact q x _ (Rw.new h1 h2 ne) h1 ⟨dx, upd_same⟩⟩⟩⟩⟩)⟩⟩)⟩⟩
abbrev sIsF : Stmt := top 11
theorem scIsF : FnScope ["thing"] ["thing"] (defScope sIsF) := ⟨rfl, rfl, rfl, by decide +kernel, rfl, by decide +kernel, by decide +kernel⟩
theorem ok_isf {dV : Value} (F : FunD K "is_fraction" "is_fraction" sIsF dV f fd)
    (b : Bl mg) (ml : mg "len" = none) (mt : mg "tuple" = none)
    (G1 : FnOk P w K mg base CX0 1 g1 gd1 ["thing"] (spWhole K)) (b1 : Binds K gd1 ["thing"] []) (k1 : PySem.W.keepIn K (.ref g1) = true) (m1 : mg "is_whole" = some (.ref g1))
    (G2 : FnOk P w K mg base CX0 1 g2 gd2 ["one", "other"] spGc) (b2 : Binds K gd2 ["one", "other"] []) (k2 : PySem.W.keepIn K (.ref g2) = true) (m2 : mg "greatest_common" = some (.ref g2)) :
    FnOk P w K mg base CX 2 f fd ["thing"] (spIsFV K) := by
  refine F.ok scIsF (fun vs H Q E h => ?_) (fun cdv A outer s H vs Q E hr h => ?_)
  · obtain ⟨v, o, rfl, hz, q⟩ := h
    rfl
  obtain ⟨v, o, rfl, hz, q⟩ := h
  refine ⟨_, (pss_cons (ps_if (PW.pt (pw_or (pt_not (pt_val (pe_isiQ (i := 0) rfl (Or.inl rfl) b.isi mt rfl rfl PyProof.Rows.boot_tuple))) (pw_or1 (pt_cmpR op_ne (pe_callB call_len_seq rfl ml PySem.boot_len (pa_cons (pv 0) pa_nil)) pe_int (nomark _))))) (pss_one (ps_ret pe_bl)) pss_nil)
    (pss_cons (ps_if (PW.pt (pw_or (pt_not (pt_val (pe_call G1 hr rfl m1 k1 b1 .nil pass0 (pa_cons (pe_ix ix_tup (pv 0) pe_int (fun _ _ => rfl)) pa_nil)))) (pw_or1 (pt_not (pt_val (pe_call G1 hr rfl m1 k1 b1 .nil pass0 (pa_cons (pe_ix ix_tup (pv 0) pe_int (fun _ _ => rfl)) pa_nil))))))) (pss_one (ps_ret pe_bl)) pss_nil)
    (pss_one (ps_ret (pe_and (pe_cmpR op_ge (pe_ix ix_tup (pv 0) pe_int (fun _ _ => rfl)) pe_int (nomark _)) (pe_one (pe_cmpR op_eq (pe_call G2 hr rfl m2 k2 b2 .nil pass0 (pa_cons (pe_ix ix_tup (pv 0) pe_int (fun _ _ => rfl)) (pa_cons (pe_ix ix_tup (pv 0) pe_int (fun _ _ => rfl)) pa_nil))) pe_int (nomark _)))))))), ?_⟩
  cases hz with
  | fr fa hp =>
    refine ⟨_, _, true, rfl, .tup fa, rfl, _, rfl, iteF ⟨_, rfl, _, _, rfl, .inr fa, rfl, _, rfl, iteF ?_⟩⟩
    refine rd_ix0 rfl fa ⟨_, rfl, .inl ⟨_, rfl, _, rfl, iteF (rd_ix1 rfl fa ⟨_, rfl, .inl ⟨_, rfl, _, rfl, iteF ?_⟩⟩)⟩⟩
    have h1 := hp.pos
    refine rd_ix1 rfl fa ⟨_, _, rfl, rfl, _, rfl, ifT (decide_eq_true (by omega)) (rd_ix0 rfl fa (rd_ix1 rfl fa ⟨_, _, rfl, rfl, ?_⟩))⟩
    rw [hp.one]
    exact q
  | ty h n => exact ⟨_, _, false, rfl, h, n, _, rfl, iteT q⟩
  | len h => exact ⟨_, _, true, rfl, .tup h, rfl, _, rfl, iteF ⟨_, rfl, _, _, rfl, .inr h, rfl, _, rfl, iteT q⟩⟩
  | n0 h ty n =>
    refine ⟨_, _, true, rfl, .tup h, rfl, _, rfl, iteF ⟨_, rfl, _, _, rfl, .inr h, rfl, _, rfl, iteF ?_⟩⟩
    exact ⟨_, rfl, _, _, 0, _, rfl, rfl, h, rfl, _, rfl, .inr ⟨_, ty, n, _, rfl, iteT q⟩⟩
  | n1 h ty n =>
    refine ⟨_, _, true, rfl, .tup h, rfl, _, rfl, iteF ⟨_, rfl, _, _, rfl, .inr h, rfl, _, rfl, iteF ?_⟩⟩
    exact ⟨_, rfl, _, _, 0, _, rfl, rfl, h, rfl, _, rfl, .inl ⟨_, rfl, _, rfl, iteF ⟨_, rfl, _, _, 1, _, rfl, rfl, h, rfl, _, rfl, .inr ⟨_, ty, n, _, rfl, iteT q⟩⟩⟩⟩
  | fb fa c =>
    refine ⟨_, _, true, rfl, .tup fa, rfl, _, rfl, iteF ⟨_, rfl, _, _, rfl, .inr fa, rfl, _, rfl, iteF ?_⟩⟩
    refine rd_ix0 rfl fa ⟨_, rfl, .inl ⟨_, rfl, _, rfl, iteF (rd_ix1 rfl fa ⟨_, rfl, .inl ⟨_, rfl, _, rfl, iteF ?_⟩⟩)⟩⟩
    rcases c with c | ⟨c, d⟩
    · exact rd_ix1 rfl fa ⟨_, _, rfl, rfl, _, rfl, ifF (decide_eq_false (by omega)) q⟩
    · refine rd_ix1 rfl fa ⟨_, _, rfl, rfl, _, rfl, ifT (decide_eq_true c) (rd_ix0 rfl fa (rd_ix1 rfl fa ⟨_, _, rfl, rfl, ?_⟩))⟩
      rw [decide_eq_false (fun e => d (by injection e))]
      exact q
abbrev sPS : Stmt := top 25
theorem scPS : FnScope ["thing"] ["thing"] (defScope sPS) := ⟨rfl, rfl, rfl, by decide +kernel, rfl, by decide +kernel, by decide +kernel⟩
theorem ok_ps {dV : Value} (F : FunD K "is_piece_size" "is_piece_size" sPS dV f fd)
    {aN : Addr} (fN : ∀ H, Fq K H aN (0, 1)) (mNO : mg "NOUGHT" = some (.ref aN))
    (G1 : FnOk P w K mg base CX0 2 g1 gd1 ["thing"] (spIsF K)) (b1 : Binds K gd1 ["thing"] []) (k1 : PySem.W.keepIn K (.ref g1) = true) (m1 : mg "is_fraction" = some (.ref g1))
    (G2 : FnOk P w K mg base CX0 1 g2 gd2 ["one", "other"] (spUnder K)) (b2 : Binds K gd2 ["one", "other"] []) (k2 : PySem.W.keepIn K (.ref g2) = true) (m2 : mg "under" = some (.ref g2)) :
    FnOk P w K mg base CX 3 f fd ["thing"] (spPS K) := by
  refine F.ok scPS (fun vs H Q E h => ?_) (fun cdv A outer s H vs Q E hr h => ?_)
  · obtain ⟨a, p, n, rfl, fa, hp, h0, hb, hn, q⟩ := h
    rfl
  obtain ⟨a, p, n, rfl, fa, hp, h0, hb, hn, q⟩ := h
  have r1 := hr.mono (show 1 ≤ 2 by omega)
  refine ⟨_, (pss_one (ps_ret (pe_and (pe_call G1 hr rfl m1 k1 b1 .nil pass0 (pa_cons (pv 0) pa_nil)) (pe_one (pe_call G2 r1 rfl m2 k2 b2 .nil pass0 (pa_cons (pe_glob (v := .ref aN) rfl mNO rfl) (pa_cons (pv 0) pa_nil))))))), ?_⟩
  refine ⟨_, rfl, a, p, rfl, fa, hp, _, rfl, iteT ⟨_, rfl, aN, a, _, p, 1, n, rfl, fN _, fa, ⟨show (0 : Nat) < 2 ^ 1 by decide, show (1 : Nat) < 2 ^ 1 by decide⟩, hb, by omega, ?_⟩⟩
  rw [decide_eq_true (show (0 : Int) * p.2 < p.1 * 1 by omega)]
  exact q
abbrev sNB : Stmt := top 30
theorem scNB : FnScope ["thing", "bound"] ["thing", "bound"] (defScope sNB) := ⟨rfl, rfl, rfl, by decide +kernel, rfl, by decide +kernel, by decide +kernel⟩
theorem ok_nb {dV : Value} (F : FunD K "is_number_below" "is_number_below" sNB dV f fd)
    (G1 : FnOk P w K mg base CX0 1 g1 gd1 ["thing"] (spWhole K)) (b1 : Binds K gd1 ["thing"] []) (k1 : PySem.W.keepIn K (.ref g1) = true) (m1 : mg "is_whole" = some (.ref g1)) :
    FnOk P w K mg base CX 2 f fd ["thing", "bound"] spNB := by
  refine F.ok scNB (fun vs H Q E h => ?_) (fun cdv A outer s H vs Q E hr h => ?_)
  · obtain ⟨i, b', rfl, h0, h1, q⟩ := h
    rfl
  obtain ⟨i, b', rfl, h0, h1, q⟩ := h
  refine ⟨_, (pss_one (ps_ret (pe_and (pe_call G1 hr rfl m1 k1 b1 .nil pass0 (pa_cons (pv 0) pa_nil)) (pe_and (pe_cmpR op_ge (pv 0) pe_int (nomark _)) (pe_one (pe_cmpR op_lt (pv 0) (pv 1) (nomark _))))))), ?_⟩
  refine ⟨_, rfl, _, rfl, .inl ⟨i, rfl, _, rfl, iteT ⟨_, rfl, _, _, rfl, rfl, _, rfl, ifT (decide_eq_true h0) ⟨_, rfl, _, rfl, _, _, rfl, rfl, ?_⟩⟩⟩⟩
  show Q (.bl (decide (i < b'))) H
  rw [decide_eq_true h1]
  exact q
abbrev sRS : Stmt := top 33
theorem scRS : FnScope ["word", "size"] ["word", "size"] (defScope sRS) := ⟨rfl, rfl, rfl, by decide +kernel, rfl, by decide +kernel, by decide +kernel⟩
theorem ok_rs {dV : Value} (F : FunD K "refuse_size" "refuse_size" sRS dV f fd)
    (G1 : FnOk P w K mg base CX0 2 g1 gd1 ["thing"] (spIsF K)) (b1 : Binds K gd1 ["thing"] []) (k1 : PySem.W.keepIn K (.ref g1) = true) (m1 : mg "is_fraction" = some (.ref g1))
    (G2 : FnOk P w K mg base CX0 3 g2 gd2 ["thing"] (spPS K)) (b2 : Binds K gd2 ["thing"] []) (k2 : PySem.W.keepIn K (.ref g2) = true) (m2 : mg "is_piece_size" = some (.ref g2)) :
    FnOk P w K mg base CX 4 f fd ["word", "size"] (spRS K) := by
  refine F.ok scRS (fun vs H Q E h => ?_) (fun cdv A outer s H vs Q E hr h => ?_)
  · obtain ⟨k, z, p, rfl, fz, hp, h0, hb, q⟩ := h
    rfl
  obtain ⟨k, z, p, rfl, fz, hp, h0, hb, q⟩ := h
  have r2 := hr.mono (show 2 ≤ 3 by omega)
  refine ⟨_, (pss_cons (ps_if (pt_not (pt_val (pe_call G1 r2 rfl m1 k1 b1 .nil pass0 (pa_cons (pv 1) pa_nil)))) (pss_one ps_never) pss_nil)
    (pss_one (ps_if (PW.pt (pw_and (pt_cmpR op_eq (pv 0) pe_str (nomark _)) (pw_and1 (pt_not (pt_val (pe_call G2 hr rfl m2 k2 b2 .nil pass0 (pa_cons (pv 1) pa_nil))))))) (pss_one ps_never) pss_nil))), ?_⟩
  refine ⟨_, rfl, z, p, rfl, fz, hp, _, rfl, iteF ?_⟩
  cases k
  · exact ⟨_, rfl, rfl, _, rfl, ifT (dec_wd .pc .pc) ⟨_, rfl, z, p, _, rfl, fz, hp, h0 rfl, hb, by omega, _, rfl, iteF q⟩⟩
  · exact ⟨_, rfl, rfl, _, rfl, ifF (dec_wd .pu .pc) (iteF q)⟩
  · exact ⟨_, rfl, rfl, _, rfl, ifF (dec_wd .ho .pc) (iteF q)⟩
theorem nd_point_many : (["point", "many"] : List Str).Nodup := by decide +kernel
def spRP (K : PySem.W.Frag) : Sp := fun vs H Q _ => ∃ (l : Addr) (i j m : Int), vs = [.ref l, .int m] ∧ SqL K H l [.int i, .int j] ∧ 0 ≤ i ∧ i < m ∧ 0 ≤ j ∧ j < m ∧ ∀ H', Same H H' → Q .non H'
def spRN : Sp := fun vs H Q _ => ∃ k c : Int, vs = [.int k, .int c] ∧ 0 ≤ k ∧ k < c ∧ Q .non H
abbrev sRP : Stmt := top 31
theorem scRP : FnScope ["some", "many"] ["some", "many"] (defScope sRP) := ⟨rfl, rfl, rfl, by decide +kernel, rfl, by decide +kernel, by decide +kernel⟩
theorem ok_rp {dV : Value} (F : FunD K "refuse_points" "refuse_points" sRP dV f fd)
    (ma : mg "all" = none)
    (G1 : FnOk P w K mg base CX0 2 g1 gd1 ["thing", "bound"] spNB) (b1 : Binds K gd1 ["thing", "bound"] []) (k1 : PySem.W.keepIn K (.ref g1) = true) (m1 : mg "is_number_below" = some (.ref g1)) :
    FnOk P w K mg base CX 3 f fd ["some", "many"] (spRP K) := by
  refine F.ok scRP (fun vs H Q E h => ?_) (fun cdv A outer s H vs Q E hr h => ?_)
  · obtain ⟨l, i, j, m, rfl, hl, i0, i1, j0, j1, q⟩ := h
    rfl
  obtain ⟨l, i, j, m, rfl, hl, i0, i1, j0, j1, q⟩ := h
  refine ⟨_, (pss_one (ps_if (pt_not (pt_val (pe_callB (call_all rfl) rfl ma PyProof.Rows.boot_all (pa_cons (pe_comp (nl := 1) (fr := [1]) (Nc := ["point", "many"]) (cl := [("many", s.heap.objs.size + 1)]) rfl ⟨rfl, rfl, by decide +kernel, by decide +kernel, fun x c h => h, has_of rfl, rfl, fun i n h => match i, h with | 0, h => by cases h; exact ⟨1, rfl, rfl, rfl, rfl, .inl rfl⟩ | k + 1, h => by rw [show 1 + (k + 1) = k + 2 by omega] at h; cases h⟩
        (pi_list (pv 0)) (fun C s3 H3 fp pins => (pg_name (i := 0) nd_point_many rfl (Or.inl rfl))) (fun C s3 H3 fp pins => pif_nil)
        (fun C s3 H3 fp pins => (pe_call G1 hr rfl m1 k1 b1 .nil pass0 (pa_cons (pv 0) (pa_cons (pv 1) pa_nil))))) pa_nil)))) (pss_one ps_never) pss_nil)), ?_⟩
  refine ⟨_, rfl, l, rfl, ⟨_, hl⟩, fun D hD => ?_⟩
  have sD := same_new hD (.lst [])
  refine comp_list (xs := [.int i, .int j]) (fun k zs H' => Same H H' ∧ H' D = some (.lst zs) ∧ zs = (List.replicate k true).map V.bl) ⟨sD, upd_same, rfl⟩ (fun k zs H' h => h.2.1) (fun k zs H' _ h => h.1.seq hl) ?_ ?_
  · rintro k zs x H1 hx ⟨s1, e1, rfl⟩ C hC
    have hk : k < 2 := (List.getElem?_eq_some_iff.mp hx).1
    obtain ⟨y, rfl, y0, y1⟩ : ∃ y, x = .int y ∧ 0 ≤ y ∧ y < m := by
      rcases List.mem_cons.mp (List.mem_of_getElem? hx) with z | z
      · exact ⟨i, z, i0, i1⟩
      · exact ⟨j, by simpa using z, j0, j1⟩
    refine ⟨keep1.1, keep1.2, iteT ?_⟩
    refine ⟨_, rfl, _, rfl, y, m, rfl, y0, y1, e1, small1000 (by rw [List.length_map, List.length_replicate]; omega), hC _ _ ⟨s1.change hD, upd_same, ?_⟩⟩
    rw [List.replicate_succ', List.map_append]; rfl
  · rintro zs H1 ⟨s1, e1, rfl⟩
    refine ⟨D, _, rfl, SqL.of e1, _, rfl, ifF ?_ ?_⟩
    · simp
    · exact q _ s1
abbrev sRN : Stmt := top 32
theorem scRN : FnScope ["k", "count"] ["k", "count"] (defScope sRN) := ⟨rfl, rfl, rfl, by decide +kernel, rfl, by decide +kernel, by decide +kernel⟩
theorem ok_rn {dV : Value} (F : FunD K "refuse_number" "refuse_number" sRN dV f fd)
    (G1 : FnOk P w K mg base CX0 2 g1 gd1 ["thing", "bound"] spNB) (b1 : Binds K gd1 ["thing", "bound"] []) (k1 : PySem.W.keepIn K (.ref g1) = true) (m1 : mg "is_number_below" = some (.ref g1)) :
    FnOk P w K mg base CX 3 f fd ["k", "count"] spRN := by
  refine F.ok scRN (fun vs H Q E h => ?_) (fun cdv A outer s H vs Q E hr h => ?_)
  · obtain ⟨k, c, rfl, u0, u1, q⟩ := h
    rfl
  obtain ⟨k, c, rfl, u0, u1, q⟩ := h
  refine ⟨_, (pss_one (ps_if (pt_not (pt_val (pe_call G1 hr rfl m1 k1 b1 .nil pass0 (pa_cons (pv 0) (pa_cons (pv 1) pa_nil))))) (pss_one ps_never) pss_nil)), ?_⟩
  exact ⟨_, rfl, _, rfl, k, c, rfl, u0, u1, _, rfl, iteF q⟩
abbrev sNInit : Stmt := inClass (top 29) 0
theorem scNInit : FnScope ["self", "many"] ["self", "many"] (defScope sNInit) := ⟨rfl, rfl, rfl, by decide +kernel, rfl, by decide +kernel, by decide +kernel⟩
theorem ok_ninit {dV : Value} {CN : Addr} (F : FunD K "__init__" "Net.__init__" sNInit dV f fd) (NTx : NT K mg CN)
    {tM : Tok} (mMP : mg "MOST_POINTS" = some (.int 20 tM))
    (G1 : FnOk P w K mg base CX0 1 g1 gd1 ["thing"] (spWhole K)) (b1 : Binds K gd1 ["thing"] []) (k1 : PySem.W.keepIn K (.ref g1) = true) (m1 : mg "is_whole" = some (.ref g1)) : FnOk P w K mg base CX 2 f fd ["self", "many"] (spNInit CN) := by
  refine F.ok scNInit (fun vs H Q E h => ?_) (fun cdv A outer s H vs Q E hr h => ?_)
  · obtain ⟨n, dx, m, rfl, hn, h1, h20, q⟩ := h
    rfl
  obtain ⟨n, dx, m, rfl, hn, h1, h20, q⟩ := h
  refine ⟨_, (pss_cons (ps_if (PW.pt (pw_or (pt_not (pt_val (pe_call G1 hr rfl m1 k1 b1 .nil pass0 (pa_cons (pv 1) pa_nil)))) (pw_or (pt_cmpR op_lt (pv 1) pe_int (nomark _)) (pw_or1 (pt_cmpR op_gt (pv 1) (pe_glob (v := .int 20) rfl mMP ⟨_, rfl⟩) (nomark _)))))) (pss_one ps_never) pss_nil)
    (pss_cons (ps_fld (pv 0) (pv 1) rfl)
    (pss_one (ps_fld (pv 0) (pe_lst pa_nil) rfl)))), ?_⟩
  refine ⟨_, rfl, _, rfl, .inl ⟨m, rfl, _, rfl, iteF ⟨_, rfl, _, _, rfl, rfl, _, rfl, ifF (decide_eq_false (by omega)) ⟨_, rfl, _, _, rfl, rfl, _, rfl, ifF (decide_eq_false (by omega)) ?_⟩⟩⟩⟩
  refine ⟨_, rfl, _, rfl, n, CN, dx, [], rfl, hn, NTx.cl, NTx.nP, (by show 0 < 1000; decide), ?_⟩
  refine ⟨by show 0 ≤ sizeLine; decide, fun l hl => ?_⟩
  have nl : n ≠ l := fun z => by subst z; rw [upd_same] at hl; cases hl
  have hl0 : H l = none := by rw [upd_ne (Ne.symm nl)] at hl; exact hl
  have l1 := length_putF ("point_count" : Str) (.int m) []
  simp only [List.length_nil] at l1
  refine ⟨_, rfl, n, CN, dx, putF "point_count" (.int m) [], rfl, by rw [upd_ne nl]; exact upd_same, NTx.cl, NTx.nK, by omega, ?_⟩
  refine q l _ hl0 (fun b o e hb => ?_) upd_same (by rw [upd_ne (Ne.symm nl)]; exact upd_same)
  rw [upd_ne hb, upd_ne (ne_of_none e hl0), upd_ne hb]
  exact e
abbrev sCount : Stmt := inClass (top 29) 2
theorem scCount : FnScope ["self"] ["self"] (defScope sCount) := ⟨rfl, rfl, rfl, by decide +kernel, rfl, by decide +kernel, by decide +kernel⟩
theorem ok_count {dV : Value} {CN : Addr} (F : FunD K "count" "Net.count" sCount dV f fd) (NTx : NT K mg CN)
    (ml : mg "len" = none) : FnOk P w K mg base CX 1 f fd ["self"] (spCount CN K) := by
  refine F.ok scCount (fun vs H Q E h => ?_) (fun cdv A outer s H vs Q E hr h => ?_)
  · obtain ⟨n, l, m, ds, rfl, ⟨⟨dx, hn⟩, ts, hl, hr'⟩, q⟩ := h
    rfl
  obtain ⟨n, l, m, ds, rfl, ⟨⟨dx, hn⟩, ts, hl, hr'⟩, q⟩ := h
  refine ⟨_, (pss_one (ps_ret (pe_callB call_len_seq rfl ml PySem.boot_len (pa_cons (pe_fld (pv 0) rfl) pa_nil)))), _, rfl, n, CN, dx, _, _, rfl, hn, NTx.cl, NTx.nK, nflds_kept _ _, l, ts, rfl, .inl (SqL.of hl), ?_⟩
  rw [hr'.length]
  exact q
abbrev sAdd : Stmt := inClass (top 29) 3
theorem scAdd : FnScope ["self", "row", "told"] ["self", "row"] (defScope sAdd) := ⟨rfl, rfl, rfl, by decide +kernel, rfl, by decide +kernel, by decide +kernel⟩
theorem ok_add {dV : Value} {CN : Addr} (F : FunD K "add" "Net.add" sAdd dV f fd) (NTx : NT K mg CN)
    {tR : Tok} (mMR : mg "MOST_ROWS" = some (.int 40 tR)) (ml : mg "len" = none) {gT : Addr} {gdT : FuncData} (T : RT K mg CR CK) (GT : FnOk P w K mg base CX0 2 gT gdT ["self"] (spRTold CK)) (bT : Binds K gdT ["self"] []) (mT : ∀ k, Meth K (CK k) "told" gT)
    (G1 : FnOk P w K mg base CX0 3 g1 gd1 ["some", "many"] (spRP K)) (b1 : Binds K gd1 ["some", "many"] []) (k1 : PySem.W.keepIn K (.ref g1) = true) (m1 : mg "refuse_points" = some (.ref g1))
    (G2 : FnOk P w K mg base CX0 4 g2 gd2 ["word", "size"] (spRS K)) (b2 : Binds K gd2 ["word", "size"] []) (k2 : PySem.W.keepIn K (.ref g2) = true) (m2 : mg "refuse_size" = some (.ref g2)) : FnOk P w K mg base CX 5 f fd ["self", "row"] (spAdd CN K CK) := by
  refine F.ok scAdd (fun vs H Q E h => ?_) (fun cdv A outer s H vs Q E hr h => ?_)
  · obtain ⟨n, l, x, z, m, ds, k, i, j, p, rfl, ⟨⟨dx, hn⟩, ts, hl, hR⟩, rw, fz, ⟨i0, i1, j0, j1, lp, h0, bp⟩, h40, q⟩ := h
    rfl
  obtain ⟨n, l, x, z, m, ds, k, i, j, p, rfl, ⟨⟨dx, hn⟩, ts, hl, hR⟩, rw, fz, ⟨i0, i1, j0, j1, lp, h0, bp⟩, h40, q⟩ := h
  have r2 := hr.mono (show 2 ≤ 4 by omega)
  have r3 := hr.mono (show 3 ≤ 4 by omega)
  refine ⟨_, (pss_cons (ps_set (i := 2) scAdd.nd rfl (Or.inl rfl) (pe_methD0 (f := fun _ => gT) (fd := fun _ => gdT) (sp := fun _ => spRTold CK) (pv 1) T.cl mT (fun _ => GT) r2 (fun _ => bT) .nil pass0))
    (pss_cons (ps_expr (pe_call G1 r3 rfl m1 k1 b1 .nil pass0 (pa_cons (pe_lst (pa_cons (pe_ix ix_tup (pv 2) pe_int (fun _ _ => rfl)) (pa_cons (pe_ix ix_tup (pv 2) pe_int (fun _ _ => rfl)) pa_nil))) (pa_cons (pe_fld (pv 0) rfl) pa_nil))))
    (pss_cons (ps_expr (pe_call G2 hr rfl m2 k2 b2 .nil pass0 (pa_cons (pe_ix ix_tup (pv 2) pe_int (fun _ _ => rfl)) (pa_cons (pe_ix ix_tup (pv 2) pe_int (fun _ _ => rfl)) pa_nil))))
    (pss_cons (ps_if (pt_cmpR op_ge (pe_callB call_len_seq rfl ml PySem.boot_len (pa_cons (pe_fld (pv 0) rfl) pa_nil)) (pe_glob (v := .int 40) rfl mMR ⟨_, rfl⟩) (nomark _)) (pss_one ps_never) pss_nil)
    (pss_cons (ps_expr (pe_bm PySem.F.plainAttrs_list PySem.F.slot_list_append PySem.F.type_list_append mt_append (pe_fld (pv 0) rfl) (pa_cons (pv 2) pa_nil)))
    (pss_one (ps_ret (pe_op op_sub (pe_callB call_len_seq rfl ml PySem.boot_len (pa_cons (pe_fld (pv 0) rfl) pa_nil)) pe_int)))))))), ?_⟩
  obtain ⟨dr, hx⟩ := id rw
  have len := hR.length
  refine ⟨_, rfl, k, x, dr, _, rfl, hx, (rflds_no _ _ _ (by decide +kernel) (by decide +kernel) (by decide +kernel)), x, k, _, _, _, rfl, rw, fun t ht => ?_⟩
  have st := same_new ht (.tup [.str k.wd, .int i, .int j, .ref z])
  have et : SqT K (upd H t (.tup [.str k.wd, .int i, .int j, .ref z])) t [.str k.wd, .int i, .int j, .ref z] := SqT.of upd_same
  generalize upd H t (.tup [.str k.wd, .int i, .int j, .ref z]) = H1a at st et ⊢
  have hn1 := st _ _ hn
  have hl1 := st _ _ hl
  refine ⟨_, rfl, t, _, 1, _, rfl, rfl, et, rfl, _, rfl, t, _, 2, _, rfl, rfl, et, rfl, by show 2 ≤ sizeLine; decide, fun lq hlq => ?_⟩
  have sq := same_new hlq (.lst [.int i, .int j])
  have eq : upd H1a lq (.lst [.int i, .int j]) lq = some (.lst [.int i, .int j]) := upd_same
  generalize upd H1a lq (.lst [.int i, .int j]) = H1b at sq eq ⊢
  have hnb := sq _ _ hn1
  refine ⟨_, rfl, n, CN, dx, _, _, rfl, hnb, NTx.cl, NTx.nP, nflds_pc _ _, lq, i, j, m, rfl, SqL.of eq, i0, i1, j0, j1, fun H1 sc => ?_⟩
  have sqc := sq.trans sc
  have st := st.trans sqc
  have et := sqc.seqT et
  have hn1 := sqc _ _ hn1
  have hl1 := sqc _ _ hl1
  refine ⟨_, rfl, t, _, 0, _, rfl, rfl, et, rfl, _, rfl, t, _, 3, _, rfl, rfl, et, rfl, k, z, p, rfl, st.fq fz, lp, h0, bp, ?_⟩
  refine ⟨_, rfl, n, CN, dx, _, _, rfl, hn1, NTx.cl, NTx.nK, nflds_kept _ _, l, ts, rfl, .inl (SqL.of hl1), _, _, rfl, rfl, _, rfl, ifF (decide_eq_false (by omega)) ?_⟩
  refine ⟨_, rfl, n, CN, dx, _, _, rfl, hn1, NTx.cl, NTx.nK, nflds_kept _ _, .inl ⟨rfl, _, SqL.of hl1⟩, _, rfl, l, ts, .ref t, rfl, rfl, hl1, small1000 (by omega), ?_⟩
  have nn : n ≠ l := ne_of hn1 hl1 (fun z => by cases z)
  have hn2 : upd H1 l (.lst (ts ++ [.ref t])) n = some (.ins CN dx (nflds m l)) := by rw [upd_ne nn]; exact hn1
  have hl2 : upd H1 l (.lst (ts ++ [.ref t])) l = some (.lst (ts ++ [.ref t])) := upd_same
  refine ⟨_, rfl, n, CN, dx, _, _, rfl, hn2, NTx.cl, NTx.nK, nflds_kept _ _, l, _, rfl, .inl (SqL.of hl2), _, _, rfl, rfl, ?_⟩
  show Q (.int (((ts ++ [V.ref t]).length : Int) - 1)) _
  rw [List.length_append, List.length_singleton, len, show (((ds.length + 1 : Nat) : Int) - 1) = (ds.length : Int) by omega]
  refine q _ (st.x.write) ⟨⟨dx, hn2⟩, _, hl2, Rts.upd hl1 ((hR.same st).app (.cons et (st.fq fz) .nil))⟩
theorem nd_told : (["told"] : List Str).Nodup := by decide +kernel
abbrev sRows : Stmt := inClass (top 29) 5
theorem scRows : FnScope ["self"] ["self"] (defScope sRows) := ⟨rfl, rfl, rfl, by decide +kernel, rfl, by decide +kernel, by decide +kernel⟩
theorem ok_rows {dV : Value} {CN : Addr} (F : FunD K "rows" "Net.rows" sRows dV f fd) (NTx : NT K mg CN)
    (G1 : FnOk P w K mg base CX0 3 g1 gd1 ["told"] (spRowOfG K CK)) (b1 : Binds K gd1 ["told"] []) (k1 : PySem.W.keepIn K (.ref g1) = true) (m1 : mg "row_of" = some (.ref g1)) : FnOk P w K mg base CX 4 f fd ["self"] (spRows CN K CK) := by
  refine F.ok scRows (fun vs H Q E h => ?_) (fun cdv A outer s H vs Q E hr h => ?_)
  · obtain ⟨n, l, m, ds, rfl, ⟨⟨dx, hn⟩, ts, hl, hR⟩, h100, q⟩ := h
    rfl
  obtain ⟨n, l, m, ds, rfl, ⟨⟨dx, hn⟩, ts, hl, hR⟩, h100, q⟩ := h
  refine ⟨_, (pss_one (ps_ret (pe_comp (nl := 1) (fr := []) (Nc := ["told"]) (cl := []) rfl ⟨rfl, rfl, by decide +kernel, by decide +kernel, fun x c h => (by cases h), has_of rfl, rfl, fun i n h => (by simp at h)⟩
        (pi_list (pe_fld (pv 0) rfl)) (fun C s3 H3 fp pins => (pg_name (i := 0) nd_told rfl (Or.inl rfl))) (fun C s3 H3 fp pins => pif_nil)
        (fun C s3 H3 fp pins => (pe_call G1 hr rfl m1 k1 b1 .nil pass0 (pa_cons (pv 0) pa_nil)))))), ?_⟩
  have len := hR.length
  refine ⟨_, rfl, n, CN, dx, _, _, rfl, hn, NTx.cl, NTx.nK, nflds_kept _ _, l, rfl, ⟨_, SqL.of hl⟩, fun D hD => ?_⟩
  have sD := same_new hD (.lst [])
  refine comp_list (xs := ts) (fun i zs H' => Same H H' ∧ H' D = some (.lst zs) ∧ Robs CK K H' zs (ds.take i)) ⟨sD, upd_same, .nil⟩ (fun i zs H' h => h.2.1) (fun i zs H' _ h => h.1.seq (SqL.of hl)) ?_ ?_
  · rintro i zs x H1 hx ⟨s1, e1, R1⟩ C hC
    have hi : i < ds.length := by
      have := (List.getElem?_eq_some_iff.mp hx).1
      omega
    obtain ⟨⟨k, u, v, p⟩, hd⟩ : ∃ d, ds[i]? = some d := ⟨_, List.getElem?_eq_getElem hi⟩
    obtain ⟨t, z, et, ht, fz⟩ := hR.at hd
    have ex : x = .ref t := by rw [et] at hx; exact (Option.some.inj hx).symm
    subst ex
    have lz := R1.length
    rw [List.length_take] at lz
    refine ⟨keep1.1, keep1.2, iteT ?_⟩
    refine ⟨_, rfl, t, _, _, _, _, rfl, s1.seqT ht, k, rfl, fun y H2 s2 ny rw => ?_⟩
    have e2 := s2 _ _ e1
    refine ⟨e2, small1000 (by omega), hC _ _ ⟨(s1.trans s2).change hD, upd_same, ?_⟩⟩
    rw [List.take_add_one, hd]
    exact Robs.upd e2 ((R1.same s2).app (.cons rw ((s1.trans s2).fq fz) .nil))
  · rintro zs H1 ⟨s1, e1, R1⟩
    rw [len, List.take_length] at R1
    exact q D zs H1 s1 hD e1 R1
theorem isf_good {g : Addr} {gd : FuncData} (F : FnOk P w K mg base CX0 2 g gd ["thing"] (spIsFV K)) : FnOk P w K mg base CX0 2 g gd ["thing"] (spIsF K) :=
  F.weak fun vs H Q E h => by
    obtain ⟨a, p, rfl, f, l, q⟩ := h
    exact ⟨_, some p, rfl, .fr f l, q⟩
end
end K71

set_option Elab.async false
set_option linter.all false
set_option maxRecDepth 100000
set_option maxHeartbeats 4000000
namespace K71
open PySem L2
section
variable {P : Program} {w : World} {K : PySem.W.Frag} {mg : Str → Option Value} {base : Heap} {f g1 g2 g3 g4 g5 g6 g7 g8 : Addr} {fd gd1 gd2 gd3 gd4 gd5 gd6 gd7 gd8 : FuncData} {CX : CXT}
variable {CR : Addr} {CK : Kd → Addr} {fW fJ fT fS : Kd → Addr} {fdW fdJ fdT fdS : Kd → FuncData}
theorem sub_nil {ec : List (Str × Addr)} : ∀ (x : Str) (c : Addr), ([] : List (Str × Addr)).lookup x = some c → ec.lookup x = some c := fun _ _ h => by cases h
theorem sub_cons {ec cl : List (Str × Addr)} {a : Str} {d : Addr} (h : ec.lookup a = some d) (r : ∀ x c, cl.lookup x = some c → ec.lookup x = some c) : ∀ x c, ((a, d) :: cl).lookup x = some c → ec.lookup x = some c := fun x c e => by
  rw [List.lookup_cons] at e
  cases q : x == a with
  | true => rw [q] at e; rw [eq_of_beq q, h]; exact e
  | false => rw [q] at e; exact r x c e
theorem ix_listK {X : Cx} {K : PySem.W.Frag} (h : X.K = K) : IxR X (rIxL K) := by subst h; exact ix_list
abbrev sSteps : Stmt := top 18
theorem scSteps : FnScope ["rows", "numbers", "point", "steps", "number", "row"] ["rows", "numbers", "point"] (defScope sSteps) := ⟨rfl, rfl, rfl, by decide +kernel, rfl, by decide +kernel, by decide +kernel⟩
theorem ok_steps {dV : Value} (F : FunD K "steps_from" "steps_from" sSteps dV f fd)
    (T : RT K mg CR CK) :
    FnOk P w K mg base CX 1 f fd ["rows", "numbers", "point"] (spSteps K CK) := by
  refine F.ok scSteps (fun vs H Q E h => ?_) (fun cdv A outer s H vs Q E hr h => ?_)
  · obtain ⟨a, b, xs, ds, es, p, rfl, hA, Rb, hB, hE, h100, q⟩ := h
    rfl
  obtain ⟨a, b, xs, ds, es, p, rfl, hA, Rb, hB, hE, h100, q⟩ := h
  refine ⟨_, (pss_cons (ps_set (i := 3) scSteps.nd rfl (Or.inl rfl) (pe_lst pa_nil))
    (pss_cons (ps_for PassesOwn.never rfl (pi_list (pv 1)) (pg_name (i := 4) scSteps.nd rfl (Or.inl rfl))
      (pss_cons (ps_set (i := 5) scSteps.nd rfl (Or.inl rfl) (pe_ix ix_list (pv 0) (pv 4) (fun _ _ => rfl)))
    (pss_one (ps_if (pt_cmpR op_eq (pe_fld (pv 5) rfl) (pv 2) (nomark _)) (pss_one (ps_expr (pe_bm PySem.F.plainAttrs_list PySem.F.slot_list_append PySem.F.type_list_append mt_append (pv 3) (pa_cons (pe_tup (pa_cons (pe_tup (pa_cons (pv 4) (pa_cons pe_int pa_nil))) (pa_cons (pe_fld (pv 5) rfl) pa_nil))) pa_nil)))) (pss_one (ps_if (pt_cmpR op_eq (pe_fld (pv 5) rfl) (pv 2) (nomark _)) (pss_one (ps_expr (pe_bm PySem.F.plainAttrs_list PySem.F.slot_list_append PySem.F.type_list_append mt_append (pv 3) (pa_cons (pe_tup (pa_cons (pe_tup (pa_cons (pv 4) (pa_cons (pe_un un_neg pe_int) pa_nil))) (pa_cons (pe_fld (pv 5) rfl) pa_nil))) pa_nil)))) pss_nil))))))
    (pss_one (ps_ret (pv 3))))), ?_⟩
  refine ⟨by show 0 ≤ sizeLine; decide, fun l hl => ?_⟩
  have s1 := same_new hl (.lst [])
  have e1 : upd H l (.lst []) l = some (.lst []) := upd_same
  generalize upd H l (.lst []) = H1 at s1 e1 ⊢
  refine ⟨_, rfl, b, rfl, ⟨_, s1.seq hB⟩, ?_⟩
  refine for_list (xs := es.map fun (e : Br) => V.int ((e.1 : Nat) : Int)) (fun i σ H' => Same H H' ∧ ∃ (ys : List V) (z4 z5 : Option V), σ = [some (.ref a), some (.ref b), some (.int (p : Int)), some (.ref l), z4, z5] ∧ H' l = some (.lst ys) ∧ Sds K H' ys (stF (es.take i) p)) ⟨s1, [], none, none, rfl, e1, .nil⟩ (fun i σ H' _ h => h.1.seq hB) ?_ ?_
  · rintro i x σ H2 hx ⟨s2, ys, z4, z5, rfl, e2, S2⟩
    rw [List.getElem?_map] at hx
    obtain ⟨e, he, rfl⟩ := Option.map_eq_some_iff.mp hx
    have hi : i < es.length := (List.getElem?_eq_some_iff.mp he).1
    obtain ⟨⟨k, u, v, q'⟩, hd, eu, ev⟩ := hE e (List.mem_of_getElem? he)
    have eu : u = (e.2.1 : Int) := eu
    have ev : v = (e.2.2 : Int) := ev
    subst eu
    subst ev
    obtain ⟨y, z, ey, rw0, fz⟩ := Rb.at hd
    have rw2 := rw0.same s2
    obtain ⟨dx, hx2⟩ := id rw2
    have at_ : atI xs (e.1 : Int) = some (.ref y) := atI_nat ey
    have ly : ys.length ≤ es.length := by
      have h1 := S2.length
      have h2 : (stF (es.take i) p).length ≤ (es.take i).length := List.length_filterMap_le _ _
      rw [List.length_take] at h2
      omega
    refine ⟨_, rfl, _, rfl, a, xs, _, _, rfl, rfl, s2.seq hA, at_, ?_⟩
    refine ⟨_, rfl, y, CK _, _, _, _, rfl, hx2, T.cl _, T.nS _, rflds_start _ _ _, _, rfl, rfl, _, rfl, ?_⟩
    by_cases c1 : e.2.1 = p
    · have tk : stF (es.take (i + 1)) p = stF (es.take i) p ++ [((e.1, 1), e.2.2)] := by
        unfold stF
        rw [List.take_add_one, he, List.filterMap_append]
        show _ ++ [e].filterMap _ = _
        rw [List.filterMap_cons, if_pos c1]; rfl
      refine ifT (decide_eq_true (by rw [c1])) ?_
      refine ⟨_, rfl, .inl ⟨rfl, _, SqL.of e2⟩, _, rfl, by show 2 ≤ sizeLine; decide, fun u hu' => ?_⟩
      have su := same_new hu' (.tup [.int (e.1 : Int), .int (1)])
      have eu : SqT K (upd H2 u (.tup [.int (e.1 : Int), .int (1)])) u [.int (e.1 : Int), .int (1)] := SqT.of upd_same
      generalize upd H2 u (.tup [.int (e.1 : Int), .int (1)]) = H3 at su eu ⊢
      obtain ⟨dx3, hx3⟩ := id (rw2.same su)
      refine ⟨_, rfl, y, CK _, _, _, _, rfl, hx3, T.cl _, T.nG _, rflds_goal _ _ _, by show 2 ≤ sizeLine; decide, fun t ht => ?_⟩
      rw [show (k, (e.2.1 : Int), (e.2.2 : Int), q').2.2.1 = (e.2.2 : Int) from rfl]
      have st := same_new ht (.tup [.ref u, .int (e.2.2 : Int)])
      have et : SqT K (upd H3 t (.tup [.ref u, .int (e.2.2 : Int)])) t [.ref u, .int (e.2.2 : Int)] := SqT.of upd_same
      generalize upd H3 t (.tup [.ref u, .int (e.2.2 : Int)]) = H4 at st et ⊢
      have s24 := su.trans st
      have e4 := s24 _ _ e2
      refine ⟨l, _, _, rfl, rfl, e4, small1000 (by omega), ⟨(s2.trans s24).change hl, _, _, _, rfl, upd_same, ?_⟩⟩
      rw [tk]
      exact Sds.upd e4 ((S2.same s24).app (.cons et (st.seqT eu) .nil))
    · refine ifF (decide_eq_false (fun z => c1 (by have : (e.2.1 : Int) = (p : Int) := by injection z
                                                   omega))) ?_
      refine ⟨_, rfl, y, CK _, _, _, _, rfl, hx2, T.cl _, T.nG _, rflds_goal _ _ _, _, rfl, rfl, _, rfl, ?_⟩
      by_cases c2 : e.2.2 = p
      · have tk : stF (es.take (i + 1)) p = stF (es.take i) p ++ [((e.1, -1), e.2.1)] := by
          unfold stF
          rw [List.take_add_one, he, List.filterMap_append]
          show _ ++ [e].filterMap _ = _
          rw [List.filterMap_cons, if_neg c1, if_pos c2]; rfl
        refine ifT (decide_eq_true (by rw [c2])) ?_
        refine ⟨_, rfl, .inl ⟨rfl, _, SqL.of e2⟩, _, rfl, _, rfl, by show 2 ≤ sizeLine; decide, fun u hu' => ?_⟩
        have su := same_new hu' (.tup [.int (e.1 : Int), .int (-1)])
        have eu : SqT K (upd H2 u (.tup [.int (e.1 : Int), .int (-1)])) u [.int (e.1 : Int), .int (-1)] := SqT.of upd_same
        generalize upd H2 u (.tup [.int (e.1 : Int), .int (-1)]) = H3 at su eu ⊢
        obtain ⟨dx3, hx3⟩ := id (rw2.same su)
        refine ⟨_, rfl, y, CK _, _, _, _, rfl, hx3, T.cl _, T.nS _, rflds_start _ _ _, by show 2 ≤ sizeLine; decide, fun t ht => ?_⟩
        rw [show (k, (e.2.1 : Int), (e.2.2 : Int), q').2.1 = (e.2.1 : Int) from rfl]
        have st := same_new ht (.tup [.ref u, .int (e.2.1 : Int)])
        have et : SqT K (upd H3 t (.tup [.ref u, .int (e.2.1 : Int)])) t [.ref u, .int (e.2.1 : Int)] := SqT.of upd_same
        generalize upd H3 t (.tup [.ref u, .int (e.2.1 : Int)]) = H4 at st et ⊢
        have s24 := su.trans st
        have e4 := s24 _ _ e2
        refine ⟨l, _, _, rfl, rfl, e4, small1000 (by omega), ⟨(s2.trans s24).change hl, _, _, _, rfl, upd_same, ?_⟩⟩
        rw [tk]
        exact Sds.upd e4 ((S2.same s24).app (.cons et (st.seqT eu) .nil))
      · have tk : stF (es.take (i + 1)) p = stF (es.take i) p := by
          unfold stF
          rw [List.take_add_one, he, List.filterMap_append]
          show _ ++ [e].filterMap _ = _
          rw [List.filterMap_cons, if_neg c1, if_neg c2]; simp
        refine ifF (decide_eq_false (fun z => c2 (by have : (e.2.2 : Int) = (p : Int) := by injection z
                                                     omega))) ⟨s2, ys, _, _, rfl, e2, ?_⟩
        rw [tk]; exact S2
  rintro σ H2 ⟨s2, ys, z4, z5, rfl, e2, S2⟩
  rw [List.length_map, List.take_length] at S2
  exact ⟨_, rfl, q l ys H2 s2 hl e2 S2⟩
end
end K71

set_option Elab.async false
set_option linter.all false
set_option maxRecDepth 100000
set_option maxHeartbeats 4000000
namespace K71
open PySem L2
section
variable {P : Program} {w : World} {K : PySem.W.Frag} {mg : Str → Option Value} {base : Heap} {f g1 g2 g3 g4 g5 g6 g7 g8 : Addr} {fd gd1 gd2 gd3 gd4 gd5 gd6 gd7 gd8 : FuncData} {CX : CXT}
variable {CR : Addr} {CK : Kd → Addr} {fW fJ fT fS : Kd → Addr} {fdW fdJ fdT fdS : Kd → FuncData}
theorem pt_len {m : Nat} {es : List Br} {b : Nat} (hm : Ptm m es) (hb : b < m) (h20 : m ≤ 20) {w : WS} (nd : (wkeys w).Nodup) (pt : ∀ x st, (x, st) ∈ w → ∃ pts, Pt es b st x pts ∧ ∀ y ∈ pts, y ∈ wkeys w) {st : List Stp} {x : Nat} {pts : List Nat} (p : Pt es b st x pts) (k : ∀ y ∈ pts, y ∈ wkeys w) : st.length ≤ 20 := by
  have l : pts.length = st.length + 1 := by
    induction p with
    | nil => rfl
    | snoc h g n ih => rw [List.length_append, List.length_append, ih fun y hy => k y (List.mem_append_left _ hy)]; rfl
  have nd' : pts.Nodup := by
    clear k l
    induction p with
    | nil => simp
    | snoc h g n ih =>
      rw [List.nodup_append]
      refine ⟨ih, by simp, fun x hx y hy z => n ?_⟩
      rw [List.mem_singleton] at hy
      rw [← hy, ← z]; exact hx
  have := nd_le nd' fun y hy => key_lt hm hb pt y (k y hy)
  omega
theorem muS_le {es : List Br} {b p m j : Nat} {T : List (Stp × Nat)} {s : WS × List Nat} (hm : Ptm m es) (hb : b < m) (h20 : m ≤ 20) (h : WJ es b p [] s) (g : ∀ t ∈ T, Goes es t.1 p t.2) : ((T.take j).foldl (inF p) s).2.length ≤ muF s := by
  have := mu_fold hm hb h20 (T.take j) [] h fun t ht => g t (List.mem_of_mem_take ht)
  unfold muF at this ⊢
  omega
def muW (σ : St) (H : Hp) : Nat := match σ with
  | [_, _, _, _, some (.ref D), some (.ref W), _, _] => match H D, H W with
    | some (.dK kvs), some (.lst q) => 2 * (20 - kvs.length) + q.length
    | _, _ => 0
  | _ => 0
theorem muW_eq {H : Hp} {D W : Addr} {kvs : List (Key × V)} {q : List V} {a b c d e f : Option V} (h : H D = some (.dK kvs)) (g : H W = some (.lst q)) : muW [a, b, c, d, some (.ref D), some (.ref W), e, f] H = 2 * (20 - kvs.length) + q.length := by
  show (match H D, H W with | some (.dK kvs), some (.lst q) => 2 * (20 - kvs.length) + q.length | _, _ => 0) = _
  rw [h, g]
theorem map_last {q : List Nat} (h : q ≠ []) : (q.map fun (p : Nat) => V.int (p : Int))[((q.map fun (p : Nat) => V.int (p : Int))).length - 1]? = some (.int ((q.getLastD 0 : Nat) : Int)) ∧ (q.map fun (p : Nat) => V.int (p : Int)).dropLast = (q.dropLast.map fun (p : Nat) => V.int (p : Int)) := by
  obtain ⟨_, e⟩ := last_in h
  generalize q.getLastD 0 = x at e
  generalize q.dropLast = r at e
  subst e
  rw [List.map_append]
  simp
abbrev sWay : Stmt := top 17
theorem scWay : FnScope ["rows", "numbers", "begin", "end", "ways", "waiting", "point", "step"] ["rows", "numbers", "begin", "end"] (defScope sWay) := ⟨rfl, rfl, rfl, by decide +kernel, rfl, by decide +kernel, by decide +kernel⟩
theorem ok_way {dV : Value} (F : FunD K "way_along" "way_along" sWay dV f fd)
    (ml : mg "len" = none)
    (G1 : FnOk P w K mg base CX0 1 g1 gd1 ["rows", "numbers", "point"] (spSteps K CK)) (b1 : Binds K gd1 ["rows", "numbers", "point"] []) (k1 : PySem.W.keepIn K (.ref g1) = true) (m1 : mg "steps_from" = some (.ref g1)) :
    FnOk P w K mg base CX 2 f fd ["rows", "numbers", "begin", "end"] (spWay K CK) := by
  refine F.ok scWay (fun vs H Q E h => ?_) (fun cdv A outer s H vs Q E hr h => ?_)
  · obtain ⟨a, b, xs, ds, es, m, f, t, rfl, hA, Rb, hB, hE, h100, hm, h20, hf, qN, qS⟩ := h
    rfl
  obtain ⟨a, b, xs, ds, es, m, f, t, rfl, hA, Rb, hB, hE, h100, hm, h20, hf, qN, qS⟩ := h
  refine ⟨_, (pss_cons (ps_set (i := 4) scWay.nd rfl (Or.inl rfl) (pe_disp (pps_cons (pv 2) (pe_lst pa_nil) pps_nil) rfl rfl (by simp) (by decide)))
    (pss_cons (ps_set (i := 5) scWay.nd rfl (Or.inl rfl) (pe_lst (pa_cons (pv 2) pa_nil)))
    (pss_cons (ps_while PassesOwn.never (pt_cmpR op_gt (pe_callB call_len_seq rfl ml PySem.boot_len (pa_cons (pv 5) pa_nil)) pe_int (nomark _))
      (pss_cons (ps_set (i := 6) scWay.nd rfl (Or.inl rfl) (pe_bm0 PySem.F.plainAttrs_list PySem.F.slot_list_pop PySem.F.type_list_pop mt_pop (pv 5)))
      (pss_one (ps_for PassesOwn.never rfl (pi_list (pe_call G1 hr rfl m1 k1 b1 .nil pass0 (pa_cons (pv 0) (pa_cons (pv 1) (pa_cons (pv 6) pa_nil))))) (pg_name (i := 7) scWay.nd rfl (Or.inl rfl))
        (pss_one (ps_if (pt_cmp (pc_dnotin (hu_of hr) (pe_ix ix_tup (pv 7) pe_int (fun _ _ => rfl)) (pv 4)))
          (pss_cons (ps_dput (hu_of hr) (pv 4) (pe_ix ix_tup (pv 7) pe_int (fun _ _ => rfl)) (pe_op op_cat (pe_dget (hu_of hr) (pv 4) (pv 6) (fun _ _ => rfl)) (pe_lst (pa_cons (pe_ix ix_tup (pv 7) pe_int (fun _ _ => rfl)) pa_nil))) rfl)
          (pss_one (ps_expr (pe_bm PySem.F.plainAttrs_list PySem.F.slot_list_append PySem.F.type_list_append mt_append (pv 5) (pa_cons (pe_ix ix_tup (pv 7) pe_int (fun _ _ => rfl)) pa_nil)))))
          pss_nil))))))
    (pss_one (ps_ret (pe_dget1 (hu_of hr) (pv 4) (pv 3) ⟨rfl, rfl, rfl, rfl⟩)))))), ?_⟩
  refine fun D hD => ?_
  have sD := same_new hD (.dK [])
  have eD : upd H D (.dK []) D = some (.dK []) := upd_same
  generalize upd H D (.dK []) = H1 at sD eD ⊢
  refine ⟨_, rfl, by show 0 ≤ sizeLine; decide, fun L hL => ?_⟩
  have nLD : L ≠ D := Ne.symm (ne_of_none eD hL)
  have nL : H L = none := sD.free hL
  have sL := same_new hL (.lst [])
  have eL : upd H1 L (.lst []) L = some (.lst []) := upd_same
  generalize upd H1 L (.lst []) = H2 at sL eL ⊢
  refine ⟨sL _ _ eD, [((Sum.inl (f : Int) : Key), V.ref L)], rfl, by show 1 ≤ 15; decide, ?_⟩
  have s3 : Same H (upd H2 D (.dK (mergeK [] [((Sum.inl (f : Int) : Key), V.ref L)]))) := (sD.trans sL).change hD
  have e3 : upd H2 D (.dK (mergeK [] [((Sum.inl (f : Int) : Key), V.ref L)])) D = some (.dK [((Sum.inl (f : Int) : Key), V.ref L)]) := upd_same
  have eL3 : upd H2 D (.dK (mergeK [] [((Sum.inl (f : Int) : Key), V.ref L)])) L = some (.lst []) := by rw [upd_ne nLD]; exact eL
  generalize upd H2 D (.dK (mergeK [] [((Sum.inl (f : Int) : Key), V.ref L)])) = H3 at s3 e3 eL3 ⊢
  refine ⟨_, rfl, by show 1 ≤ sizeLine; decide, fun W hW => ?_⟩
  have nLW : L ≠ W := ne_of_none eL3 hW
  have nDW : D ≠ W := ne_of_none e3 hW
  have nW : H W = none := s3.free hW
  have sW := same_new hW (.lst [.int (f : Int)])
  have eW : upd H3 W (.lst [.int (f : Int)]) W = some (.lst [.int (f : Int)]) := upd_same
  generalize upd H3 W (.lst [.int (f : Int)]) = H4 at sW eW ⊢
  have s4 := s3.trans sW
  have w4 : Wys K H W H4 [((Sum.inl (f : Int) : Key), V.ref L)] (iterF es f 0).1 := .cons nL nLW (sW _ _ eL3) .nil .nil
  refine while_by (fun σ H' => Same H H' ∧ ∃ (i : Nat) (kvs : List (Key × V)) (z6 z7 : Option V), σ = [some (.ref a), some (.ref b), some (.int (f : Int)), some (.int (t : Int)), some (.ref D), some (.ref W), z6, z7] ∧ H' D = some (.dK kvs) ∧ H' W = some (.lst ((iterF es f i).2.map fun (p : Nat) => V.int (p : Int))) ∧ Wys K H W H' kvs (iterF es f i).1 ∧ i ≤ 40) muW ⟨s4, 0, _, none, none, rfl, sW _ _ e3, eW, w4, by omega⟩ ?_ ?_
  · rintro σ H5 ⟨s5, i, kvs, z6, z7, rfl, e5, q5, w5, hi⟩
    have lk := w5.length
    have wi := wi_iter es f i
    have le20 := wk_le hm hf wi.nd wi.pt
    refine ⟨_, rfl, W, _, rfl, .inl (SqL.of q5), _, _, rfl, rfl, _, rfl, ?_⟩
    by_cases hq : (iterF es f i).2 = []
    · -- it ends
      rw [hq] at q5
      refine ifF (by rw [hq]; rfl) ?_
      have e60 := iter_60 hq (by omega)
      refine ⟨_, rfl, D, rfl, .inl ⟨kvs, .inl e5⟩, _, rfl, _, DGet.k (k := Sum.inl (t : Int)) e5, ?_⟩
      by_cases c : t ∈ wkeys (iterF es f i).1
      · obtain ⟨l, ys, st, ev, eg, nl, _, hl, f'⟩ := w5.some_ c
        rw [ev]
        refine qS st ?_ l ys H5 s5 nl hl f'
        unfold wayF
        rw [e60]; exact eg
      · rw [(w5.none_ c).1]
        refine qN ?_ H5 s5
        unfold wayF
        rw [e60]; exact wget_none c
    · have mu0 := muW_eq (a := some (.ref a)) (b := some (.ref b)) (c := some (.int (f : Int))) (d := some (.int (t : Int))) (e := z6) (f := z7) e5 q5
      have hi39 : i + muF (iterF es f i) ≤ 39 := by
        rcases iter_ends hm hf h20 i with z | z
        · exact absurd z hq
        · exact z
      have stp : iterF es f (i + 1) = (stF es ((iterF es f i).2.getLastD 0)).foldl (inF ((iterF es f i).2.getLastD 0)) ((iterF es f i).1, (iterF es f i).2.dropLast) := by
        show stepF es (iterF es f i) = _
        unfold stepF
        rw [if_neg hq]
      have mstep := mu_step hm hf h20 wi hq
      have mstep : muF (iterF es f (i + 1)) + 1 ≤ muF (iterF es f i) := mstep
      have wj0 := wi_begin wi hq
      have pk := wj0.kp
      obtain ⟨ml1, ml2⟩ := map_last hq
      generalize hp : (iterF es f i).2.getLastD 0 = p at *
      have ll : 0 < ((iterF es f i).2.map fun (p : Nat) => V.int (p : Int)).length := by rw [List.length_map]; exact List.length_pos_iff.mpr hq
      refine ifT (by show decide (0 < ((((iterF es f i).2.map fun (p : Nat) => V.int (p : Int)).length : Nat) : Int)) = true; exact decide_eq_true (by omega)) ?_
      refine ⟨_, rfl, .inl ⟨rfl, _, SqL.of q5⟩, W, _, _, rfl, rfl, q5, ml1, ?_⟩
      rw [ml2]
      have s6 : Same H (upd H5 W (.lst ((iterF es f i).2.dropLast.map fun (p : Nat) => V.int (p : Int)))) := s5.change nW
      have e6 : upd H5 W (.lst ((iterF es f i).2.dropLast.map fun (p : Nat) => V.int (p : Int))) D = some (.dK kvs) := by rw [upd_ne nDW]; exact e5
      have q6 : upd H5 W (.lst ((iterF es f i).2.dropLast.map fun (p : Nat) => V.int (p : Int))) W = some (.lst ((iterF es f i).2.dropLast.map fun (p : Nat) => V.int (p : Int))) := upd_same
      have w6 := w5.updW (o := .lst ((iterF es f i).2.dropLast.map fun (p : Nat) => V.int (p : Int))) q5
      generalize upd H5 W (.lst ((iterF es f i).2.dropLast.map fun (p : Nat) => V.int (p : Int))) = H6 at s6 e6 q6 w6 ⊢
      refine ⟨_, rfl, _, rfl, _, rfl, a, b, xs, ds, es, p, rfl, s6.seq hA, Rb.same s6, s6.seq hB, hE, h100, fun l ys H7 s7 nl el S7 => ?_⟩
      have s07 := s6.trans s7
      have nlW : l ≠ W := Ne.symm (ne_of_none q6 nl)
      have nlD : l ≠ D := Ne.symm (ne_of_none e6 nl)
      have nlH : H l = none := s6.free nl
      have lys := S7.length
      refine ⟨l, rfl, ⟨_, SqL.of el⟩, ?_⟩
      refine for_list (xs := ys) (fun j σ H' => Same H H' ∧ H' l = some (.lst ys) ∧ Sds K H' ys (stF es p) ∧ ∃ (kvs : List (Key × V)) (z7 : Option V), σ = [some (.ref a), some (.ref b), some (.int (f : Int)), some (.int (t : Int)), some (.ref D), some (.ref W), some (.int (p : Int)), z7] ∧ H' D = some (.dK kvs) ∧ H' W = some (.lst ((((stF es p).take j).foldl (inF p) ((iterF es f i).1, (iterF es f i).2.dropLast)).2.map fun (p : Nat) => V.int (p : Int))) ∧ Wys K H W H' kvs (((stF es p).take j).foldl (inF p) ((iterF es f i).1, (iterF es f i).2.dropLast)).1) ⟨s07, el, S7, kvs, z7, rfl, s7 _ _ e6, s7 _ _ q6, w6.same s7⟩ (fun j σ H' _ h => SqL.of h.2.1) ?_ ?_
      · rintro j x σ H8 hx ⟨s8, el8, S8, kv8, z7', rfl, e8, q8, w8⟩
        obtain ⟨tt, u, s, rfl, es', hT, hU⟩ := S8.get hx
        have hj : j < (stF es p).length := (List.getElem?_eq_some_iff.mp es').1
        have gs : Goes es s.1 p s.2 := stF_goes (List.mem_of_getElem? es')
        have wj := wj_fold ((stF es p).take j) [] wj0 fun z hz => stF_goes (List.mem_of_mem_take hz)
        have fold1 : ((stF es p).take (j + 1)).foldl (inF p) ((iterF es f i).1, (iterF es f i).2.dropLast) = inF p (((stF es p).take j).foldl (inF p) ((iterF es f i).1, (iterF es f i).2.dropLast)) s := by
          rw [List.take_add_one, es', List.foldl_append]; rfl
        rw [fold1]
        have wj' := wj_in wj gs
        have le8 := wk_le hm hf wj.nd wj.pt
        have lS := muS_le hm hf h20 wj0 (j := j) (T := stF es p) (fun z hz => stF_goes hz)
        have mb := mu_begin hq
        generalize ((stF es p).take j).foldl (inF p) ((iterF es f i).1, (iterF es f i).2.dropLast) = S at q8 w8 wj wj' le8 lS ⊢
        have lS2 : S.2.length ≤ 100 := by omega
        have lk8 := w8.length
        obtain ⟨⟨sn, sw⟩, sx⟩ := s
        have hT : SqT K H8 tt [.ref u, .int (sx : Int)] := hT
        refine ⟨_, rfl, tt, _, 1, _, rfl, rfl, hT, rfl, _, rfl, D, _, rfl, DGet.k (k := Sum.inl (sx : Int)) e8, _, rfl, ?_⟩
        by_cases c : sx ∈ wkeys S.1
        · refine ifF (by rw [w8.isSome, decide_eq_true c]; rfl) ⟨s8, el8, S8, kv8, _, rfl, e8, ?_, ?_⟩
          · show H8 W = some (.lst ((inF p S ((sn, sw), sx)).2.map fun (p : Nat) => V.int (p : Int)))
            unfold inF
            rw [if_pos c]; exact q8
          · show Wys K H W H8 kv8 (inF p S ((sn, sw), sx)).1
            unfold inF
            rw [if_pos c]; exact w8
        · refine ifT (by rw [w8.isSome, decide_eq_false c]; rfl) ?_
          obtain ⟨ap, xp, sp, ev, eg, nap, nwp, hap, fp⟩ := w8.some_ wj.kp
          have lsp := fp.length
          have lsp2 : sp.length ≤ 20 := by
            obtain ⟨pts, pt1, pt2⟩ := wj.pt p sp (wget_some eg)
            exact pt_len hm hf h20 wj.nd wj.pt pt1 pt2
          refine ⟨_, rfl, _, rfl, D, .ref ap, rfl, (by have := DGet.k (k := Sum.inl (p : Int)) e8; rw [ev] at this; exact this), ?_⟩
          refine ⟨_, rfl, tt, _, 0, _, rfl, rfl, hT, rfl, by show 1 ≤ sizeLine; decide, fun L1 hL1 => ?_⟩
          have s9 := same_new hL1 (.lst [.ref u])
          have e9 : upd H8 L1 (.lst [.ref u]) L1 = some (.lst [.ref u]) := upd_same
          generalize upd H8 L1 (.lst [.ref u]) = H9 at s9 e9 ⊢
          refine ⟨ap, L1, _, _, rfl, rfl, s9 _ _ hap, e9, by rw [sizeLine_eq]; simp only [List.length_cons, List.length_nil]; omega, fun C hC => ?_⟩
          have nC8 : H8 C = none := s9.free hC
          have sA := same_new hC (.lst (xp ++ [.ref u]))
          have eA : upd H9 C (.lst (xp ++ [.ref u])) C = some (.lst (xp ++ [.ref u])) := upd_same
          generalize upd H9 C (.lst (xp ++ [.ref u])) = HA at sA eA ⊢
          have s8A := s9.trans sA
          have nCW : C ≠ W := Ne.symm (ne_of_none q8 nC8)
          have nCD : C ≠ D := Ne.symm (ne_of_none e8 nC8)
          have eDA := s8A _ _ e8
          refine ⟨_, rfl, _, rfl, tt, _, 1, _, rfl, rfl, s8A.seqT hT, rfl, D, _, rfl, DPut.k (k := Sum.inl (sx : Int)) eDA (by rw [sizeLine_eq]; omega), ?_⟩
          have put : putK kv8 (Sum.inl (sx : Int)) (.ref C) = kv8 ++ [(Sum.inl (sx : Int), .ref C)] := by unfold putK; rw [if_neg (by rw [(w8.none_ c).2]; simp)]
          rw [put]
          have eB : upd HA D (.dK (kv8 ++ [(Sum.inl (sx : Int), .ref C)])) D = some (.dK (kv8 ++ [(Sum.inl (sx : Int), .ref C)])) := upd_same
          have qB : upd HA D (.dK (kv8 ++ [(Sum.inl (sx : Int), .ref C)])) W = some (.lst (S.2.map fun (p : Nat) => V.int (p : Int))) := by rw [upd_ne (Ne.symm nDW)]; exact s8A _ _ q8
          have sB : Same H (upd HA D (.dK (kv8 ++ [(Sum.inl (sx : Int), .ref C)]))) := (s8.trans s8A).change hD
          have wB : Wys K H W (upd HA D (.dK (kv8 ++ [(Sum.inl (sx : Int), .ref C)]))) (kv8 ++ [(Sum.inl (sx : Int), .ref C)]) (S.1 ++ [(sx, sp ++ [(sn, sw)])]) :=
            Wys.snoc (s8.free nC8) nCW (by rw [upd_ne nCD]; exact eA) (((fp.same s8A).app (.cons (s8A.seqT hU) .nil)).updD eDA) ((w8.same s8A).updD eDA)
          have elB : upd HA D (.dK (kv8 ++ [(Sum.inl (sx : Int), .ref C)])) l = some (.lst ys) := by rw [upd_ne nlD]; exact s8A _ _ el8
          have SB := (S8.same s8A).updD (o := .dK (kv8 ++ [(Sum.inl (sx : Int), .ref C)])) eDA
          have hTB := SqT.updD (o := .dK (kv8 ++ [(Sum.inl (sx : Int), .ref C)])) (s8A.seqT hT) eDA
          generalize upd HA D (.dK (kv8 ++ [(Sum.inl (sx : Int), .ref C)])) = HB at eB qB sB wB elB SB hTB ⊢
          refine ⟨_, rfl, .inl ⟨rfl, _, SqL.of qB⟩, _, rfl, tt, _, 1, _, rfl, rfl, hTB, rfl, W, _, _, rfl, rfl, qB, small1000 (by rw [List.length_map]; omega), ?_⟩
          have inE : inF p S ((sn, sw), sx) = (S.1 ++ [(sx, sp ++ [(sn, sw)])], S.2 ++ [sx]) := by
            unfold inF
            rw [if_neg c, eg]; rfl
          rw [inE]
          refine ⟨sB.change nW, by rw [upd_ne nlW]; exact elB, SB.upd qB, _, _, rfl, by rw [upd_ne nDW]; exact eB, ?_, wB.updW qB⟩
          rw [upd_same, List.map_append]; rfl
      · rintro σ H8 ⟨s8, el8, S8, kv8, z7', rfl, e8, q8, w8⟩
        rw [lys, List.take_length, ← stp] at q8 w8
        have lk8 := w8.length
        refine ⟨⟨s8, i + 1, kv8, _, _, rfl, e8, q8, w8, by omega⟩, ?_⟩
        rw [mu0, muW_eq e8 q8, List.length_map, List.length_map, lk, lk8]
        unfold muF at mstep
        omega
  · rintro σ H Q Q' mono ⟨v, h1, p', ys, h2, h3, i, j, h4, h5, k, h6, h7⟩
    exact ⟨v, h1, p', ys, h2, h3, i, j, h4, h5, k, h6, mono _ _ h7⟩
end
end K71

set_option Elab.async false
set_option linter.all false
set_option maxRecDepth 100000
set_option maxHeartbeats 4000000
namespace K71
open PySem L2
section
variable {P : Program} {w : World} {K : PySem.W.Frag} {mg : Str → Option Value} {base : Heap} {f g1 g2 g3 g4 g5 g6 g7 g8 : Addr} {fd gd1 gd2 gd3 gd4 gd5 gd6 gd7 gd8 : FuncData} {CX : CXT}
variable {CR : Addr} {CK : Kd → Addr} {fW fJ fT fS : Kd → Addr} {fdW fdJ fdT fdS : Kd → FuncData}
theorem sk_at {ds : List RD} {i : Nat} {d : RD} (h : ds[i]? = some d) : (skl ds)[i]? = some (d.1, d.2.1.toNat, d.2.2.1.toNat) := by unfold skl; rw [List.getElem?_map, h]; rfl
theorem sk_len (ds : List RD) : (skl ds).length = ds.length := by unfold skl; rw [List.length_map]
theorem sk_lt {m : Nat} {ds : List RD} (pt : ∀ d ∈ ds, PtOk (m : Int) d.2.1 d.2.2.1) : ∀ d ∈ skl ds, d.2.1 < m ∧ d.2.2 < m := fun d hd => by
  obtain ⟨e, he, rfl⟩ := List.mem_map.mp hd
  obtain ⟨i0, i1, j0, j1⟩ := pt e he
  exact ⟨by show e.2.1.toNat < m; omega, by show e.2.2.1.toNat < m; omega⟩
theorem brok_of {W : Kd → Bool} {m n : Nat} {ds : List RD} {s : RS} (pt : ∀ d ∈ ds, PtOk (m : Int) d.2.1 d.2.2.1) (h : RI W (skl ds) m n s) : BrOk ds s.1 := fun e he => by
  obtain ⟨k, hk⟩ := h.at_ e he
  have hl : e.1 < ds.length := by have := (List.getElem?_eq_some_iff.mp hk).1; rwa [sk_len] at this
  have hd : ds[e.1]? = some ds[e.1] := List.getElem?_eq_getElem hl
  rw [sk_at hd] at hk
  obtain ⟨i0, i1, j0, j1⟩ := pt _ (List.mem_of_getElem? hd)
  refine ⟨_, hd, ?_, ?_⟩
  · have : ds[e.1].2.1.toNat = e.2.1 := by injection hk with z; injection z with _ z; injection z
    omega
  · have : ds[e.1].2.2.1.toNat = e.2.2 := by injection hk with z; injection z with _ z; injection z
    omega
theorem br_len {W : Kd → Bool} {sk : List Sk} : ∀ n, (ringF W sk n).1.length ≤ n
  | 0 => Nat.le_refl _
  | n + 1 => by
    have ih := br_len (W := W) (sk := sk) n
    cases h : sk[n]? with
    | none => show (match sk[n]? with | none => ringF W sk n | some d => ringS W (ringF W sk n) n d).1.length ≤ n + 1; rw [h]; show (ringF W sk n).1.length ≤ n + 1; omega
    | some d =>
      rw [ringF_succ h]
      generalize ringF W sk n = s at ih
      unfold ringS
      split
      · split
        · show (s.1 ++ [(n, d.2.1, d.2.2)]).length ≤ n + 1
          rw [List.length_append]; simp only [List.length_cons, List.length_nil]; omega
        · show s.1.length ≤ n + 1; omega
      · omega
def WdA (K : PySem.W.Frag) (H : Hp) (v : V) (W : Kd → Bool) : Prop := ∃ (p : Addr) (ws : List V), v = .ref p ∧ (SqL K H p ws ∨ SqT K H p ws) ∧ ws.all flatV = true ∧ ∀ k : Kd, inV (.str k.wd) ws = W k
theorem WdA.same {K : PySem.W.Frag} {H H' : Hp} {v : V} {W : Kd → Bool} (e : Same H H') (h : WdA K H v W) : WdA K H' v W := by
  obtain ⟨p, ws, h1, h2, h3⟩ := h
  refine ⟨p, ws, h1, ?_, h3⟩
  rcases h2 with z | z
  · exact .inl (e.seq z)
  · exact .inr (e.seqT z)
theorem joinW (k : Kd) : inV (.str k.wd) [.str "piece", .str "hold"] = decide (k ≠ .pu) := by cases k <;> decide
abbrev sRings : Stmt := top 16
theorem scRings : FnScope ["net", "words", "wanted", "rows", "branches", "found", "number", "row", "back"] ["net", "words"] (defScope sRings) := ⟨rfl, rfl, rfl, by decide +kernel, rfl, by decide +kernel, by decide +kernel⟩
theorem ok_rings {dV : Value} (F : FunD K "rings" "rings" sRings dV f fd)
    {CN aJ : Addr} (NTx : NT K mg CN) (T : RT K mg CR CK) (men : mg "enumerate" = none) (fJ : ∀ H, SqT K H aJ [.str "piece", .str "hold"]) (mJO : mg "JOINING_WORDS" = some (.ref aJ))
    (GW : ∀ k, FnOk P w K mg base CX0 1 (fW k) (fdW k) ["self"] (spWord k)) (bW : ∀ k, Binds K (fdW k) ["self"] []) (mW : ∀ k, Meth K (CK k) "word" (fW k))
    {gRo : Addr} {gdRo : FuncData} (GRo : FnOk P w K mg base CX0 4 gRo gdRo ["self"] (spRows CN K CK)) (bRo : Binds K gdRo ["self"] []) (mRo : Meth K CN "rows" gRo)
    (G1 : FnOk P w K mg base CX0 2 g1 gd1 ["rows", "numbers", "begin", "end"] (spWay K CK)) (b1 : Binds K gd1 ["rows", "numbers", "begin", "end"] []) (k1 : PySem.W.keepIn K (.ref g1) = true) (m1 : mg "way_along" = some (.ref g1)) :
    FnOk P w K mg base CX 5 f fd ["net", "words"] (spRings CN K) := by
  refine F.ok scRings (fun vs H Q E h => ?_) (fun cdv A outer s H vs Q E hr h => ?_)
  · obtain ⟨n, l, v, m, ds, W, rfl, nt, pt, h20, h40, hW, q⟩ := h
    rfl
  obtain ⟨n, l, v, m, ds, W, rfl, nt, pt, h20, h40, hW, q⟩ := h
  have r1 := hr.mono (show 1 ≤ 4 by omega)
  have r2 := hr.mono (show 2 ≤ 4 by omega)
  refine ⟨_, (pss_cons (ps_set (i := 2) scRings.nd rfl (Or.inl rfl) (pe_ifExp (pt_cmp (pc_isN (pv 1))) (pe_glob (v := .ref aJ) rfl mJO rfl) (pv 1)))
    (pss_cons (ps_set (i := 3) scRings.nd rfl (Or.inl rfl) (pe_meth0 (pv 0) NTx.cl mRo GRo hr bRo .nil pass0))
    (pss_cons (ps_set (i := 4) scRings.nd rfl (Or.inl rfl) (pe_lst pa_nil))
    (pss_cons (ps_set (i := 5) scRings.nd rfl (Or.inl rfl) (pe_lst pa_nil))
    (pss_cons (ps_for PassesOwn.never rfl (pi_enum rfl men rfl (pa_cons (pv 3) pa_nil)) (pg_tup rfl (pgs_cons (pg_name (i := 6) scRings.nd rfl (Or.inl rfl)) (pgs_cons (pg_name (i := 7) scRings.nd rfl (Or.inl rfl)) pgs_nil)))
      (pss_one (ps_if (pt_cmpR op_in_seq (pe_methD0 (pv 7) T.cl mW GW r1 bW .nil pass0) (pv 2) rfl) (pss_cons (ps_set (i := 8) scRings.nd rfl (Or.inl rfl) (pe_call G1 r2 rfl m1 k1 b1 .nil pass0 (pa_cons (pv 3) (pa_cons (pv 4) (pa_cons (pe_fld (pv 7) rfl) (pa_cons (pe_fld (pv 7) rfl) pa_nil))))))
    (pss_one (ps_if (pt_cmp (pc_isN (pv 8))) (pss_one (ps_expr (pe_bm PySem.F.plainAttrs_list PySem.F.slot_list_append PySem.F.type_list_append mt_append (pv 4) (pa_cons (pv 6) pa_nil)))) (pss_one (ps_expr (pe_bm PySem.F.plainAttrs_list PySem.F.slot_list_append PySem.F.type_list_append mt_append (pv 5) (pa_cons (pe_op op_cat (pe_lst (pa_cons (pe_tup (pa_cons (pv 6) (pa_cons pe_int pa_nil))) pa_nil)) (pv 8)) pa_nil))))))) pss_nil)))
    (pss_one (ps_ret (pv 5)))))))), ?_⟩
  refine cut1 (fun σ' H' => H' = H ∧ ∃ wv, σ' = [some (.ref n), some v, some wv, none, none, none, none, none, none] ∧ WdA K H wv W) (fun X hX => ?_) ?_
  · cases hW with
    | non => exact ⟨_, rfl, _, rfl, ifT rfl (hX _ _ ⟨rfl, _, rfl, aJ, _, rfl, .inr (fJ H), rfl, joinW⟩)⟩
    | @seq a ws h f => exact ⟨_, rfl, _, rfl, ifF rfl ⟨_, rfl, hX _ _ ⟨rfl, _, rfl, a, _, rfl, .inl h, f, fun _ => rfl⟩⟩⟩
  rintro σ' H' ⟨hH', wv, rfl, hw⟩
  subst hH'
  obtain ⟨dx, hn⟩ := nt.ob
  refine ⟨_, rfl, n, dx, _, rfl, hn, nflds_no _ _ (by decide +kernel) (by decide +kernel), n, l, _, ds, rfl, nt, by omega, fun a xs H1 s1 na ea Rb => ?_⟩
  have lxs := Rb.length
  refine ⟨by show 0 ≤ sizeLine; decide, fun B hB => ?_⟩
  have nB : H' B = none := s1.free hB
  have sB := same_new hB (.lst [])
  have eB : upd H1 B (.lst []) B = some (.lst []) := upd_same
  generalize upd H1 B (.lst []) = H2 at sB eB ⊢
  refine ⟨by show 0 ≤ sizeLine; decide, fun F hF => ?_⟩
  have nF : H' F = none := (s1.trans sB).free hF
  have nBF : B ≠ F := ne_of_none eB hF
  have sF := same_new hF (.lst [])
  have eF : upd H2 F (.lst []) F = some (.lst []) := upd_same
  generalize upd H2 F (.lst []) = H3 at sF eF ⊢
  have s3 := s1.trans (sB.trans sF)
  have ea3 := (sB.trans sF) _ _ ea
  have naB : a ≠ B := ne_of_none ea hB
  have naF : a ≠ F := ne_of_none (sB _ _ ea) hF
  have sk := sk_len ds
  have slt := sk_lt pt
  have s13 := sB.trans sF
  refine ⟨_, rfl, a, rfl, ⟨_, SqL.of ea3⟩, ?_⟩
  have nB1 : H1 B = none := hB
  have nF1 : H1 F = none := sB.free hF
  refine for_enum (xs := xs) (fun i σ HH => Same H1 HH ∧ ∃ (us : List V) (z6 z7 z8 : Option V), σ = [some (.ref n), some v, some wv, some (.ref a), some (.ref B), some (.ref F), z6, z7, z8] ∧ HH B = some (.lst ((ringF W (skl ds) i).1.map fun (e : Br) => V.int ((e.1 : Nat) : Int))) ∧ HH F = some (.lst us) ∧ Rgs K H' HH us ((ringF W (skl ds) i).2.map (·.2)) ∧ ∀ x ∈ us, x ≠ .ref F ∧ x ≠ .ref B) ⟨s13, [], none, none, none, rfl, sF _ _ eB, eF, .nil, fun x hx => (by cases hx)⟩ (fun i σ HH _ h => h.1.seq (SqL.of ea)) ?_ ?_
  · rintro i x σ H4 T2 hx ⟨s4, us, z6, z7, z8, rfl, eB4, eF4, G4, nx4⟩ hT
    have hi : i < ds.length := by
      have := (List.getElem?_eq_some_iff.mp hx).1
      omega
    obtain ⟨⟨k0, u, v0, p0⟩, hd⟩ : ∃ d, ds[i]? = some d := ⟨_, List.getElem?_eq_getElem hi⟩
    obtain ⟨y, z, ey, rw0, fz0⟩ := Rb.at hd
    have ex : x = .ref y := by rw [ey] at hx; exact (Option.some.inj hx).symm
    subst ex
    obtain ⟨u0, u1, v1, v2⟩ : PtOk (m : Int) u v0 := pt _ (List.mem_of_getElem? hd)
    obtain ⟨uN, rfl⟩ : ∃ n : Nat, u = (n : Int) := ⟨u.toNat, by omega⟩
    obtain ⟨vN, rfl⟩ : ∃ n : Nat, v0 = (n : Int) := ⟨v0.toNat, by omega⟩
    have skd : (skl ds)[i]? = some (k0, uN, vN) := by
      have := sk_at hd
      rwa [show ((k0, (uN : Int), (vN : Int), p0) : RD).2.1.toNat = uN from Int.toNat_natCast uN, show ((k0, (uN : Int), (vN : Int), p0) : RD).2.2.1.toNat = vN from Int.toNat_natCast vN] at this
    have ri := ringF_ok (W := W) slt i (by omega)
    have bo := brok_of pt ri
    have bl' := br_len (W := W) (sk := skl ds) i
    have gl := G4.l
    rw [List.length_map] at gl
    have rl := ri.rl
    have succ := ringF_succ (W := W) skd
    generalize ringF W (skl ds) i = S at eB4 G4 ri bo bl' gl rl succ
    have sT := same_new hT (.tup [.int (i : Int), .ref y])
    refine ⟨T2, _, rfl, SqT.of upd_same, rfl, _, _, rfl, _, _, rfl, rfl, ?_⟩
    have nT1 : H1 T2 = none := s4.free hT
    generalize upd H4 T2 (.tup [.int (i : Int), .ref y]) = H5 at sT ⊢
    have s5 := s4.trans sT
    have eB5 := sT _ _ eB4
    have eF5 := sT _ _ eF4
    have G5 := G4.same sT
    obtain ⟨dr, hy⟩ := id (rw0.same s5)
    obtain ⟨pw, ws, ew, hws, fl, hinv⟩ := hw.same (s1.trans s5)
    refine ⟨_, rfl, k0, y, dr, _, rfl, hy, (rflds_no _ _ _ (by decide +kernel) (by decide +kernel) (by decide +kernel)), _, rfl, _, rfl, pw, ws, ew, hws, rfl, fl, _, rfl, ?_⟩
    have hin : inV (.str k0.wd) ws = W k0 := hinv k0
    by_cases hk : W k0 = true
    · refine ifT (by show (if false = true then _ else inV (V.str k0.wd) ws) = true; rw [if_neg (by decide), hin]; exact hk) ?_
      refine ⟨_, rfl, _, rfl, _, rfl, y, CK _, _, _, _, rfl, hy, T.cl _, T.nG _, rflds_goal _ _ _, _, rfl, y, CK _, _, _, _, rfl, hy, T.cl _, T.nS _, rflds_start _ _ _, a, B, xs, ds, S.1, m, vN, uN, rfl, s5.seq (SqL.of ea), Rb.same s5, SqL.of eB5, bo, by omega, ri.pt, h20, by omega, fun hnone H6 s6 => ?_, fun st hst l' ys H6 s6 nl el S6 => ?_⟩
      · refine ⟨_, rfl, _, rfl, ifT rfl ?_⟩
        have eB6 := s6 _ _ eB5
        have s06 := s5.trans s6
        refine ⟨_, rfl, .inl ⟨rfl, _, SqL.of eB6⟩, _, rfl, B, _, _, rfl, rfl, eB6, small1000 (by rw [List.length_map]; omega), ?_⟩
        have eS : ringS W S i (k0, uN, vN) = (S.1 ++ [(i, uN, vN)], S.2) := by
          unfold ringS
          rw [if_pos hk, hnone]
        rw [succ, eS]
        refine ⟨s06.change nB1, us, _, _, _, rfl, ?_, by rw [upd_ne (Ne.symm nBF)]; exact s6 _ _ eF5, (G5.same s6).updO eB6 (fun x hx => (nx4 x hx).2), nx4⟩
        rw [upd_same, List.map_append]; rfl
      · refine ⟨_, rfl, _, rfl, ifF rfl ?_⟩
        have eF6 := s6 _ _ eF5
        have s06 := s5.trans s6
        refine ⟨_, rfl, .inl ⟨rfl, _, SqL.of eF6⟩, _, rfl, by show 2 ≤ sizeLine; decide, fun t ht => ?_⟩
        have st7 := same_new ht (.tup [.int (i : Int), .int 1])
        have et : SqT K (upd H6 t (.tup [.int (i : Int), .int 1])) t [.int (i : Int), .int 1] := SqT.of upd_same
        generalize upd H6 t (.tup [.int (i : Int), .int 1]) = H7 at st7 et ⊢
        refine ⟨by show 1 ≤ sizeLine; decide, fun L1 hL1 => ?_⟩
        have s8 := same_new hL1 (.lst [.ref t])
        have e8 : upd H7 L1 (.lst [.ref t]) L1 = some (.lst [.ref t]) := upd_same
        generalize upd H7 L1 (.lst [.ref t]) = H8 at s8 e8 ⊢
        have lst' := chain_len ri.pt (show vN < m by omega) hst
        have lys := S6.length
        refine ⟨_, rfl, L1, l', _, _, rfl, rfl, e8, (st7.trans s8) _ _ el, by rw [sizeLine_eq]; simp only [List.length_cons, List.length_nil]; omega, fun C hC => ?_⟩
        have nC8 : H8 C = none := hC
        have s9 := same_new hC (.lst ([.ref t] ++ ys))
        have e9 : upd H8 C (.lst ([.ref t] ++ ys)) C = some (.lst ([.ref t] ++ ys)) := upd_same
        generalize upd H8 C (.lst ([.ref t] ++ ys)) = H9 at s9 e9 ⊢
        have s69 := st7.trans (s8.trans s9)
        have eF9 := s69 _ _ eF6
        have s09 := s06.trans s69
        have nCF : C ≠ F := Ne.symm (ne_of_none ((st7.trans s8) _ _ eF6) nC8)
        have nCB : C ≠ B := Ne.symm (ne_of_none ((st7.trans s8) _ _ (s6 _ _ eB5)) nC8)
        refine ⟨F, _, _, rfl, rfl, eF9, small1000 (by omega), ?_⟩
        have eS : ringS W S i (k0, uN, vN) = (S.1, S.2 ++ [(i, (i, 1) :: st)]) := by
          unfold ringS
          rw [if_pos hk, hst]
        rw [succ, eS]
        have SC : Sts K H9 ([.ref t] ++ ys) ((i, 1) :: st) := .cons ((s8.trans s9).seqT et) (S6.same s69)
        refine ⟨s09.change nF1, us ++ [.ref C], _, _, _, rfl, by rw [upd_ne nBF]; exact s69 _ _ (s6 _ _ eB5), upd_same, ?_, fun x hx => ?_⟩
        · rw [List.map_append]
          have G9 := ((G5.same s6).same s69).snoc (((s1.trans s06).trans (st7.trans s8)).free nC8) e9 SC
          refine G9.updO eF9 fun x hx => ?_
          rcases List.mem_append.mp hx with z | z
          · exact (nx4 x z).1
          · have : x = .ref C := by simpa using z
            rw [this]; exact fun z => nCF (by injection z)
        · rcases List.mem_append.mp hx with z | z
          · exact nx4 x z
          · have : x = .ref C := by simpa using z
            rw [this]; exact ⟨fun z => nCF (by injection z), fun z => nCB (by injection z)⟩
    · refine ifF (by show (if false = true then _ else inV (V.str k0.wd) ws) = false; rw [if_neg (by decide), hin]; simpa using hk) ?_
      have eS : ringS W S i (k0, uN, vN) = S := by
        unfold ringS
        rw [if_neg hk]
      rw [succ, eS]
      exact ⟨s5, us, _, _, _, rfl, eB5, eF5, G5, nx4⟩
  rintro σ H4 ⟨s4, us, z6, z7, z8, rfl, eB4, eF4, G4, nx4⟩
  rw [lxs] at G4
  exact ⟨_, rfl, q F us H4 (s1.trans s4) nF eF4 G4 fun x hx => (nx4 x hx).1⟩
end
end K71

set_option Elab.async false
set_option linter.all false
set_option maxHeartbeats 1000000
namespace Blk
open L2
def Jn (sk : List Sk) (i a c : Nat) : Prop := ∃ k u v, sk[i]? = some (k, u, v) ∧ k ≠ Kd.pu ∧ ((u = a ∧ v = c) ∨ (v = a ∧ u = c))
theorem Jn.symm {sk : List Sk} {i a c : Nat} (h : Jn sk i a c) : Jn sk i c a := by
  obtain ⟨k, u, v, h1, h2, h3⟩ := h
  exact ⟨k, u, v, h1, h2, by omega⟩
theorem Jn.same {sk : List Sk} {i a c p q : Nat} (h : Jn sk i a c) (g : Jn sk i p q) : (p = a ∧ q = c) ∨ (p = c ∧ q = a) := by
  obtain ⟨k, u, v, h1, _, h3⟩ := h
  obtain ⟨k', u', v', g1, _, g3⟩ := g
  rw [h1] at g1
  cases g1
  omega
inductive Wk (sk : List Sk) : Nat → List (Nat × Nat) → Nat → Prop where
  | nil {a : Nat} : Wk sk a [] a
  | cons {a c b i : Nat} {l : List (Nat × Nat)} (h : Jn sk i a c) (r : Wk sk c l b) : Wk sk a ((i, c) :: l) b
def pts (a : Nat) (l : List (Nat × Nat)) : List Nat := a :: l.map (·.2)
def rws (l : List (Nat × Nat)) : List Nat := l.map (·.1)
def pre : Nat → List (Nat × Nat) → List Nat
  | _, [] => []
  | a, (_, c) :: l => a :: pre c l
def rvp : Nat → List (Nat × Nat) → List (Nat × Nat)
  | _, [] => []
  | a, (i, c) :: l => rvp c l ++ [(i, a)]
section
variable {sk : List Sk} {a b c x : Nat} {l l' : List (Nat × Nat)}
theorem Wk.app (h : Wk sk a l c) (g : Wk sk c l' b) : Wk sk a (l ++ l') b := by
  induction h with
  | nil => exact g
  | cons j _ ih => exact .cons j (ih g)
theorem Wk.rev (h : Wk sk a l b) : Wk sk b (rvp a l) a := by
  induction h with
  | nil => exact .nil
  | cons j _ ih => exact ih.app (.cons j.symm .nil)
theorem Wk.pts_eq (h : Wk sk a l b) : pts a l = pre a l ++ [b] := by
  induction h with
  | nil => rfl
  | @cons a c b i l j _ ih =>
    show a :: pts c l = a :: (pre c l ++ [b])
    rw [ih]
theorem Wk.end_in (h : Wk sk a l b) : b ∈ pts a l := by rw [h.pts_eq]; simp
theorem Wk.pts_rev (h : Wk sk a l b) : pts b (rvp a l) = (pts a l).reverse := by
  induction h with
  | nil => rfl
  | @cons a c b i l j _ ih =>
    show b :: (rvp c l ++ [(i, a)]).map (·.2) = (a :: pts c l).reverse
    rw [List.map_append, ← List.cons_append, List.reverse_cons, ← ih]; rfl
theorem rws_rev : ∀ (l : List (Nat × Nat)) (a : Nat), rws (rvp a l) = (rws l).reverse
  | [], _ => rfl
  | (i, c) :: l, a => by
    show (rvp c l ++ [(i, a)]).map (·.1) = (i :: rws l).reverse
    rw [List.map_append, List.reverse_cons, ← rws_rev l c]; rfl
theorem pts_app (h : Wk sk a l c) (l' : List (Nat × Nat)) : pts a (l ++ l') = pre a l ++ pts c l' := by
  induction h with
  | nil => rfl
  | @cons a c b i l j _ ih =>
    show a :: pts c (l ++ l') = a :: (pre c l ++ pts b l')
    rw [ih]
theorem Wk.row (h : Wk sk a l b) {i : Nat} (hi : i ∈ rws l) : ∃ z ∈ pre a l, ∃ w ∈ pts a l, Jn sk i z w := by
  induction h with
  | nil => cases hi
  | @cons a c b k l j _ ih =>
    rcases List.mem_cons.mp hi with z | z
    · subst z
      exact ⟨a, List.mem_cons_self, c, List.mem_cons_of_mem _ List.mem_cons_self, j⟩
    · obtain ⟨z, hz, w, hw, g⟩ := ih z
      exact ⟨z, List.mem_cons_of_mem _ hz, w, List.mem_cons_of_mem _ hw, g⟩
theorem pre_pts (h : Wk sk a l b) {z : Nat} (hz : z ∈ pre a l) : z ∈ pts a l := by rw [h.pts_eq]; exact List.mem_append_left _ hz
theorem Wk.nodup (h : Wk sk a l b) (n : (pts a l).Nodup) : (rws l).Nodup := by
  induction h with
  | nil => exact List.nodup_nil
  | @cons a c b i l j r ih =>
    have n' : a ∉ pts c l ∧ (pts c l).Nodup := List.nodup_cons.mp n
    refine List.nodup_cons.mpr ⟨fun hi => ?_, ih n'.2⟩
    obtain ⟨z, hz, w, hw, g⟩ := r.row hi
    rcases j.same g with ⟨e, _⟩ | ⟨_, e⟩
    · rw [e] at hz; exact n'.1 (pre_pts r hz)
    · rw [e] at hw; exact n'.1 hw
theorem Wk.at_row (h : Wk sk a l b) {i : Nat} (hi : i ∈ rws l) : ∃ l1 x y l2, l = l1 ++ (i, y) :: l2 ∧ Wk sk a l1 x ∧ Jn sk i x y ∧ Wk sk y l2 b := by
  induction h with
  | nil => cases hi
  | @cons a c b k l j r ih =>
    rcases List.mem_cons.mp hi with z | z
    · subst z
      exact ⟨[], a, c, l, rfl, .nil, j, r⟩
    · obtain ⟨l1, x, y, l2, e, w1, g, w2⟩ := ih z
      exact ⟨(k, c) :: l1, x, y, l2, by rw [e]; rfl, .cons j w1, g, w2⟩
theorem Wk.at_pt (h : Wk sk a l b) (hx : x ∈ pts a l) : ∃ l1 l2, l = l1 ++ l2 ∧ Wk sk a l1 x ∧ Wk sk x l2 b := by
  induction h with
  | @nil a =>
    have : x = a := by simpa [pts] using hx
    subst this
    exact ⟨[], [], rfl, .nil, .nil⟩
  | @cons a c b k l j r ih =>
    rcases List.mem_cons.mp hx with z | z
    · subst z
      exact ⟨[], _, rfl, .nil, .cons j r⟩
    · obtain ⟨l1, l2, e, w1, w2⟩ := ih z
      exact ⟨(k, c) :: l1, l2, by rw [e]; rfl, .cons j w1, w2⟩
theorem Wk.first {V : Nat → Prop} (h : Wk sk a l b) (hx : x ∈ pts a l) (v : V x) : ∃ l1 y l2, l = l1 ++ l2 ∧ Wk sk a l1 y ∧ Wk sk y l2 b ∧ V y ∧ ∀ z ∈ pre a l1, ¬ V z := by
  induction h with
  | @nil a =>
    have : x = a := by simpa [pts] using hx
    subst this
    exact ⟨[], x, [], rfl, .nil, .nil, v, fun z hz => by cases hz⟩
  | @cons a c b k l j r ih =>
    by_cases va : V a
    · exact ⟨[], a, _, rfl, .nil, .cons j r, va, fun z hz => by cases hz⟩
    · rcases List.mem_cons.mp hx with z | z
      · subst z; exact absurd v va
      · obtain ⟨l1, y, l2, e, w1, w2, vy, n⟩ := ih z
        refine ⟨(k, c) :: l1, y, l2, by rw [e]; rfl, .cons j w1, w2, vy, fun z hz => ?_⟩
        rcases List.mem_cons.mp hz with z' | z'
        · rw [z']; exact va
        · exact n z z'
end
def Cy (sk : List Sk) (i j : Nat) : Prop := ∃ a b l, Jn sk i b a ∧ Wk sk a l b ∧ (pts a l).Nodup ∧ a ≠ b ∧ i ∉ rws l ∧ (j = i ∨ j ∈ rws l)
theorem Cy.symm {sk : List Sk} {i j : Nat} (h : Cy sk i j) : Cy sk j i := by
  obtain ⟨a, b, l, ji, w, nd, ne, ni, hj⟩ := h
  rcases hj with rfl | hj
  · exact ⟨a, b, l, ji, w, nd, ne, ni, .inl rfl⟩
  obtain ⟨l1, x, y, l2, e, w1, jj, w2⟩ := w.at_row hj
  have nr := w.nodup nd
  subst e
  have wn : Wk sk y (l2 ++ (i, a) :: l1) x := w2.app (.cons ji w1)
  have e1 : pts a (l1 ++ (j, y) :: l2) = pts a l1 ++ pts y l2 := by show a :: (l1 ++ (j, y) :: l2).map (·.2) = _; rw [List.map_append]; rfl
  have e2 : pts y (l2 ++ (i, a) :: l1) = pts y l2 ++ pts a l1 := by show y :: (l2 ++ (i, a) :: l1).map (·.2) = _; rw [List.map_append]; rfl
  have r1 : rws (l1 ++ (j, y) :: l2) = rws l1 ++ j :: rws l2 := by unfold rws; rw [List.map_append]; rfl
  have r2 : rws (l2 ++ (i, a) :: l1) = rws l2 ++ i :: rws l1 := by unfold rws; rw [List.map_append]; rfl
  rw [e1] at nd
  rw [r1] at nr ni
  have nd' := List.nodup_append.mp nd
  have nr' := List.nodup_append.mp nr
  refine ⟨y, x, _, jj, wn, ?_, ?_, ?_, .inr ?_⟩
  · rw [e2]; exact List.nodup_append.mpr ⟨nd'.2.1, nd'.1, fun p hp q hq => (nd'.2.2 q hq p hp).symm⟩
  · exact fun z => nd'.2.2 x w1.end_in y List.mem_cons_self z.symm
  · rw [r2]
    intro z
    rcases List.mem_append.mp z with z | z
    · exact (List.nodup_cons.mp nr'.2.1).1 z
    · rcases List.mem_cons.mp z with z | z
      · exact ni (by rw [← z]; simp)
      · exact nr'.2.2 j z j List.mem_cons_self rfl
  · rw [r2]; simp
end Blk

set_option Elab.async false
set_option linter.all false
set_option maxHeartbeats 1000000
namespace Blk
open L2
theorem nd_rev {l : List Nat} (h : l.Nodup) : l.reverse.Nodup := (List.reverse_perm l).nodup_iff.mpr h
theorem pts_app' {sk : List Sk} {a c : Nat} {l : List (Nat × Nat)} (h : Wk sk a l c) (i y : Nat) (l' : List (Nat × Nat)) : pts a (l ++ (i, y) :: l') = pts a l ++ pts y l' := by
  show a :: (l ++ (i, y) :: l').map (·.2) = _
  rw [List.map_append]; rfl
theorem rws_app (l l' : List (Nat × Nat)) : rws (l ++ l') = rws l ++ rws l' := by unfold rws; rw [List.map_append]
theorem arc {sk : List Sk} {a b x y : Nat} {s1 s2 s3 L : List (Nat × Nat)} (w1 : Wk sk a s1 x) (w2 : Wk sk x s2 y) (w3 : Wk sk y s3 b) (wl : Wk sk x L y) (nd : (pts a (s1 ++ (s2 ++ s3))).Nodup) (nl : (pts x L).Nodup) (out : ∀ z ∈ pts x L, z ≠ x → z ≠ y → z ∉ pts a (s1 ++ (s2 ++ s3))) (xy : x ≠ y) :
    Wk sk a (s1 ++ (L ++ s3)) b ∧ (pts a (s1 ++ (L ++ s3))).Nodup := by
  refine ⟨w1.app (wl.app w3), ?_⟩
  have e1 : pts a (s1 ++ (s2 ++ s3)) = pre a s1 ++ (pre x s2 ++ pts y s3) := by rw [pts_app w1, pts_app w2]
  have e2 : pts a (s1 ++ (L ++ s3)) = pre a s1 ++ (pre x L ++ pts y s3) := by rw [pts_app w1, pts_app wl]
  rw [e2]
  rw [e1] at nd
  have n1 := List.nodup_append.mp nd
  have n2 := List.nodup_append.mp n1.2.1
  have el := wl.pts_eq
  have nl' := List.nodup_append.mp (el ▸ nl)
  have xin : x ∈ pre x s2 := by
    cases w2 with
    | nil => exact absurd rfl xy
    | cons j r => exact List.mem_cons_self
  have yin : y ∈ pts y s3 := List.mem_cons_self
  have cls : ∀ z ∈ pre x L, z = x ∨ z ∉ pre a s1 ++ (pre x s2 ++ pts y s3) := fun z hz => by
    by_cases c : z = x
    · exact .inl c
    · refine .inr (fun h => out z (by rw [el]; exact List.mem_append_left _ hz) c ?_ (by rw [e1]; exact h))
      exact fun cy => nl'.2.2 z hz y (by simp) cy
  refine List.nodup_append.mpr ⟨n1.1, List.nodup_append.mpr ⟨nl'.1, n2.2.1, fun p hp q hq z => ?_⟩, fun p hp q hq z => ?_⟩
  · subst z
    rcases cls p hp with c | c
    · subst c
      exact n2.2.2 p xin p hq rfl
    · exact c (List.mem_append_right _ (List.mem_append_right _ hq))
  · subst z
    rcases List.mem_append.mp hq with h | h
    · rcases cls p h with c | c
      · subst c
        exact n1.2.2 p hp p (List.mem_append_left _ xin) rfl
      · exact c (List.mem_append_left _ hp)
    · exact n1.2.2 p hp p (List.mem_append_right _ h) rfl
theorem Cy.trans {sk : List Sk} {e f g : Nat} (h : Cy sk e f) (k : Cy sk f g) : Cy sk e g := by
  have h0 := h
  obtain ⟨a, b, l, je, w, nd, ne, nie, hf⟩ := h
  obtain ⟨a', b', l', jg, w', nd', ne', nig, hf'⟩ := k.symm
  rcases hf with rfl | hf
  · exact k
  rcases hf' with rfl | hf'
  · exact h0
  by_cases cg : g = e ∨ g ∈ rws l
  · exact ⟨a, b, l, je, w, nd, ne, nie, cg⟩
  have cg1 : g ≠ e := fun z => cg (.inl z)
  -- the row that both have
  obtain ⟨p, hp, q, hq, jf⟩ : ∃ p ∈ pts a l, ∃ q ∈ pts a l, Jn sk f p q := by
    obtain ⟨z, hz, w2, hw, j⟩ := w.row hf
    exact ⟨z, pre_pts w hz, w2, hw, j⟩
  obtain ⟨m1, p', q', m2, em, wm1, jf', wm2⟩ := w'.at_row hf'
  have pq' : p' ≠ q' := fun z => by
    rw [em, pts_app' wm1] at nd'
    exact (List.nodup_append.mp nd').2.2 p' wm1.end_in q' List.mem_cons_self z
  have inV : ∀ z, z = p' ∨ z = q' → z ∈ pts a l := fun z hz => by
    rcases jf.same jf' with ⟨h1, h2⟩ | ⟨h1, h2⟩
    · rcases hz with z' | z'
      · rw [z', h1]; exact hp
      · rw [z', h2]; exact hq
    · rcases hz with z' | z'
      · rw [z', h1]; exact hq
      · rw [z', h2]; exact hp
  have p'in : p' ∈ pts a' l' := by rw [em, pts_app' wm1]; exact List.mem_append_left _ wm1.end_in
  have q'in : q' ∈ pts a' l' := by rw [em, pts_app' wm1]; exact List.mem_append_right _ List.mem_cons_self
  clear em wm1 wm2
  obtain ⟨l1, x, l2, el, w1, w2, vx, out1⟩ := w'.first (V := fun z => z ∈ pts a l) p'in (inV p' (.inl rfl))
  have w2r := w2.rev
  have xr : x ∈ pts b' (rvp x l2) := w2r.end_in
  obtain ⟨t1, y, t2, et, v1, v2, vy, out2⟩ := w2r.first (V := fun z => z ∈ pts a l) xr vx
  have ep : pts a' l' = pre a' l1 ++ pts x l2 := by rw [el]; exact pts_app w1 l2
  have er : (pts x l2).reverse = pre b' t1 ++ pts y t2 := by rw [← w2.pts_rev, et]; exact pts_app v1 t2
  have n1 := List.nodup_append.mp (ep ▸ nd')
  have n2 := List.nodup_append.mp (er ▸ (nd_rev n1.2.1))
  have mem2 : ∀ z, z ∈ pts x l2 ↔ z ∈ pre b' t1 ∨ z ∈ pts y t2 := fun z => by rw [← List.mem_reverse, er, List.mem_append]
  have xy : x ≠ y := fun z => by
    subst z
    have t2n : t2 = [] := by
      cases v2 with
      | nil => rfl
      | @cons _ c _ i l j r => exact absurd r.end_in (List.nodup_cons.mp n2.2.1).1
    subst t2n
    have only : ∀ z, z ∈ pts a' l' → z ∈ pts a l → z = x := fun z hz hv => by
      rw [ep] at hz
      rcases List.mem_append.mp hz with h | h
      · exact absurd hv (out1 z h)
      · rcases (mem2 z).mp h with h | h
        · exact absurd hv (out2 z h)
        · simpa [pts] using h
    exact pq' ((only p' p'in (inV p' (.inl rfl))).trans (only q' q'in (inV q' (.inr rfl))).symm)
  -- the way about g
  have wr := w1.rev
  have wL : Wk sk x (rvp a' l1 ++ (g, b') :: t1) y := wr.app (.cons jg.symm v1)
  have pL : pts x (rvp a' l1 ++ (g, b') :: t1) = (pts a' l1).reverse ++ pts b' t1 := by rw [pts_app' wr, w1.pts_rev]
  have dis : ∀ z ∈ pts a' l1, ∀ u ∈ pts b' t1, z ≠ u := fun z hz u hu c => by
    subst c
    rw [w1.pts_eq] at hz
    rw [v1.pts_eq] at hu
    have hu2 : z ∈ pre b' t1 ∨ z = y := by simpa using hu
    have hz2 : z ∈ pre a' l1 ∨ z = x := by simpa using hz
    have ux : z ∈ pts x l2 := (mem2 z).mpr (hu2.imp id (fun c => by rw [c]; exact List.mem_cons_self))
    rcases hz2 with h | h
    · exact n1.2.2 z h z ux rfl
    · subst h
      rcases hu2 with h | h
      · exact out2 z h vx
      · exact xy h
  have nL : (pts x (rvp a' l1 ++ (g, b') :: t1)).Nodup := by
    rw [pL]
    refine List.nodup_append.mpr ⟨nd_rev ?_, ?_, fun z hz u hu => dis z (List.mem_reverse.mp hz) u hu⟩
    · rw [w1.pts_eq]
      exact List.nodup_append.mpr ⟨n1.1, by simp, fun z hz u hu c => by
        have : u = x := by simpa using hu
        subst this; subst c
        exact out1 z hz vx⟩
    · rw [v1.pts_eq]
      exact List.nodup_append.mpr ⟨n2.1, by simp, fun z hz u hu c => by
        have : u = y := by simpa using hu
        subst this; subst c
        exact out2 z hz vy⟩
  have outL : ∀ z ∈ pts x (rvp a' l1 ++ (g, b') :: t1), z ≠ x → z ≠ y → z ∉ pts a l := fun z hz zx zy => by
    rw [pL] at hz
    rcases List.mem_append.mp hz with h | h
    · have h := List.mem_reverse.mp h
      rw [w1.pts_eq] at h
      rcases List.mem_append.mp h with h | h
      · exact out1 z h
      · exact absurd (by simpa using h) zx
    · rw [v1.pts_eq] at h
      rcases List.mem_append.mp h with h | h
      · exact out2 z h
      · exact absurd (by simpa using h) zy
  have ain : a ∈ pts a l := List.mem_cons_self
  have bin : b ∈ pts a l := w.end_in
  have neL : e ∉ rws (rvp a' l1 ++ (g, b') :: t1) := fun he => by
    rw [rws_app, rws_rev] at he
    have key : ∀ {s t : Nat} {m : List (Nat × Nat)}, Wk sk s m t → (∀ z ∈ pre s m, z ∉ pts a l) → e ∉ rws m := fun wm o hm => by
      obtain ⟨z, hz, u, _, j⟩ := wm.row hm
      rcases je.same j with ⟨c, _⟩ | ⟨c, _⟩
      · rw [c] at hz; exact o b hz bin
      · rw [c] at hz; exact o a hz ain
    rcases List.mem_append.mp he with h | h
    · exact key w1 out1 (List.mem_reverse.mp h)
    · rcases List.mem_cons.mp h with h | h
      · exact cg1 h.symm
      · exact key v1 out2 h
  have gL : g ∈ rws (rvp a' l1 ++ (g, b') :: t1) := by rw [rws_app]; exact List.mem_append_right _ List.mem_cons_self
  generalize rvp a' l1 ++ (g, b') :: t1 = L at wL nL outL neL gL
  -- put into the ring of e
  obtain ⟨s1, s2, es, ws1, ws2⟩ := w.at_pt vx
  have yin : y ∈ pre a s1 ++ pts x s2 := by rw [← pts_app ws1, ← es]; exact vy
  have fin : ∀ {x y : Nat} {s1 s2 s3 L : List (Nat × Nat)}, l = s1 ++ (s2 ++ s3) → Wk sk a s1 x → Wk sk x s2 y → Wk sk y s3 b → Wk sk x L y → (pts x L).Nodup → (∀ z ∈ pts x L, z ≠ x → z ≠ y → z ∉ pts a l) → x ≠ y → e ∉ rws L → g ∈ rws L → Cy sk e g := fun {x y s1 s2 s3 L} el u1 u2 u3 ul nL oL xy neL gL => by
    subst el
    obtain ⟨wn, nn⟩ := arc u1 u2 u3 ul nd nL oL xy
    refine ⟨a, b, _, je, wn, nn, ne, fun he => ?_, .inr ?_⟩
    · rw [rws_app, rws_app] at he nie
      rcases List.mem_append.mp he with h | h
      · exact nie (List.mem_append_left _ h)
      · rcases List.mem_append.mp h with h | h
        · exact neL h
        · exact nie (List.mem_append_right _ (List.mem_append_right _ h))
    · rw [rws_app, rws_app]; exact List.mem_append_right _ (List.mem_append_left _ gL)
  rcases List.mem_append.mp yin with h | h
  · -- y ahead of x
    have y1 : y ∈ pts a s1 := pre_pts ws1 h
    obtain ⟨r1, r2, er1, u1, u2⟩ := ws1.at_pt y1
    refine fin (x := y) (y := x) (s1 := r1) (s2 := r2) (s3 := s2) (by rw [es, er1, List.append_assoc]) u1 u2 ws2 wL.rev (by rw [wL.pts_rev]; exact nd_rev nL) (fun z hz z1 z2 => outL z (by rw [wL.pts_rev] at hz; exact List.mem_reverse.mp hz) z2 z1) (Ne.symm xy) (by rw [rws_rev]; exact fun h => neL (List.mem_reverse.mp h)) (by rw [rws_rev]; exact List.mem_reverse.mpr gL)
  · obtain ⟨r1, r2, er1, u1, u2⟩ := ws2.at_pt h
    exact fin (s1 := s1) (s2 := r1) (s3 := r2) (by rw [es, er1]) ws1 u1 u2 wL nL outL xy neL gL
end Blk

set_option Elab.async false
set_option linter.all false
set_option maxHeartbeats 1000000
namespace Blk
open L2
def joinsW : Kd → Bool := fun k => decide (k ≠ .pu)
theorem way_eq {es : List Br} {b e : Nat} : wayF es b e = wget (iterF es b 60).1 e := rfl
section
theorem ringS_no {W : Kd → Bool} {s : RS} {n u v : Nat} {k : Kd} (hw : W k = true) (hy : wayF s.1 v u = none) : ringS W s n (k, u, v) = (s.1 ++ [(n, u, v)], s.2) := by
  unfold ringS
  rw [if_pos hw]
  dsimp only
  generalize wayF s.1 v u = o at hy
  subst hy
  rfl
theorem ringS_so {W : Kd → Bool} {s : RS} {n u v : Nat} {k : Kd} {st : List Stp} (hw : W k = true) (hy : wayF s.1 v u = some st) : ringS W s n (k, u, v) = (s.1, s.2 ++ [(n, (n, 1) :: st)]) := by
  unfold ringS
  rw [if_pos hw]
  dsimp only
  generalize wayF s.1 v u = o at hy
  subst hy
  rfl
theorem ringS_out {W : Kd → Bool} {s : RS} {n u v : Nat} {k : Kd} (hw : ¬ W k = true) : ringS W s n (k, u, v) = s := by
  unfold ringS
  rw [if_neg hw]
end
structure RJ (sk : List Sk) (n : Nat) (s : RS) : Prop where
  br : ∀ e ∈ s.1, e.1 < n ∧ ∃ k, sk[e.1]? = some (k, e.2.1, e.2.2) ∧ k ≠ .pu
  rg : ∀ c ∈ s.2, c.1 < n ∧ ∃ k u v st ps es, sk[c.1]? = some (k, u, v) ∧ k ≠ .pu ∧ c.2 = (c.1, 1) :: st ∧ Pt es v st u ps ∧ ∀ e ∈ es, e ∈ s.1 ∧ e.1 < c.1
  al : ∀ i k u v, i < n → sk[i]? = some (k, u, v) → k ≠ .pu → (i, u, v) ∈ s.1 ∨ ∃ c ∈ s.2, c.1 = i
theorem rj_ok (sk : List Sk) : ∀ n, n ≤ sk.length → RJ sk n (ringF joinsW sk n)
  | 0, _ => ⟨fun e h => (by cases h), fun c h => (by cases h), fun i k u v h => (by omega)⟩
  | n + 1, hn => by
    have ih := rj_ok sk n (by omega)
    have hd : sk[n]? = some sk[n] := List.getElem?_eq_getElem (by omega)
    rw [ringF_succ hd]
    generalize sk[n] = d at hd
    obtain ⟨k, u, v⟩ := d
    generalize ringF joinsW sk n = s at ih
    by_cases hw : joinsW k = true
    · have hk : k ≠ .pu := of_decide_eq_true hw
      cases hy : wayF s.1 v u with
      | none =>
        rw [ringS_no hw hy]
        refine ⟨fun e he => ?_, fun c hc => ?_, fun i k' u' v' hi h1 h2 => ?_⟩
        · rcases List.mem_append.mp he with z | z
          · obtain ⟨h1, h2⟩ := ih.br e z
            exact ⟨by omega, h2⟩
          · have : e = (n, u, v) := by simpa using z
            rw [this]; exact ⟨Nat.lt_succ_self n, k, hd, hk⟩
        · obtain ⟨h1, k', u', v', st, ps, es, g1, g2, g3, g4, g5⟩ := ih.rg c hc
          exact ⟨by omega, k', u', v', st, ps, es, g1, g2, g3, g4, fun e he => ⟨List.mem_append_left _ (g5 e he).1, (g5 e he).2⟩⟩
        · by_cases c : i = n
          · subst c
            rw [hd] at h1
            cases h1
            exact .inl (by simp)
          · rcases ih.al i k' u' v' (by omega) h1 h2 with z | z
            · exact .inl (List.mem_append_left _ z)
            · exact .inr z
      | some st =>
        rw [ringS_so hw hy]
        rw [way_eq] at hy
        refine ⟨fun e he => let ⟨h1, h2⟩ := ih.br e he; ⟨by omega, h2⟩, fun c hc => ?_, fun i k' u' v' hi h1 h2 => ?_⟩
        · rcases List.mem_append.mp hc with z | z
          · obtain ⟨h1, r⟩ := ih.rg c z
            exact ⟨by omega, r⟩
          · have : c = (n, (n, 1) :: st) := by simpa using z
            subst this
            obtain ⟨ps, pp, _⟩ := (wi_iter s.1 v 60).pt u st (wget_some hy)
            exact ⟨Nat.lt_succ_self n, k, u, v, st, ps, s.1, hd, hk, rfl, pp, fun e he => ⟨he, (ih.br e he).1⟩⟩
        · by_cases c : i = n
          · subst c
            exact .inr ⟨_, List.mem_append_right _ List.mem_cons_self, rfl⟩
          · rcases ih.al i k' u' v' (by omega) h1 h2 with z | ⟨c', hc', e⟩
            · exact .inl z
            · exact .inr ⟨c', List.mem_append_left _ hc', e⟩
    · rw [ringS_out hw]
      refine ⟨fun e he => let ⟨h1, h2⟩ := ih.br e he; ⟨by omega, h2⟩, fun c hc => let ⟨h1, r⟩ := ih.rg c hc; ⟨by omega, r⟩, fun i k' u' v' hi h1 h2 => ?_⟩
      by_cases c : i = n
      · subst c
        rw [hd] at h1
        cases h1
        exact absurd (decide_eq_true h2) hw
      · exact ih.al i k' u' v' (by omega) h1 h2
section
variable {sk : List Sk} {A : Nat → Bool} {p q : Nat → Int}
theorem pt_tel {es : List Br} {b x : Nat} {st : List Stp} {ps : List Nat} {A0 : Bool} (h : Pt es b st x ps) (H : ∀ s ∈ st, ∀ a c, Goes es s a c → q c - q a = if A0 = true then p c - p a else 0) : q x - q b = if A0 = true then p x - p b else 0 := by
  induction h with
  | nil => split <;> omega
  | @snoc st y z ps s _ g _ ih =>
    have i1 := ih fun s hs => H s (List.mem_append_left _ hs)
    have i2 := H s (by simp) y z g
    split at i1 <;> split <;> simp_all <;> omega
theorem pt_cl {es : List Br} {b x : Nat} {st : List Stp} {ps : List Nat} {C : Nat → Prop} (h : Pt es b st x ps) (H : ∀ e ∈ es, (C e.2.1 ↔ C e.2.2)) : C b ↔ C x := by
  induction h with
  | nil => exact Iff.rfl
  | @snoc st y z ps s _ g _ ih =>
    refine ih.trans ?_
    obtain ⟨u, v, he, h⟩ := g
    have := H _ he
    rcases h with ⟨_, rfl, rfl⟩ | ⟨_, rfl, rfl⟩
    · exact this
    · exact this.symm
theorem pot (m : Nat) (hm : ∀ d ∈ sk, d.2.1 < m ∧ d.2.2 < m) (m20 : m ≤ 20) (p : Nat → Int) : ∀ n, n ≤ sk.length → (∀ c ∈ (ringF joinsW sk n).2, ∀ s ∈ c.2, A s.1 = A c.1) → ∃ q : Nat → Int, ∀ i k u v, i < n → sk[i]? = some (k, u, v) → k ≠ .pu → q v - q u = if A i = true then p v - p u else 0
  | 0, _, _ => ⟨fun _ => 0, fun i k u v h => by omega⟩
  | n + 1, hn, hA => by
    have rj := rj_ok sk n (by omega)
    have ri := ringF_ok (W := joinsW) hm n (by omega)
    have hd : sk[n]? = some sk[n] := List.getElem?_eq_getElem (by omega)
    rw [ringF_succ hd] at hA
    have pm := hm _ (List.mem_of_getElem? hd)
    have ihq := pot m hm m20 p n (by omega)
    generalize sk[n] = d at hd hA pm
    obtain ⟨k, u, v⟩ := d
    generalize ringF joinsW sk n = s at rj ri hA ihq
    by_cases hw : joinsW k = true
    · have hk : k ≠ .pu := of_decide_eq_true hw
      cases hy : wayF s.1 v u with
      | none =>
        rw [ringS_no hw hy] at hA
        rw [way_eq] at hy
        obtain ⟨q, hq⟩ := ihq hA
        have wi := wi_iter s.1 v 60
        have q0 := iter_end ri.pt pm.2 m20
        have cb : ∀ e ∈ s.1, (e.2.1 ∈ wkeys (iterF s.1 v 60).1 ↔ e.2.2 ∈ wkeys (iterF s.1 v 60).1) := fun e he => ⟨fun z => wi.cl _ z (by rw [q0]; simp) (e.1, 1) _ ⟨e.2.1, e.2.2, he, .inl ⟨rfl, rfl, rfl⟩⟩, fun z => wi.cl _ z (by rw [q0]; simp) (e.1, -1) _ ⟨e.2.1, e.2.2, he, .inr ⟨rfl, rfl, rfl⟩⟩⟩
        have nu : u ∉ wkeys (iterF s.1 v 60).1 := fun z => by
          obtain ⟨st, e⟩ := wget_in z
          rw [e] at hy
          cases hy
        have iv := wi.kb
        generalize wkeys (iterF s.1 v 60).1 = C at cb nu iv
        refine ⟨fun z => q z + if z ∈ C then (if A n = true then p v - p u else 0) - (q v - q u) else 0, fun i k' u' v' hi h1 h2 => ?_⟩
        by_cases c : i = n
        · subst c
          rw [hd] at h1
          cases h1
          simp only [if_pos iv, if_neg nu]
          omega
        · have e := hq i k' u' v' (by omega) h1 h2
          have cc : (u' ∈ C ↔ v' ∈ C) := by
            rcases rj.al i k' u' v' (by omega) h1 h2 with z | ⟨c', hc', ei⟩
            · exact cb _ z
            · obtain ⟨_, k2, u2, v2, st, ps, es, g1, g2, g3, g4, g5⟩ := rj.rg c' hc'
              rw [ei, h1] at g1
              cases g1
              exact (pt_cl (C := fun z => z ∈ C) g4 fun e he => cb e (g5 e he).1).symm
          simp only [cc]
          split <;> split at e <;> simp_all <;> omega
      | some st =>
        rw [ringS_so hw hy] at hA
        rw [way_eq] at hy
        obtain ⟨q, hq⟩ := ihq fun c hc => hA c (List.mem_append_left _ hc)
        refine ⟨q, fun i k' u' v' hi h1 h2 => ?_⟩
        by_cases c : i = n
        · subst c
          rw [hd] at h1
          cases h1
          obtain ⟨ps, pp, _⟩ := (wi_iter s.1 v 60).pt u st (wget_some hy)
          have hr := hA (i, (i, 1) :: st) (List.mem_append_right _ List.mem_cons_self)
          have t := pt_tel (A0 := A i) (p := p) (q := q) pp fun t ht a c g => by
            obtain ⟨x, y, he, h⟩ := g
            obtain ⟨lt, k2, g1, g2⟩ := rj.br _ he
            have e := hq _ _ _ _ lt g1 g2
            have ea : A t.1 = A i := hr t (List.mem_cons_of_mem _ ht)
            rw [show A ((t.1, x, y) : Br).1 = A i from ea] at e
            have e : q y - q x = if A i = true then p y - p x else 0 := e
            rcases h with ⟨_, rfl, rfl⟩ | ⟨_, rfl, rfl⟩
            · exact e
            · split at e <;> split <;> simp_all <;> omega
          split at t <;> split <;> simp_all <;> omega
        · exact hq i k' u' v' (by omega) h1 h2
    · rw [ringS_out hw] at hA
      obtain ⟨q, hq⟩ := ihq hA
      refine ⟨q, fun i k' u' v' hi h1 h2 => ?_⟩
      by_cases c : i = n
      · subst c
        rw [hd] at h1
        cases h1
        exact absurd (decide_eq_true h2) hw
      · exact hq i k' u' v' (by omega) h1 h2
end
end Blk

set_option Elab.async false
set_option linter.all false
set_option maxHeartbeats 1000000
namespace Blk
open L2
theorem Wk.tel {sk : List Sk} {A : Nat → Bool} {p q : Nat → Int} {a b : Nat} {l : List (Nat × Nat)} (H : ∀ i a c, Jn sk i a c → q c - q a = if A i = true then p c - p a else 0) (h : Wk sk a l b) (t : ∀ r ∈ rws l, A r = true) : q b - q a = p b - p a := by
  induction h with
  | nil => omega
  | @cons a c b i l j _ ih =>
    have i1 := ih fun r hr => t r (List.mem_cons_of_mem _ hr)
    have i2 := H i a c j
    rw [if_pos (t i List.mem_cons_self)] at i2
    omega
theorem Wk.tel0 {sk : List Sk} {A : Nat → Bool} {p q : Nat → Int} {a b : Nat} {l : List (Nat × Nat)} (H : ∀ i a c, Jn sk i a c → q c - q a = if A i = true then p c - p a else 0) (h : Wk sk a l b) (t : ∀ z ∈ pts a l, p z = 0) : q b - q a = 0 := by
  induction h with
  | nil => omega
  | @cons a c b i l j _ ih =>
    have i1 := ih fun r hr => t r (List.mem_cons_of_mem _ hr)
    have i2 := H i a c j
    rw [t a List.mem_cons_self, t c (List.mem_cons_of_mem _ List.mem_cons_self)] at i2
    split at i2 <;> omega
theorem Wk.first_no {sk : List Sk} {A : Nat → Bool} {a b j : Nat} {l : List (Nat × Nat)} (h : Wk sk a l b) (hj : j ∈ rws l) (n : A j = false) : ∃ l1 x i y l2, l = l1 ++ (i, y) :: l2 ∧ Wk sk a l1 x ∧ Jn sk i x y ∧ Wk sk y l2 b ∧ (∀ r ∈ rws l1, A r = true) ∧ A i = false := by
  induction h with
  | nil => cases hj
  | @cons a c b i l g r ih =>
    cases ha : A i with
    | false => exact ⟨[], a, i, c, l, rfl, .nil, g, r, fun r hr => (by cases hr), ha⟩
    | true =>
      rcases List.mem_cons.mp hj with z | z
      · subst z; rw [n] at ha; cases ha
      · obtain ⟨l1, x, i', y, l2, e, w1, g', w2, t, f⟩ := ih z
        refine ⟨(i, c) :: l1, x, i', y, l2, by rw [e]; rfl, .cons g w1, g', w2, fun r hr => ?_, f⟩
        rcases List.mem_cons.mp hr with z' | z'
        · rw [z']; exact ha
        · exact t r z'
theorem cy_class {sk : List Sk} {A : Nat → Bool} (P : ∀ p : Nat → Int, ∃ q : Nat → Int, ∀ i a c, Jn sk i a c → q c - q a = if A i = true then p c - p a else 0) {i j : Nat} (h : Cy sk i j) (ha : A i = true) : A j = true := by
  obtain ⟨a, b, l, ji, w, nd, ne, ni, hj⟩ := h
  rcases hj with rfl | hj
  · exact ha
  cases hn : A j with
  | true => rfl
  | false =>
    exfalso
    obtain ⟨l1, x, i', y, l2, e, w1, g, w2, t, f⟩ := w.first_no hj hn
    rw [e, pts_app' w1] at nd
    have dj := (List.nodup_append.mp nd).2.2
    obtain ⟨q, H⟩ := P fun z => if z = x then 1 else 0
    have h1 := H i b a ji
    rw [if_pos ha] at h1
    have h2 := w1.tel H t
    have h3 := H i' x y g
    rw [f] at h3
    have h4 := w2.tel0 H fun z hz => if_neg (fun c => dj x w1.end_in z hz c.symm)
    have hb : ¬ b = x := fun c => dj x w1.end_in b w2.end_in c.symm
    rw [if_neg hb] at h1
    have h5 : (if x = x then (1 : Int) else 0) = 1 := if_pos rfl
    rw [h5] at h2
    have h3 : q y - q x = 0 := by simpa using h3
    split at h1 <;> simp_all <;> omega
def mst (ms : List Int) (r : List Nat) : List Int := ms.map fun x => if x ∈ r.map (fun i => ms.getD i 0) then (r.map fun i => ms.getD i 0).headD 0 else x
def bmk (n : Nat) (rs : List (List Nat)) : List Int := rs.foldl mst ((List.range n).map fun (i : Nat) => (i : Int))
theorem mst_len (ms : List Int) (r : List Nat) : (mst ms r).length = ms.length := by unfold mst; rw [List.length_map]
theorem fold_len : ∀ (rs : List (List Nat)) (ms : List Int), (rs.foldl mst ms).length = ms.length
  | [], _ => rfl
  | r :: rs, ms => by show (rs.foldl mst (mst ms r)).length = _; rw [fold_len rs, mst_len]
theorem bmk_len (n : Nat) (rs : List (List Nat)) : (bmk n rs).length = n := by unfold bmk; rw [fold_len, List.length_map, List.length_range]
theorem mst_at {ms : List Int} {r : List Nat} {i : Nat} (h : i < ms.length) : (mst ms r).getD i 0 = if ms.getD i 0 ∈ r.map (fun i => ms.getD i 0) then (r.map fun i => ms.getD i 0).headD 0 else ms.getD i 0 := by
  unfold mst
  rw [List.getD_eq_getElem?_getD, List.getElem?_map, List.getElem?_eq_getElem h, List.getD_eq_getElem?_getD, List.getElem?_eq_getElem h]; rfl
theorem mst_pair {ms : List Int} {r : List Nat} {i j : Nat} (hi : i < ms.length) (hj : j < ms.length) (e : ms.getD i 0 = ms.getD j 0) : (mst ms r).getD i 0 = (mst ms r).getD j 0 := by rw [mst_at hi, mst_at hj, e]
theorem fold_pair : ∀ (rs : List (List Nat)) {ms : List Int} {i j : Nat}, i < ms.length → j < ms.length → ms.getD i 0 = ms.getD j 0 → (rs.foldl mst ms).getD i 0 = (rs.foldl mst ms).getD j 0
  | [], _, _, _, _, _, e => e
  | r :: rs, ms, i, j, hi, hj, e => fold_pair rs (by rw [mst_len]; exact hi) (by rw [mst_len]; exact hj) (mst_pair hi hj e)
theorem fold_ring : ∀ (rs : List (List Nat)) {ms : List Int} {r : List Nat} {i j : Nat}, r ∈ rs → i ∈ r → j ∈ r → i < ms.length → j < ms.length → (rs.foldl mst ms).getD i 0 = (rs.foldl mst ms).getD j 0
  | r0 :: rs, ms, r, i, j, hr, hi, hj, li, lj => by
    show (rs.foldl mst (mst ms r0)).getD i 0 = (rs.foldl mst (mst ms r0)).getD j 0
    rcases List.mem_cons.mp hr with z | z
    · subst z
      refine fold_pair rs (by rw [mst_len]; exact li) (by rw [mst_len]; exact lj) ?_
      rw [mst_at li, mst_at lj, if_pos (List.mem_map.mpr ⟨i, hi, rfl⟩), if_pos (List.mem_map.mpr ⟨j, hj, rfl⟩)]
    · exact fold_ring rs z hi hj (by rw [mst_len]; exact li) (by rw [mst_len]; exact lj)
theorem fold_rel {E : Nat → Nat → Prop} (sy : ∀ i j, E i j → E j i) (tr : ∀ i j k, E i j → E j k → E i k) : ∀ (rs : List (List Nat)) {ms : List Int}, (∀ r ∈ rs, ∀ i ∈ r, i < ms.length ∧ ∀ j ∈ r, E i j) → (∀ i j, i < ms.length → j < ms.length → ms.getD i 0 = ms.getD j 0 → E i j) → ∀ i j, i < ms.length → j < ms.length → (rs.foldl mst ms).getD i 0 = (rs.foldl mst ms).getD j 0 → E i j
  | [], _, _, h => h
  | r :: rs, ms, hr, h => by
    have key := fold_rel sy tr rs (ms := mst ms r) (fun r' h' i hi => by rw [mst_len]; exact hr r' (List.mem_cons_of_mem _ h') i hi) ?_
    · rw [mst_len] at key
      exact key
    intro i j hi hj e
    rw [mst_len] at hi hj
    rw [mst_at hi, mst_at hj] at e
    have rr := hr r List.mem_cons_self
    have hd : ∀ {x : Int}, x ∈ r.map (fun i => ms.getD i 0) → (r.map fun i => ms.getD i 0).headD 0 ∈ r.map (fun i => ms.getD i 0) := fun {x} hx => by
      cases r with
      | nil => cases hx
      | cons a r => exact List.mem_cons_self
    by_cases ci : ms.getD i 0 ∈ r.map (fun i => ms.getD i 0)
    · by_cases cj : ms.getD j 0 ∈ r.map (fun i => ms.getD i 0)
      · obtain ⟨x, hx, ex⟩ := List.mem_map.mp ci
        obtain ⟨y, hy, ey⟩ := List.mem_map.mp cj
        exact tr _ _ _ (sy _ _ (h x i (rr x hx).1 hi ex)) (tr _ _ _ ((rr x hx).2 y hy) (h y j (rr y hy).1 hj ey))
      · rw [if_pos ci, if_neg cj] at e
        exact absurd (e ▸ hd ci) cj
    · by_cases cj : ms.getD j 0 ∈ r.map (fun i => ms.getD i 0)
      · rw [if_neg ci, if_pos cj] at e
        exact absurd (e ▸ hd cj) ci
      · rw [if_neg ci, if_neg cj] at e
        exact h i j hi hj e
def rgs (sk : List Sk) : List (List Nat) := (ringF joinsW sk sk.length).2.map fun c => c.2.map (·.1)
def mkb (sk : List Sk) (i : Nat) : Int := (bmk sk.length (rgs sk)).getD i 0
theorem range_inj {n i j : Nat} (hi : i < n) (hj : j < n) (e : ((List.range n).map fun (i : Nat) => (i : Int)).getD i 0 = ((List.range n).map fun (i : Nat) => (i : Int)).getD j 0) : i = j := by
  rw [List.getD_eq_getElem?_getD, List.getD_eq_getElem?_getD, List.getElem?_map, List.getElem?_map, List.getElem?_range hi, List.getElem?_range hj] at e
  have e : (i : Int) = (j : Int) := e
  omega
theorem rg_cy {sk : List Sk} {n : Nat} (hn : n ≤ sk.length) {c : Nat × List Stp} (hc : c ∈ (ringF joinsW sk n).2) : (∀ i ∈ c.2.map (·.1), i < n) ∧ ∀ i ∈ c.2.map (·.1), i = c.1 ∨ Cy sk c.1 i := by
  have rj := rj_ok sk n hn
  obtain ⟨lt, k, u, v, st, ps, es, h1, h2, h3, h4, h5⟩ := rj.rg c hc
  have jn : ∀ {s : Stp} {a c' : Nat}, Goes es s a c' → Jn sk s.1 a c' ∧ s.1 < c.1 := fun {s a c'} ⟨x, y, he, h⟩ => by
    obtain ⟨e1, e2⟩ := h5 _ he
    obtain ⟨_, k', g1, g2⟩ := rj.br _ e1
    refine ⟨⟨k', x, y, g1, g2, ?_⟩, e2⟩
    rcases h with ⟨_, rfl, rfl⟩ | ⟨_, rfl, rfl⟩
    · exact .inl ⟨rfl, rfl⟩
    · exact .inr ⟨rfl, rfl⟩
  have way : ∀ {b x : Nat} {st : List Stp} {ps : List Nat}, Pt es b st x ps → ∃ l, Wk sk b l x ∧ pts b l = ps ∧ ps.Nodup ∧ rws l = st.map (·.1) ∧ ∀ r ∈ rws l, r < c.1 := fun {b x st ps} p => by
    induction p with
    | nil => exact ⟨[], .nil, rfl, by simp, rfl, fun r hr => (by cases hr)⟩
    | @snoc st y z ps s _ g nz ih =>
      obtain ⟨l, w, e1, nd, e2, lr⟩ := ih
      obtain ⟨j, sl⟩ := jn g
      refine ⟨l ++ [(s.1, z)], w.app (.cons j .nil), by rw [pts_app' w, e1]; rfl, ?_, by rw [rws_app, e2, List.map_append]; rfl, fun r hr => ?_⟩
      · refine List.nodup_append.mpr ⟨nd, by simp, fun a ha b' hb => ?_⟩
        have : b' = z := by simpa using hb
        subst this
        exact fun q => nz (q ▸ ha)
      · rw [rws_app] at hr
        rcases List.mem_append.mp hr with h | h
        · exact lr r h
        · have : r = s.1 := by simpa [rws] using h
          rw [this]; exact sl
  obtain ⟨l, w, e1, nd, e2, lr⟩ := way h4
  rw [h3]
  refine ⟨fun i hi => ?_, fun i hi => ?_⟩
  · rcases List.mem_cons.mp hi with z | z
    · rw [z]; exact lt
    · rw [← e2] at z; have := lr i z; omega
  · rcases List.mem_cons.mp hi with z | z
    · exact .inl z
    · rw [← e2] at z
      by_cases uv : v = u
      · subst uv
        cases w with
        | nil => cases z
        | @cons _ c' _ i' l' j r =>
          rw [← e1] at nd
          exact absurd r.end_in (List.nodup_cons.mp nd).1
      · exact .inr ⟨v, u, l, ⟨k, u, v, h1, h2, .inl ⟨rfl, rfl⟩⟩, w, e1 ▸ nd, uv, fun h => (by have := lr _ h; omega), .inr z⟩
theorem mkb_iff {sk : List Sk} {m : Nat} (hm : ∀ d ∈ sk, d.2.1 < m ∧ d.2.2 < m) (m20 : m ≤ 20) {i j : Nat} (hi : i < sk.length) (hj : j < sk.length) : mkb sk i = mkb sk j ↔ (i = j ∨ Cy sk i j) := by
  have l0 : ((List.range sk.length).map fun (i : Nat) => (i : Int)).length = sk.length := by rw [List.length_map, List.length_range]
  have lt : ∀ r ∈ rgs sk, ∀ i ∈ r, i < sk.length := fun r hr i hi => by
    obtain ⟨c, hc, rfl⟩ := List.mem_map.mp hr
    exact (rg_cy (Nat.le_refl _) hc).1 i hi
  refine ⟨fun e => ?_, fun e => ?_⟩
  · refine fold_rel (E := fun i j => i = j ∨ Cy sk i j) (fun i j h => h.imp Eq.symm Cy.symm) (fun i j k h1 h2 => ?_) (rgs sk) (fun r hr i hi => ⟨by rw [l0]; exact lt r hr i hi, fun j hj => ?_⟩) (fun i j hi hj e => .inl (range_inj (by rwa [l0] at hi) (by rwa [l0] at hj) e)) i j (by rw [l0]; exact hi) (by rw [l0]; exact hj) e
    · rcases h1 with rfl | h1
      · exact h2
      · rcases h2 with rfl | h2
        · exact .inr h1
        · exact .inr (h1.trans h2)
    · obtain ⟨c, hc, rfl⟩ := List.mem_map.mp hr
      have key := (rg_cy (Nat.le_refl _) hc).2
      rcases key i hi with rfl | h1
      · rcases key j hj with rfl | h2
        · exact .inl rfl
        · exact .inr h2
      · rcases key j hj with rfl | h2
        · exact .inr h1.symm
        · exact .inr (h1.symm.trans h2)
  · rcases e with rfl | e
    · rfl
    · have A := cy_class (A := fun r => decide (mkb sk i = mkb sk r)) (fun p => ?_) e (decide_eq_true rfl)
      · exact of_decide_eq_true A
      obtain ⟨q, hq⟩ := pot (A := fun r => decide (mkb sk i = mkb sk r)) m hm m20 p sk.length (Nat.le_refl _) fun c hc s hs => by
        have mem : ∀ x ∈ c.2.map (·.1), x < ((List.range sk.length).map fun (i : Nat) => (i : Int)).length := fun x hx => by rw [l0]; exact (rg_cy (Nat.le_refl _) hc).1 x hx
        have rin : c.2.map (·.1) ∈ rgs sk := List.mem_map.mpr ⟨c, hc, rfl⟩
        obtain ⟨_, k, u, v, st, ps, es, _, _, h3, _⟩ := (rj_ok sk sk.length (Nat.le_refl _)).rg c hc
        have c1 : c.1 ∈ c.2.map (·.1) := by rw [h3]; exact List.mem_cons_self
        have s1 : s.1 ∈ c.2.map (·.1) := List.mem_map.mpr ⟨s, hs, rfl⟩
        have : mkb sk s.1 = mkb sk c.1 := fold_ring (rgs sk) rin s1 c1 (mem _ s1) (mem _ c1)
        show decide _ = decide _
        rw [this]
      refine ⟨q, fun r a c ⟨k, u, v, h1, h2, h3⟩ => ?_⟩
      have lr : r < sk.length := (List.getElem?_eq_some_iff.mp h1).1
      have e := hq r k u v lr h1 h2
      rcases h3 with ⟨rfl, rfl⟩ | ⟨rfl, rfl⟩
      · exact e
      · split at e <;> split <;> simp_all <;> omega
end Blk

set_option Elab.async false
set_option linter.all false
set_option maxRecDepth 100000
set_option maxHeartbeats 4000000
namespace K71
open PySem L2 Shp
section
variable {P : Program} {w : World} {K : PySem.W.Frag} {mg : Str → Option Value} {base : Heap} {f g1 g2 g3 g4 g5 g6 g7 g8 : Addr} {fd gd1 gd2 gd3 gd4 gd5 gd6 gd7 gd8 : FuncData} {CX : CXT}
variable {CR : Addr} {CK : Kd → Addr} {fW fJ fT fS : Kd → Addr} {fdW fdJ fdT fdS : Kd → FuncData}
theorem nd_number_way_marks : (["number", "way", "marks"] : List Str).Nodup := by decide +kernel
theorem nd_mark_met : (["mark", "met"] : List Str).Nodup := by decide +kernel
theorem nd_number_mark_marks_k : (["number", "mark", "marks", "k"] : List Str).Nodup := by decide +kernel
theorem eqV_int (p c : Int) : eqV (.int p) (.int c) = decide (p = c) := by unfold eqV; first | rfl | simp
theorem inV_ints (c : Int) : ∀ ps : List Int, inV (.int c) (ps.map V.int) = decide (c ∈ ps)
  | [] => rfl
  | p :: ps => by
    have ih := inV_ints c ps
    show (eqV (.int p) (.int c) || inV (.int c) (ps.map V.int)) = _
    rw [ih, eqV_int]
    by_cases h : p = c
    · subst h; simp
    · have h' : c ≠ p := fun z => h z.symm
      simp [h, h']
theorem flat_ints : ∀ ps : List Int, (ps.map V.int).all flatV = true
  | [] => rfl
  | p :: ps => by show (true && (ps.map V.int).all flatV) = true; rw [flat_ints ps]; rfl
theorem op_in_seqK {X : Cx} {K : PySem.W.Frag} (h : X.K = K) : OpR X (compareOp .In) (rIn K false) := by subst h; exact op_in_seq
theorem int_at {ms : List Int} {i : Nat} (h : i < ms.length) : (ms.map V.int)[i]? = some (.int (ms.getD i 0)) := by rw [List.getElem?_map, List.getElem?_eq_getElem h, List.getD_eq_getElem?_getD, List.getElem?_eq_getElem h]; rfl
def blkF (ds : List RD) (k : Nat) : List Nat := (List.range ds.length).filter fun j => decide (Blk.mkb (skl ds) j = Blk.mkb (skl ds) k)
def spBlk (CN : Addr) (K : PySem.W.Frag) : Sp := fun vs H Q _ => ∃ (n l : Addr) (m k : Nat) (ds : List RD), vs = [.ref n, .int (k : Int)] ∧ NetAt CN K H n l (m : Int) ds ∧ (∀ d ∈ ds, PtOk (m : Int) d.2.1 d.2.2.1) ∧ m ≤ 20 ∧ ds.length ≤ 40 ∧ k < ds.length ∧ ∀ r H', Same H H' → H r = none → H' r = some (.lst ((blkF ds k).map fun (j : Nat) => V.int (j : Int))) → Q (.ref r) H'
theorem rgs_at {sk : List Sk} {i m : Nat} {st : List Stp} (hm : ∀ d ∈ sk, d.2.1 < m ∧ d.2.2 < m) (h : ((ringF Blk.joinsW sk sk.length).2.map (·.2))[i]? = some st) : (Blk.rgs sk)[i]? = some (st.map (·.1)) ∧ (∀ x ∈ st.map (·.1), x < sk.length) ∧ st ≠ [] ∧ st.length ≤ m := by
  rw [List.getElem?_map] at h
  obtain ⟨c, hc, rfl⟩ := Option.map_eq_some_iff.mp h
  obtain ⟨_, k, u, v, st, pts, _, h3, _, _, h6⟩ := (ringF_ok (W := Blk.joinsW) hm sk.length (Nat.le_refl _)).r c (List.mem_of_getElem? hc)
  refine ⟨by unfold Blk.rgs; rw [List.getElem?_map, hc]; rfl, (Blk.rg_cy (Nat.le_refl _) (List.mem_of_getElem? hc)).1, fun z => ?_, ?_⟩
  · rw [h3] at z; cases z
  · rw [h3]; exact h6
theorem mst_get {ms : List Int} {r : List Nat} {j : Nat} {c : Int} (h : ms[j]? = some c) : (Blk.mst ms r)[j]? = some (if c ∈ r.map (fun i => ms.getD i 0) then (r.map fun i => ms.getD i 0).headD 0 else c) := by
  unfold Blk.mst
  rw [List.getElem?_map, h]; rfl
theorem bmk_succ {n i : Nat} {rs : List (List Nat)} {r : List Nat} (h : rs[i]? = some r) : Blk.bmk n (rs.take (i + 1)) = Blk.mst (Blk.bmk n (rs.take i)) r := by
  rw [List.take_add_one, h]
  unfold Blk.bmk
  rw [List.foldl_append]; rfl
theorem bmk_zero (n : Nat) : (Blk.bmk n []).map V.int = (List.range n).map fun (i : Nat) => V.int (i : Int) := by
  unfold Blk.bmk
  show ((List.range n).map fun (i : Nat) => (i : Int)).map V.int = _
  rw [List.map_map]; rfl
abbrev sBlk : Stmt := top 35
theorem scBlk : FnScope ["net", "k", "marks", "ring", "met"] ["net", "k"] (defScope sBlk) := ⟨rfl, rfl, rfl, by decide +kernel, rfl, by decide +kernel, by decide +kernel⟩
theorem ok_blk {dV : Value} (F : FunD K "block_of" "block_of" sBlk dV f fd)
    {CN : Addr} {ds2 : List Value} (mli : mg "list" = none) (mr : mg "range" = none) (men : mg "enumerate" = none) (NTx : NT K mg CN)
    {gCo : Addr} {gdCo : FuncData} (GCo : FnOk P w K mg base CX0 1 gCo gdCo ["self"] (spCount CN K)) (bCo : Binds K gdCo ["self"] []) (mCo : Meth K CN "count" gCo)
    (G1 : FnOk P w K mg base CX0 3 g1 gd1 ["k", "count"] spRN) (b1 : Binds K gd1 ["k", "count"] []) (k1 : PySem.W.keepIn K (.ref g1) = true) (m1 : mg "refuse_number" = some (.ref g1))
    (G2 : FnOk P w K mg base CX0 5 g2 gd2 ["net", "words"] (spRings CN K)) (bd2 : Binds K gd2 ["net", "words"] ds2) (d2 : Vals [.non] ds2) (k2 : PySem.W.keepIn K (.ref g2) = true) (m2 : mg "rings" = some (.ref g2)) :
    FnOk P w K mg base CX 6 f fd ["net", "k"] (spBlk CN K) := by
  refine F.ok scBlk (fun vs H Q E h => ?_) (fun cdv A outer s H vs Q E hr h => ?_)
  · obtain ⟨n, l, m, k, ds, rfl, nt, pt, m20, h40, hk, q⟩ := h
    rfl
  obtain ⟨n, l, m, k, ds, rfl, nt, pt, m20, h40, hk, q⟩ := h
  have r1 := hr.mono (show 1 ≤ 5 by omega)
  have r3 := hr.mono (show 3 ≤ 5 by omega)
  refine ⟨_, (pss_cons (ps_expr (pe_call G1 r3 rfl m1 k1 b1 .nil pass0 (pa_cons (pv 1) (pa_cons (pe_meth0 (pv 0) NTx.cl mCo GCo r1 bCo .nil pass0) pa_nil))))
    (pss_cons (ps_set (i := 2) scBlk.nd rfl (Or.inr rfl) (pe_listrange rfl rfl mli rfl mr (pa_cons (pe_meth0 (pv 0) NTx.cl mCo GCo r1 bCo .nil pass0) pa_nil)))
    (pss_cons (ps_for PassesOwn.never rfl (pi_list (pe_call G2 hr rfl m2 k2 bd2 d2 pass0 (pa_cons (pv 0) pa_nil))) (pg_name (i := 3) scBlk.nd rfl (Or.inl rfl))
      (pss_cons (ps_set (i := 4) scBlk.nd rfl (Or.inr rfl) (pe_comp (nl := 2) (fr := [2]) (Nc := ["number", "way", "marks"]) (cl := [("marks", s.heap.objs.size + 2)]) (g := (gTup K 2 (gCons (gName 0) (gCons (gName 1) gNil)))) rfl ⟨rfl, rfl, by decide +kernel, by decide +kernel, (sub_cons rfl (sub_nil)), has_of rfl, rfl, fun i n h => match i, h with | 0, h => by cases h; exact ⟨2, rfl, rfl, rfl, rfl, .inl rfl⟩ | k + 1, h => by rw [show 2 + (k + 1) = k + 3 by omega] at h; cases h⟩
        (pi_list (pv 3)) (fun C s3 H3 fp pins => (pg_tup rfl (pgs_cons (pg_name (i := 0) nd_number_way_marks rfl (Or.inl rfl)) (pgs_cons (pg_name (i := 1) nd_number_way_marks rfl (Or.inl rfl)) pgs_nil)))) (fun C s3 H3 fp pins => pif_nil)
        (fun C s3 H3 fp pins => (pe_ix (ix_listK (K := K) rfl) (pv 2) (pv 0) (fun _ _ => rfl)))))
    (pss_one (ps_set (i := 2) scBlk.nd rfl (Or.inr rfl) (pe_comp (nl := 1) (fr := [4]) (Nc := ["mark", "met"]) (cl := [("met", s.heap.objs.size + 3)]) rfl ⟨rfl, rfl, by decide +kernel, by decide +kernel, (sub_cons rfl (sub_nil)), has_of rfl, rfl, fun i n h => match i, h with | 0, h => by cases h; exact ⟨4, rfl, rfl, rfl, rfl, .inl rfl⟩ | k + 1, h => by rw [show 1 + (k + 1) = k + 2 by omega] at h; cases h⟩
        (pi_list (pv 2)) (fun C s3 H3 fp pins => (pg_name (i := 0) nd_mark_met rfl (Or.inl rfl))) (fun C s3 H3 fp pins => pif_nil)
        (fun C s3 H3 fp pins => (pe_ifExp (pt_cmpR (op_in_seqK (K := K) rfl) (pv 0) (pv 1) rfl) (pe_ix (ix_listK (K := K) rfl) (pv 1) pe_int (fun _ _ => rfl)) (pv 0))))))))
    (pss_one (ps_ret (pe_comp (nl := 2) (fr := [2, 1]) (Nc := ["number", "mark", "marks", "k"]) (cl := [("marks", s.heap.objs.size + 2), ("k", s.heap.objs.size + 1)]) (g := (gTup K 2 (gCons (gName 0) (gCons (gName 1) gNil)))) rfl ⟨rfl, rfl, by decide +kernel, by decide +kernel, (sub_cons rfl (sub_cons rfl (sub_nil))), has_of rfl, rfl, fun i n h => match i, h with | 0, h => by cases h; exact ⟨2, rfl, rfl, rfl, rfl, .inl rfl⟩ | 1, h => by cases h; exact ⟨1, rfl, rfl, rfl, rfl, .inl rfl⟩ | k + 2, h => by rw [show 2 + (k + 2) = k + 4 by omega] at h; cases h⟩
        (pi_enum rfl men rfl (pa_cons (pv 2) pa_nil)) (fun C s3 H3 fp pins => (pg_tup rfl (pgs_cons (pg_name (i := 0) nd_number_mark_marks_k rfl (Or.inl rfl)) (pgs_cons (pg_name (i := 1) nd_number_mark_marks_k rfl (Or.inl rfl)) pgs_nil)))) (fun C s3 H3 fp pins => (pif_one (pt_cmpR op_eq (pv 1) (pe_ix (ix_listK (K := K) rfl) (pv 2) (pv 3) (fun _ _ => rfl)) (nomark _))))
        (fun C s3 H3 fp pins => (pv 0)))))))), ?_⟩
  have skn := sk_len ds
  obtain ⟨dn, hn⟩ := nt.ob
  refine ⟨_, rfl, _, rfl, n, dn, _, rfl, hn, nflds_no _ _ (by decide +kernel) (by decide +kernel), n, l, _, ds, rfl, nt, ?_⟩
  refine ⟨(k : Int), _, rfl, by omega, by omega, ?_⟩
  refine ⟨_, rfl, n, dn, _, rfl, hn, nflds_no _ _ (by decide +kernel) (by decide +kernel), n, l, _, ds, rfl, nt, ?_⟩
  refine ⟨ds.length, rfl, by omega, fun M hM => ?_⟩
  have s1 := same_new hM (.lst ((List.range ds.length).map fun (i : Nat) => V.int (i : Int)))
  have e1 : upd H M (.lst ((List.range ds.length).map fun (i : Nat) => V.int (i : Int))) M = some (.lst ((List.range ds.length).map fun (i : Nat) => V.int (i : Int))) := upd_same
  generalize upd H M (.lst ((List.range ds.length).map fun (i : Nat) => V.int (i : Int))) = H1 at s1 e1 ⊢
  try dsimp only
  refine cut1 (fun σ' H' => Same H H' ∧ ∃ (M : Addr) (z3 z4 : Option V), σ' = [some (.ref n), some (.int (k : Int)), some (.ref M), z3, z4] ∧ H' M = some (.lst ((Blk.bmk ds.length (Blk.rgs (skl ds))).map V.int))) (fun X hX => ?_) ?_
  · refine ⟨_, rfl, n, l, .non, m, ds, _, rfl, nt.same s1, pt, m20, h40, .non, fun r us H2 s2 nr er hG _ => ?_⟩
    refine ⟨r, rfl, ⟨_, SqL.of er⟩, ?_⟩
    have lX : us.length = (Blk.rgs (skl ds)).length := by rw [hG.l]; unfold Blk.rgs; rw [List.length_map, List.length_map, skn]; rfl
    refine for_list (xs := us) (fun i σ H' => Same H2 H' ∧ ∃ (M : Addr) (z3 z4 : Option V), σ = [some (.ref n), some (.int (k : Int)), some (.ref M), z3, z4] ∧ H' M = some (.lst ((Blk.bmk ds.length ((Blk.rgs (skl ds)).take i)).map V.int))) ⟨Same.refl _, M, none, none, rfl, by rw [List.take_zero, bmk_zero]; exact s2 _ _ e1⟩ (fun i σ H' _ h => SqL.of (h.1 _ _ er)) ?_ ?_
    rotate_left
    · rintro σ H' ⟨s3, M', z3, z4, rfl, eM⟩
      rw [lX, List.take_length] at eM
      exact hX _ _ ⟨s1.trans (s2.trans s3), M', z3, z4, rfl, eM⟩
    rintro i x σ H3 hx ⟨s3, M', z3, z4, rfl, eM⟩
    have hi : i < us.length := (List.getElem?_eq_some_iff.mp hx).1
    have lX0 := hG.l
    obtain ⟨st, hst⟩ : ∃ st, ((ringF Blk.joinsW (skl ds) (skl ds).length).2.map (·.2))[i]? = some st := ⟨_, List.getElem?_eq_getElem (by unfold Blk.rgs at lX; rw [List.length_map] at lX ⊢; omega)⟩
    obtain ⟨rg, rlt, rne, rle⟩ := rgs_at (sk_lt pt) hst
    obtain ⟨a, ws, rfl, na, ea, sw⟩ := hG.r i x st hx (by rw [skn] at hst; exact hst)
    have sw3 := sw.same s3
    have ea3 := s3 _ _ ea
    have lms := Blk.bmk_len ds.length ((Blk.rgs (skl ds)).take i)
    rw [bmk_succ rg]
    rw [skn] at rlt
    generalize Blk.bmk ds.length ((Blk.rgs (skl ds)).take i) = ms at eM lms
    have lsw := sw3.length
    -- met
    refine ⟨_, rfl, a, rfl, ⟨_, SqL.of ea3⟩, fun D hD => ?_⟩
    have sD := same_new hD (.lst [])
    refine comp_list (xs := ws) (fun j zs H' => Same H3 H' ∧ H' D = some (.lst zs) ∧ zs = ((st.take j).map fun s => V.int (ms.getD s.1 0))) ⟨sD, upd_same, rfl⟩ (fun j zs H' h => h.2.1) (fun j zs H' _ h => SqL.of (h.1 _ _ ea3)) ?_ ?_
    · rintro j zs x H4 hx' ⟨s4, e4, rfl⟩ C hC
      obtain ⟨tt, s', rfl, hs', hT⟩ := (sw3.same s4).get hx'
      have lt : s'.1 < ds.length := rlt s'.1 (List.mem_map.mpr ⟨s', List.mem_of_getElem? hs', rfl⟩)
      refine ⟨tt, _, rfl, hT, rfl, _, _, rfl, _, _, rfl, rfl, keep2.1, keep2.2, iteT ?_⟩
      refine ⟨_, rfl, _, rfl, M', _, _, _, rfl, rfl, SqL.of (s4 _ _ eM), atI_nat (int_at (by omega)), e4, ?_, hC _ _ ⟨s4.change hD, upd_same, ?_⟩⟩
      · refine small1000 ?_
        rw [List.length_map, List.length_take]; omega
      · rw [List.take_add_one, hs', List.map_append]; rfl
    rintro zs H4 ⟨s4, e4, rfl⟩
    have emet : (st.take ws.length).map (fun s => V.int (ms.getD s.1 0)) = ((st.map (·.1)).map fun i => ms.getD i 0).map V.int := by
      rw [lsw, List.take_length, List.map_map, List.map_map]; rfl
    rw [emet] at e4
    generalize hr2 : st.map (·.1) = r2 at rg rlt e4
    have r2ne : r2 ≠ [] := fun z => rne (by rw [z] at hr2; exact List.map_eq_nil_iff.mp hr2)
    have eM4 := s4 _ _ eM
    -- marks
    refine ⟨_, rfl, M', rfl, ⟨_, SqL.of eM4⟩, fun N hN => ?_⟩
    have sN := same_new hN (.lst [])
    refine comp_list (xs := ms.map V.int) (fun j zs H' => Same H4 H' ∧ H' N = some (.lst zs) ∧ zs = ((Blk.mst ms r2).take j).map V.int) ⟨sN, upd_same, rfl⟩ (fun j zs H' h => h.2.1) (fun j zs H' _ h => SqL.of (h.1 _ _ eM4)) ?_ ?_
    · rintro j zs x H5 hx' ⟨s5, e5, rfl⟩ C hC
      rw [List.getElem?_map] at hx'
      obtain ⟨c, hc, rfl⟩ := Option.map_eq_some_iff.mp hx'
      have hj : j < ms.length := (List.getElem?_eq_some_iff.mp hc).1
      have e45 := s5 _ _ e4
      have tk := mst_get (r := r2) hc
      have ll : (((Blk.mst ms r2).take j).map V.int).length ≤ 1000 := by rw [List.length_map, List.length_take]; omega
      refine ⟨keep1.1, keep1.2, iteT ?_⟩
      refine ⟨_, rfl, _, rfl, D, _, rfl, .inl (SqL.of e45), rfl, flat_ints _, _, rfl, ?_⟩
      rw [inV_ints]
      by_cases cm : c ∈ r2.map (fun i => ms.getD i 0)
      · refine L2.ifT (decide_eq_true cm) ?_
        rw [if_pos cm] at tk
        have h0 : atI ((r2.map fun i => ms.getD i 0).map V.int) 0 = some (.int ((r2.map fun i => ms.getD i 0).headD 0)) := by
          cases r2 with
          | nil => exact absurd rfl r2ne
          | cons y ys => exact atI_nat (j := 0) rfl
        refine ⟨_, rfl, D, _, _, _, rfl, rfl, SqL.of e45, h0, e5, small1000 ll, hC _ _ ⟨s5.change hN, upd_same, ?_⟩⟩
        rw [List.take_add_one, tk, List.map_append]; rfl
      · refine L2.ifF (decide_eq_false cm) ?_
        rw [if_neg cm] at tk
        refine ⟨_, rfl, e5, small1000 ll, hC _ _ ⟨s5.change hN, upd_same, ?_⟩⟩
        rw [List.take_add_one, tk, List.map_append]; rfl
    rintro zs H5 ⟨s5, e5, rfl⟩
    rw [List.length_map, ← Blk.mst_len ms r2, List.take_length] at e5
    exact ⟨s3.trans (s4.trans s5), N, _, _, rfl, e5⟩
  rintro σ9 H9 ⟨s9, M', z3, z4, rfl, eM⟩
  have lms := Blk.bmk_len ds.length (Blk.rgs (skl ds))
  have mke : ∀ j, (Blk.bmk ds.length (Blk.rgs (skl ds))).getD j 0 = Blk.mkb (skl ds) j := fun j => by unfold Blk.mkb; rw [skn]
  refine ⟨_, rfl, M', rfl, ⟨_, SqL.of eM⟩, fun D hD => ?_⟩
  have sD := same_new hD (.lst [])
  refine comp_enum (xs := (Blk.bmk ds.length (Blk.rgs (skl ds))).map V.int) (fun i zs H' => Same H9 H' ∧ H' D = some (.lst zs) ∧ zs = (((List.range i).filter fun j => decide (Blk.mkb (skl ds) j = Blk.mkb (skl ds) k)).map fun (p : Nat) => V.int (p : Int))) ⟨sD, upd_same, rfl⟩ (fun i zs H' h => h.2.1) (fun i zs H' _ h => SqL.of (h.1 _ _ eM)) ?_ ?_
  · rintro i zs x H2 T2 hx ⟨s2, e2, rfl⟩ hT C hC
    rw [List.getElem?_map] at hx
    obtain ⟨c, hc, rfl⟩ := Option.map_eq_some_iff.mp hx
    have hi : i < ds.length := by have := (List.getElem?_eq_some_iff.mp hc).1; omega
    have ec : c = Blk.mkb (skl ds) i := by rw [← mke, List.getD_eq_getElem?_getD, hc]; rfl
    have gk : atI ((Blk.bmk ds.length (Blk.rgs (skl ds))).map V.int) (k : Int) = some (.int (Blk.mkb (skl ds) k)) := by rw [← mke]; exact atI_nat (int_at (by omega))
    have ll : (((List.range i).filter fun j => decide (Blk.mkb (skl ds) j = Blk.mkb (skl ds) k)).map fun (p : Nat) => V.int (p : Int)).length ≤ 40 := by
      rw [List.length_map]
      have := List.length_filter_le (fun j => decide (Blk.mkb (skl ds) j = Blk.mkb (skl ds) k)) (List.range i)
      rw [List.length_range] at this
      omega
    have sT := same_new hT (.tup [.int (i : Int), .int c])
    refine ⟨T2, _, rfl, SqT.of upd_same, rfl, _, _, rfl, _, _, rfl, rfl, keep2.1, keep2.2, ?_⟩
    generalize upd H2 T2 (.tup [.int (i : Int), .int c]) = H3 at sT ⊢
    have s3 := s2.trans sT
    have e3 := sT _ _ e2
    subst ec
    refine ⟨_, rfl, _, rfl, _, rfl, M', _, _, _, rfl, rfl, SqL.of (s3 _ _ eM), gk, rfl, _, rfl, ?_⟩
    by_cases h : Blk.mkb (skl ds) i = Blk.mkb (skl ds) k
    · refine L2.ifT (by rw [h]; simp) ⟨_, rfl, e3, small1000 (by omega), hC _ _ ⟨s3.change hD, upd_same, ?_⟩⟩
      rw [List.range_succ, List.filter_append, List.filter_cons_of_pos (by simp [h]), List.map_append]; rfl
    · refine L2.ifF (by simp [h]) (hC _ _ ⟨s3, e3, ?_⟩)
      rw [List.range_succ, List.filter_append, List.filter_cons_of_neg (by simp [h])]; simp
  · rintro zs H2 ⟨s2, e2, rfl⟩
    rw [List.length_map, lms] at e2
    exact q D H2 (s9.trans s2) (s9.free hD) e2
end
end K71

set_option Elab.async false
set_option linter.all false
set_option maxRecDepth 100000
set_option maxHeartbeats 4000000
namespace Mq
end Mq
namespace Shp
open PySem L2
end Shp

set_option linter.all false
set_option maxHeartbeats 1000000
namespace Mq
section
variable {m : Nat} {A E : Mat} {r col : Nat} {d : Rat} {c : Nat → Nat} {n : Nat}
end
end Mq

set_option Elab.async false
set_option linter.all false
set_option maxRecDepth 100000
set_option maxHeartbeats 4000000
namespace Mq
end Mq
namespace Shp
open PySem L2
end Shp

set_option Elab.async false
set_option linter.all false
set_option maxHeartbeats 1000000
namespace L2
open PySem PySem.Spec PyProof.Rows
end L2

set_option Elab.async false
set_option linter.all false
set_option maxHeartbeats 1000000
namespace L2
open PySem PySem.Spec PyProof.Rows
section
variable (u : Nat → Rat)
end
section
variable {u : Nat → Rat} {m N : Nat}
end
end L2

set_option Elab.async false
set_option linter.all false
set_option maxHeartbeats 1000000
namespace L2
open PySem PySem.Spec PyProof.Rows
section
variable {u : Nat → Rat} {m N : Nat}
end
end L2

set_option Elab.async false
set_option linter.all false
set_option maxHeartbeats 1000000
namespace L2
open PySem PySem.Spec PyProof.Rows Shp
section
variable {m N : Nat} {ds : List RD}
end
end L2

set_option Elab.async false
set_option linter.all false
set_option maxRecDepth 100000
set_option maxHeartbeats 4000000
namespace Shp
open PySem L2
end Shp
namespace L2
open Shp
end L2

set_option linter.all false
namespace Mq
end Mq

set_option Elab.async false
set_option linter.all false
set_option maxHeartbeats 2000000
namespace L2
open PySem PySem.Spec PyProof.Rows
end L2

set_option Elab.async false
set_option linter.all false
namespace Mq
section
variable {L K : Int} {M N : Nat} {x y : Rat}
end
end Mq
namespace L2
end L2

set_option Elab.async false
set_option linter.all false
set_option maxHeartbeats 1000000
namespace L2
open PySem PySem.Spec PyProof.Rows Shp
abbrev Ent := Option Nat × RD × Mq.Q2
section
variable {m u j : Nat} {hs : List Mq.Q2} {par : Nat → Nat} {E : List Ent}
end
end L2

set_option Elab.async false
set_option linter.all false
set_option maxHeartbeats 1000000
namespace Mq
end Mq
namespace Shp
open PySem L2
end Shp

set_option Elab.async false
set_option linter.all false
set_option maxHeartbeats 1000000
namespace L2
open PySem PySem.Spec PyProof.Rows Shp
section
variable {m : Nat} {ds : List RD} {r v : Nat → Rat}
end
section
variable {m : Nat} {A B : List RD} {d : RD} {v : Nat → Rat}
end
end L2

set_option Elab.async false
set_option linter.all false
set_option maxHeartbeats 1000000
namespace L2
open PySem PySem.Spec PyProof.Rows Shp
section
variable {m : Nat} {ds : List RD}
end
end L2

set_option Elab.async false
set_option linter.all false
set_option maxHeartbeats 2000000
namespace L2
open PySem PySem.Spec PyProof.Rows
end L2

set_option Elab.async false
set_option linter.all false
set_option maxHeartbeats 2000000
namespace L2
open PySem PySem.Spec PyProof.Rows
end L2

set_option Elab.async false
set_option linter.all false
set_option maxRecDepth 100000
set_option maxHeartbeats 4000000
namespace L2
open PySem PySem.Spec PyProof.Rows Shp
section
variable {l CA a : Addr} {K : PySem.W.Frag} {H H' : Hp} {lv fl : List Mq.Q2}
end
section
variable {m b : Nat} {L : Int} {ds : List RD} {sol : List Mq.Q2} {N : Nat} {X : List (List Mq.Q2)} {Y : List Mq.Q2}
end
end L2

set_option Elab.async false
set_option linter.all false
set_option maxHeartbeats 1000000
namespace L2
open PySem PySem.Spec PyProof.Rows Shp
section
variable {m b N : Nat} {L : Int} {ds : List RD} {X : List (List Mq.Q2)} {Y qs ps : List Mq.Q2}
end
end L2

set_option Elab.async false
set_option linter.all false
set_option maxHeartbeats 1000000
namespace L2
open PySem PySem.Spec PyProof.Rows Shp
abbrev Hn := Option (Nat × Nat) × RD
section
variable {m t J : Nat} {E : List Hn}
end
end L2

set_option Elab.async false
set_option linter.all false
set_option maxHeartbeats 1000000
namespace L2
open PySem PySem.Spec PyProof.Rows Shp
section
variable {u : Nat → Rat} {m : Nat}
end
end L2

set_option Elab.async false
set_option linter.all false
set_option maxHeartbeats 1000000
namespace L2
open PySem PySem.Spec PyProof.Rows Shp
section
end
end L2

set_option Elab.async false
set_option linter.all false
set_option maxHeartbeats 1000000
namespace L2
open PySem PySem.Spec PyProof.Rows Shp
section
variable {m t J : Nat} {E : List Hn}
end
end L2

set_option Elab.async false
set_option linter.all false
set_option maxRecDepth 100000
set_option maxHeartbeats 4000000
namespace K71
open PySem L2 Shp
section
variable {P : Program} {w : World} {K : PySem.W.Frag} {mg : Str → Option Value} {base : Heap} {f g1 g2 g3 g4 g5 g6 g7 g8 : Addr} {fd gd1 gd2 gd3 gd4 gd5 gd6 gd7 gd8 : FuncData} {CX : CXT}
variable {CR : Addr} {CK : Kd → Addr} {fW fJ fT fS : Kd → Addr} {fdW fdJ fdT fdS : Kd → FuncData}
abbrev sDraw : Stmt := top 37
theorem scDraw : FnScope ["_law_script", "_law_k", "_law_found"] ["_law_script", "_law_k"] (defScope sDraw) := ⟨rfl, rfl, rfl, by decide +kernel, rfl, by decide +kernel, by decide +kernel⟩
def spDraw (K : PySem.W.Frag) : Sp := fun vs H Q _ => ∃ (a : Addr) (ns : List Int) (j : Int) (k : Nat), vs = [.ref a, .int j] ∧ j = (k : Int) ∧ SqL K H a (ns.map V.int) ∧ ns.length ≤ 63 ∧ ∀ i H', Same H H' → Q (.int i) H'
theorem ok_draw {dV : Value} (F : FunD K "_law_draw" "_law_draw" sDraw dV f fd) :
    FnOk P w K mg base CX 1 f fd ["_law_script", "_law_k"] (spDraw K) := by
  refine F.ok scDraw (fun vs H Q E h => ?_) (fun cdv A outer s H vs Q E hr h => ?_)
  · obtain ⟨a, ns, j, k, rfl, hj, hS, h63, q⟩ := h
    rfl
  obtain ⟨a, ns, j, k, rfl, hj, hS, h63, q⟩ := h
  have hu := hr.units
  refine ⟨_, (pss_cons (ps_set (i := 2) scDraw.nd rfl (Or.inl rfl) (pe_slice sl_list (pv 0) (po_some (pv 1)) (po_some (pe_op op_add (pv 1) pe_int))))
    (pss_cons (ps_if (pt_cmpR (op_eqD hu) (pv 2) (pe_lst pa_nil) (nomark _)) (pss_one (ps_ret pe_int)) pss_nil)
    (pss_one (ps_ret (pe_ix ix_list (pv 2) pe_int (fun _ _ => rfl)))))), ?_⟩
  refine ⟨_, rfl, _, rfl, j, rfl, _, rfl, _, _, rfl, rfl, j + 1, rfl, a, _, rfl, hS, fun l hl => ?_⟩
  have s1 := same_new hl (.lst (cutV (ns.map V.int) (some j) (some (j + 1))))
  have e1 : upd H l (.lst (cutV (ns.map V.int) (some j) (some (j + 1)))) l = some (.lst (cutV (ns.map V.int) (some j) (some (j + 1)))) := upd_same
  obtain ⟨ms, em, lm⟩ := cut_ints ns (some j) (some (j + 1))
  rw [em] at e1 s1 ⊢
  generalize upd H l (.lst (ms.map V.int)) = H1 at e1 s1 ⊢
  refine ⟨_, rfl, by show 0 ≤ sizeLine; decide, fun e he => ?_⟩
  have s2 := same_new he (.lst [])
  refine rd_eqNil (s2.seq (SqL.of e1)) (SqL.of upd_same) ⟨_, rfl, ?_⟩
  rcases ms with _ | ⟨m, ms⟩
  · exact iteT (q 0 _ (s1.trans s2))
  · refine iteF ⟨_, rfl, l, _, _, _, rfl, rfl, s2.seq (SqL.of e1), atI_nat (j := 0) rfl, q m _ (s1.trans s2)⟩
abbrev sMix : Stmt := top 38
theorem scMix : FnScope ["_law_cell", "_law_turn", "_law_many", "_law_left", "_law_k", "_law_by", "_law_prime", "_law_x"] ["_law_cell", "_law_turn", "_law_many"] (defScope sMix) := ⟨rfl, rfl, rfl, by decide +kernel, rfl, by decide +kernel, by decide +kernel⟩
def spMix : Sp := fun vs H Q _ => ∃ c t m : Int, vs = [.int c, .int t, .int m] ∧ 0 ≤ t ∧ t ≤ 9 ∧ 0 < m ∧ ∀ r H', 0 ≤ r → r < m → Same H H' → Q (.int r) H'
theorem at10 {a0 a1 a2 a3 a4 a5 a6 a7 a8 a9 : Int} (hp : 0 < a0 ∧ 0 < a1 ∧ 0 < a2 ∧ 0 < a3 ∧ 0 < a4 ∧ 0 < a5 ∧ 0 < a6 ∧ 0 < a7 ∧ 0 < a8 ∧ 0 < a9) (hm : a0 < 1000000 ∧ a1 < 1000000 ∧ a2 < 1000000 ∧ a3 < 1000000 ∧ a4 < 1000000 ∧ a5 < 1000000 ∧ a6 < 1000000 ∧ a7 < 1000000 ∧ a8 < 1000000 ∧ a9 < 1000000) {t : Int} (h0 : 0 ≤ t) (h9 : t ≤ 9) :
    ∃ v, atI [V.int a0, .int a1, .int a2, .int a3, .int a4, .int a5, .int a6, .int a7, .int a8, .int a9] t = some (.int v) ∧ 0 < v ∧ v < 1000000 := by
  have : t = 0 ∨ t = 1 ∨ t = 2 ∨ t = 3 ∨ t = 4 ∨ t = 5 ∨ t = 6 ∨ t = 7 ∨ t = 8 ∨ t = 9 := by omega
  rcases this with rfl | rfl | rfl | rfl | rfl | rfl | rfl | rfl | rfl | rfl
  all_goals exact ⟨_, rfl, by omega, by omega⟩
abbrev l48 : List Int := [48271, 69621, 16807, 40692, 39373, 30269, 27183, 60013, 51749, 35969]
abbrev l99 : List Int := [999983, 999979, 999961, 999959, 999953, 999931, 999917, 999907, 999883, 999863]
@[irreducible] def md1 : Stmt := (defBody sMix).getD 1 (.Pass ⟨0, 0, 0, 0⟩)
@[irreducible] def md2 : Stmt := (defBody sMix).getD 2 (.Pass ⟨0, 0, 0, 0⟩)
def md0 : Stmt := (defBody sMix).getD 0 (.Pass ⟨0, 0, 0, 0⟩)
def md3 : Stmt := (defBody sMix).getD 3 (.Pass ⟨0, 0, 0, 0⟩)
def md4 : Stmt := (defBody sMix).getD 4 (.Pass ⟨0, 0, 0, 0⟩)
theorem md_eq : defBody sMix = [md0, md1, md2, md3, md4] := by unfold md1 md2; rfl
theorem md1_ex : ∃ (q q2 p2 p3 p : Pos) (l : List (Int × _ × Pos)), md1 = .Assign [.Name "_law_by" q] (.Subscript (.List (l.map fun q => Expr.Constant (.int q.1) q.2.1 q.2.2) p2) (.Name "_law_turn" q2) p3) p ∧ l.map (fun q => V.int q.1) = l48.map V.int := by
  unfold md1
  exact ⟨_, _, _, _, _, [(48271, _, _), (69621, _, _), (16807, _, _), (40692, _, _), (39373, _, _), (30269, _, _), (27183, _, _), (60013, _, _), (51749, _, _), (35969, _, _)], rfl, rfl⟩
theorem md2_ex : ∃ (q q2 p2 p3 p : Pos) (l : List (Int × _ × Pos)), md2 = .Assign [.Name "_law_prime" q] (.Subscript (.List (l.map fun q => Expr.Constant (.int q.1) q.2.1 q.2.2) p2) (.Name "_law_turn" q2) p3) p ∧ l.map (fun q => V.int q.1) = l99.map V.int := by
  unfold md2
  exact ⟨_, _, _, _, _, [(999983, _, _), (999979, _, _), (999961, _, _), (999959, _, _), (999953, _, _), (999931, _, _), (999917, _, _), (999907, _, _), (999883, _, _), (999863, _, _)], rfl, rfl⟩
theorem ok_mix {dV : Value} (F : FunD K "_law_mix" "_law_mix" sMix dV f fd)
    (mr : mg "range" = none) :
    FnOk P w K mg base CX 1 f fd ["_law_cell", "_law_turn", "_law_many"] spMix := by
  refine F.ok scMix (fun vs H Q E h => ?_) (fun cdv A outer s H vs Q E hr h => ?_)
  · obtain ⟨c, t, m, rfl, h0, h9, hm, q⟩ := h
    rfl
  obtain ⟨c, t, m, rfl, h0, h9, hm, q⟩ := h
  rw [md_eq]
  obtain ⟨q1, q2, q3, q4, q5, l1, e1, eo1⟩ := md1_ex
  obtain ⟨r1, r2, r3, r4, r5, l2, e2, eo2⟩ := md2_ex
  rw [e1, e2]
  refine ⟨_, (pss_cons (ps_if (pt_cmpR op_eq (pe_op op_mod (pv 0) pe_int) pe_int (nomark _)) (pss_cons (ps_set (i := 3) scMix.nd rfl (Or.inl rfl) (pe_op op_fdiv (pv 0) pe_int))
    (pss_cons (ps_for PassesOwn.never rfl (pi_range1 rfl mr (pa_cons (pv 1) pa_nil)) (pg_name (i := 4) scMix.nd rfl (Or.inl rfl))
      (pss_one (ps_set (i := 3) scMix.nd rfl (Or.inl rfl) (pe_op op_fdiv (pv 3) (pe_op op_pow pe_int pe_int)))))
    (pss_one (ps_ret (pe_op op_modN (pv 3) (pv 2)))))) pss_nil)
    (pss_cons (ps_set (i := 5) scMix.nd rfl (Or.inl rfl) (pe_ix ix_list (pe_lst (pa_ints _ l1)) (pv 1) (fun _ _ => rfl)))
    (pss_cons (ps_set (i := 6) scMix.nd rfl (Or.inl rfl) (pe_ix ix_list (pe_lst (pa_ints _ l2)) (pv 1) (fun _ _ => rfl)))
    (pss_cons (ps_set (i := 7) scMix.nd rfl (Or.inl rfl) (pe_op op_mod (pv 0) pe_int))
    (pss_one (ps_ret (pe_op op_modN (pe_op op_fdiv (pe_op op_modN (pe_op op_add (pe_op op_add (pe_op op_mulB (pe_op op_mul pe_int (pv 7)) (pv 7)) (pe_op op_mulB (pv 5) (pv 7))) (pe_op op_mul pe_int (pe_op op_add (pv 1) pe_int))) (pv 6)) pe_int) (pv 2)))))))), ?_⟩
  rw [eo1, eo2]
  have hf : ∀ u : Int, 0 ≤ u.fmod m ∧ u.fmod m < m := fun u => ⟨Int.fmod_nonneg_of_pos u hm, Int.fmod_lt_of_pos u hm⟩
  have m0 : m ≠ 0 := by omega
  refine ⟨_, rfl, _, _, rfl, rfl, (show (0 : Int) < 2 by decide), rfl, _, rfl, ite2 (fun _ => ?_) (fun _ => ?_)⟩
  · refine ⟨_, rfl, _, _, rfl, rfl, ⟨by decide, by decide⟩, ?_⟩
    refine ⟨_, rfl, t, rfl, by omega, by omega, ?_⟩
    refine for_range (n := t.toNat) (fun i σ H' => H' = H ∧ ∃ u z, σ = [some (.int c), some (.int t), some (.int m), some (.int u), z, none, none, none]) ⟨rfl, _, none, rfl⟩ ?_ ?_
    · rintro i σ H' hi ⟨rfl, u, z, rfl⟩
      exact ⟨_, rfl, _, _, rfl, rfl, ⟨by decide, by decide, by decide⟩, _, _, rfl, rfl, ⟨by decide, by decide⟩, rfl, _, _, rfl⟩
    · rintro σ H' ⟨rfl, u, z, rfl⟩
      exact ⟨_, rfl, _, rfl, _, _, rfl, rfl, m0, q _ _ (hf u).1 (hf u).2 (Same.refl _)⟩
  · refine ⟨by show 10 ≤ sizeLine; decide, fun l1 hl1 => ?_⟩
    obtain ⟨by_, eb, b1, b2⟩ := at10 (a0 := 48271) (a1 := 69621) (a2 := 16807) (a3 := 40692) (a4 := 39373) (a5 := 30269) (a6 := 27183) (a7 := 60013) (a8 := 51749) (a9 := 35969) (by decide) (by decide) h0 h9
    have s1 := same_new hl1 (.lst (l48.map V.int))
    have g1 : upd H l1 (.lst (l48.map V.int)) l1 = some (.lst (l48.map V.int)) := upd_same
    generalize upd H l1 (.lst (l48.map V.int)) = H1 at s1 g1 ⊢
    refine ⟨_, rfl, l1, _, _, _, rfl, rfl, SqL.of g1, eb, ?_⟩
    refine ⟨by show 10 ≤ sizeLine; decide, fun l2 hl2 => ?_⟩
    obtain ⟨pr, ep, p1, p2⟩ := at10 (a0 := 999983) (a1 := 999979) (a2 := 999961) (a3 := 999959) (a4 := 999953) (a5 := 999931) (a6 := 999917) (a7 := 999907) (a8 := 999883) (a9 := 999863) (by decide) (by decide) h0 h9
    have s2 := same_new hl2 (.lst (l99.map V.int))
    have g2 : upd H1 l2 (.lst (l99.map V.int)) l2 = some (.lst (l99.map V.int)) := upd_same
    generalize upd H1 l2 (.lst (l99.map V.int)) = H2 at s2 g2 ⊢
    refine ⟨_, rfl, l2, _, _, _, rfl, rfl, SqL.of g2, ep, ?_⟩
    refine ⟨_, rfl, _, _, rfl, rfl, (show (0 : Int) < 2147483647 by decide), ?_⟩
    have x1 := Int.emod_nonneg c (show (2147483647 : Int) ≠ 0 by decide)
    have x2 := Int.emod_lt_of_pos c (show (0 : Int) < 2147483647 by decide)
    generalize c % 2147483647 = x at x1 x2 ⊢
    refine ⟨_, rfl, _, _, rfl, rfl, Or.inl ⟨by decide, by decide⟩, _, rfl, rd_mulB (n := 40) (m := 40) (B_of (by omega) (by omega)) (B_of (by omega) (by omega)) (by omega) (by omega) ?_⟩
    refine ⟨_, rfl, _, rfl, rd_mulB (n := 40) (m := 40) (B_of (by omega) (by omega)) (B_of (by omega) (by omega)) (by omega) (by omega) ⟨_, _, rfl, rfl, ?_⟩⟩
    refine ⟨_, rfl, _, _, rfl, rfl, _, _, rfl, rfl, Or.inl ⟨by decide, by decide⟩, _, _, rfl, rfl, _, rfl, _, _, rfl, rfl, by omega, _, _, rfl, rfl, ⟨by decide, by decide⟩, _, rfl, _, _, rfl, rfl, m0, ?_⟩
    exact q _ _ (hf _).1 (hf _).2 (s1.trans s2)
abbrev sPart : Stmt := top 39
theorem scPart : FnScope ["_law_cell", "_law_k", "_law_left", "_law_j"] ["_law_cell", "_law_k"] (defScope sPart) := ⟨rfl, rfl, rfl, by decide +kernel, rfl, by decide +kernel, by decide +kernel⟩
def spPart : Sp := fun vs H Q _ => ∃ c k : Int, vs = [.int c, .int k] ∧ 0 ≤ k ∧ k ≤ 63 ∧ ∀ r, Q (.int r) H
theorem ok_part {dV : Value} (F : FunD K "_law_part" "_law_part" sPart dV f fd)
    (mr : mg "range" = none) :
    FnOk P w K mg base CX 1 f fd ["_law_cell", "_law_k"] spPart := by
  refine F.ok scPart (fun vs H Q E h => ?_) (fun cdv A outer s H vs Q E hr h => ?_)
  · obtain ⟨c, k, rfl, h0, h9, q⟩ := h
    rfl
  obtain ⟨c, k, rfl, h0, h9, q⟩ := h
  refine ⟨_, (pss_cons (ps_if (pt_cmpR op_eq (pe_op op_mod (pv 0) pe_int) pe_int (nomark _)) (pss_one (ps_ret (pe_op op_add (pe_op op_mod (pv 0) (pe_op op_pow pe_int pe_int)) (pe_op op_mulB (pe_op op_mul pe_int (pv 1)) (pv 1))))) pss_nil)
    (pss_cons (ps_set (i := 2) scPart.nd rfl (Or.inl rfl) (pe_op op_fdiv (pv 0) pe_int))
    (pss_cons (ps_for PassesOwn.never rfl (pi_range1 rfl mr (pa_cons (pe_op op_mul pe_int (pv 1)) pa_nil)) (pg_name (i := 3) scPart.nd rfl (Or.inl rfl))
      (pss_one (ps_set (i := 2) scPart.nd rfl (Or.inl rfl) (pe_op op_fdiv (pv 2) (pe_op op_pow pe_int pe_int)))))
    (pss_one (ps_ret (pe_op op_add (pe_op op_mul pe_int (pv 2)) pe_int)))))), ?_⟩
  refine ⟨_, rfl, _, _, rfl, rfl, (show (0 : Int) < 2 by decide), rfl, _, rfl, ite2 (fun _ => ?_) (fun _ => ?_)⟩
  · refine ⟨_, rfl, _, _, rfl, rfl, ⟨by decide, by decide, by decide⟩, _, _, rfl, rfl, (show (0 : Int) < 10 ^ (15 : Int).toNat by decide), ?_⟩
    refine ⟨_, rfl, _, _, rfl, rfl, Or.inl ⟨by decide, by decide⟩, _, rfl, rd_mulB (n := 40) (m := 40) (B_of (by omega) (by omega)) (B_of (by omega) (by omega)) (by omega) (by omega) ⟨_, _, rfl, rfl, q _⟩⟩
  · refine ⟨_, rfl, _, _, rfl, rfl, ⟨by decide, by decide⟩, ?_⟩
    refine ⟨_, rfl, _, _, rfl, rfl, Or.inl ⟨by decide, by decide⟩, _, rfl, by omega, by omega, ?_⟩
    refine for_range (n := (12 * k).toNat) (fun i σ H' => H' = H ∧ ∃ u z, σ = [some (.int c), some (.int k), some (.int u), z]) ⟨rfl, _, none, rfl⟩ ?_ ?_
    · rintro i σ H' hi ⟨rfl, u, z, rfl⟩
      exact ⟨_, rfl, _, _, rfl, rfl, ⟨by decide, by decide, by decide⟩, _, _, rfl, rfl, ⟨by decide, by decide⟩, rfl, _, _, rfl⟩
    · rintro σ H' ⟨rfl, u, z, rfl⟩
      exact ⟨_, rfl, _, _, rfl, rfl, Or.inl ⟨by decide, by decide⟩, _, _, rfl, rfl, q _⟩
def spNet33 (CN : Addr) (K : PySem.W.Frag) : Sp := fun vs H Q _ => ∃ (m : Int) (r : Addr) (us : List V) (ds : List RD), vs = [.int m, .ref r] ∧ 1 ≤ m ∧ m ≤ 20 ∧ SqL K H r us ∧ Rts K H us ds ∧ (∀ d ∈ ds, RdOk m d) ∧ ds.length ≤ 40 ∧ ∀ n l H', Same H H' → H l = none → NetAt CN K H' n l m ds → Q (.ref n) H'
abbrev sNet33 : Stmt := top 40
theorem scNet33 : FnScope ["_law_many", "_law_rows", "_law_net_here", "_law_row"] ["_law_many", "_law_rows"] (defScope sNet33) := ⟨rfl, rfl, rfl, by decide +kernel, rfl, by decide +kernel, by decide +kernel⟩
theorem ok_net33 {dV : Value} (F : FunD K "_law_net" "_law_net" sNet33 dV f fd)
    {CN : Addr} (NTx : NT K mg CN)
    {gAd : Addr} {gdAd : FuncData} (GAd : FnOk P w K mg base CX0 5 gAd gdAd ["self", "row"] (spAdd CN K CK)) (bAd : Binds K gdAd ["self", "row"] []) (mAd : Meth K CN "add" gAd)
    {gNI : Addr} {gdNI : FuncData} (GNI : FnOk P w K mg base CX0 2 gNI gdNI ["self", "many"] (spNInit CN)) (bNI : Binds K gdNI ["self", "many"] []) (MN : Mk K CN gNI)
    (G1 : FnOk P w K mg base CX0 3 g1 gd1 ["told"] (spRowOfG K CK)) (b1 : Binds K gd1 ["told"] []) (k1 : PySem.W.keepIn K (.ref g1) = true) (m1 : mg "row_of" = some (.ref g1)) :
    FnOk P w K mg base CX 6 f fd ["_law_many", "_law_rows"] (spNet33 CN K) := by
  refine F.ok scNet33 (fun vs H Q E h => ?_) (fun cdv A outer s H vs Q E hr h => ?_)
  · obtain ⟨m, r, us, ds, rfl, hm1, hm20, hU, hR, hK, h40, q⟩ := h
    rfl
  obtain ⟨m, r, us, ds, rfl, hm1, hm20, hU, hR, hK, h40, q⟩ := h
  have r3 := hr.mono (show 3 ≤ 5 by omega)
  refine ⟨_, (pss_cons (ps_set (i := 2) scNet33.nd rfl (Or.inl rfl) (pe_make MN GNI r3 rfl NTx.mN bNI .nil pass0 (pa_cons (pv 0) pa_nil)))
    (pss_cons (ps_for PassesOwn.never rfl (pi_list (pv 1)) (pg_name (i := 3) scNet33.nd rfl (Or.inl rfl))
      (pss_one (ps_expr (pe_meth (pv 2) NTx.cl mAd GAd hr bAd .nil pass0 (pa_cons (pe_call G1 r3 rfl m1 k1 b1 .nil pass0 (pa_cons (pv 3) pa_nil)) pa_nil)))))
    (pss_one (ps_ret (pv 2))))), ?_⟩
  have lus := hR.length
  refine ⟨_, rfl, fun n dx h1 h2 ne => ⟨n, dx, m, rfl, upd_same, hm1, hm20, fun l H2 nl keep hn hl => ⟨rfl, ?_⟩⟩⟩
  have s2 : Same H H2 := fun b o e => keep b o (by rw [upd_ne (ne_of_none e h1), upd_ne (ne_of_none e h2)]; exact e) (ne_of_none e h1)
  have hl0 : H l = none := by
    cases o : H l with
    | none => rfl
    | some o' =>
      have : (upd (upd H dx (.own n)) n (.ins CN dx [])) l = some o' := by rw [upd_ne (ne_of_none o h1), upd_ne (ne_of_none o h2)]; exact o
      rw [this] at nl; cases nl
  refine ⟨_, rfl, r, rfl, ⟨_, s2.seq hU⟩, ?_⟩
  refine for_list (xs := us) (fun i σ H' => Same H H' ∧ NetAt CN K H' n l m (ds.take i) ∧ ∃ z, σ = [some (.int m), some (.ref r), some (.ref n), z]) ⟨s2, ⟨⟨dx, hn⟩, [], hl, .nil⟩, none, rfl⟩ (fun i σ H' _ h => h.1.seq hU) ?_ ?_
  · rintro i x σ H3 hx ⟨s3, N3, z, rfl⟩
    have hi : i < ds.length := by
      have := (List.getElem?_eq_some_iff.mp hx).1
      omega
    obtain ⟨⟨k, u, v, p⟩, hd⟩ : ∃ d, ds[i]? = some d := ⟨_, List.getElem?_eq_getElem hi⟩
    obtain ⟨t, z', et, hT, fz⟩ := hR.at hd
    have ex : x = .ref t := by rw [et] at hx; exact (Option.some.inj hx).symm
    subst ex
    obtain ⟨dn, hn3⟩ := N3.ob
    have lt : (ds.take i).length ≤ ds.length := by rw [List.length_take]; omega
    refine ⟨_, rfl, n, dn, _, rfl, hn3, nflds_no _ _ (by decide +kernel) (by decide +kernel), _, rfl, t, _, _, _, _, rfl, s3.seqT hT, k, rfl, fun y H4 s4 ny rw => ?_⟩
    refine ⟨n, l, y, z', m, ds.take i, k, u, v, p, rfl, N3.same s4, rw, (s3.trans s4).fq fz, hK _ (List.mem_of_getElem? hd), by rw [List.length_take]; omega, fun H5 x5 N5 => ?_⟩
    refine ⟨fun b o e => x5 _ _ ((s3.trans s4) _ _ e) (ne_of_none e hl0), ?_, _, rfl⟩
    rw [List.take_add_one, hd]
    exact N5
  · rintro σ H3 ⟨s3, N3, z, rfl⟩
    rw [lus, List.take_length] at N3
    exact ⟨_, rfl, q n l H3 s3 hl0 N3⟩
end
end K71

set_option Elab.async false
set_option linter.all false
set_option maxRecDepth 100000
set_option maxHeartbeats 4000000
namespace K71
open PySem L2 Shp
section
variable {P : Program} {w : World} {K : PySem.W.Frag} {mg : Str → Option Value} {base : Heap} {f g1 g2 g3 g4 g5 g6 g7 g8 : Addr} {fd gd1 gd2 gd3 gd4 gd5 gd6 gd7 gd8 : FuncData} {CX : CXT}
variable {CR : Addr} {CK : Kd → Addr} {fW fJ fT fS : Kd → Addr} {fdW fdJ fdT fdS : Kd → FuncData}
theorem at4 {r : Int} (h0 : 0 ≤ r) (h3 : r < 4) : ∃ k : Kd, atI [V.str "piece", .str "push", .str "hold", .str "piece"] r = some (.str k.wd) := by
  have : r = 0 ∨ r = 1 ∨ r = 2 ∨ r = 3 := by omega
  rcases this with rfl | rfl | rfl | rfl
  · exact ⟨.pc, rfl⟩
  · exact ⟨.pu, rfl⟩
  · exact ⟨.ho, rfl⟩
  · exact ⟨.pc, rfl⟩
theorem cut9 (xs : List V) : (cutV xs (some 3) (some 12)).length ≤ 9 := by
  unfold cutV
  have h1 : HT.sIx xs.length xs.length (some 12) = min 12 xs.length := by simp [HT.sIx]
  have h2 : HT.sIx xs.length 0 (some 3) = min 3 xs.length := by simp [HT.sIx]
  rw [h1, h2]
  simp
  omega
theorem lw32 : Mq.Low (3, 2) := ⟨by decide, by decide⟩
theorem bd32 : Mq.Bd 2 (3, 2) := ⟨by show (3 : Nat) < 2 ^ 2; decide, by show (2 : Nat) < 2 ^ 2; decide⟩
theorem rd32 {m i j : Int} {k : Kd} (i0 : 0 ≤ i) (i1 : i < m) (j0 : 0 ≤ j) (j1 : j < m) : RdOk m (k, i, j, (3, 2)) := ⟨i0, i1, j0, j1, lw32, fun _ => (by show (0 : Int) < 3; decide), bd32.mono (by decide)⟩
def spSmall (K : PySem.W.Frag) : Sp := fun vs H Q _ => ∃ (a : Addr) (ns : List Int) (m : Nat), vs = [.ref a, .int (m : Int)] ∧ SqL K H a (ns.map V.int) ∧ ns.length ≤ 63 ∧ 1 ≤ m ∧
  ∀ r us ds H', Same H H' → H r = none → H' r = some (.lst us) → Rts K H' us ds → (∀ d ∈ ds, RdOk (m : Int) d) → ds.length ≤ 9 → Q (.ref r) H'
abbrev sSmall : Stmt := top 41
theorem scSmall : FnScope ["_law_script", "_law_many", "_law_rows", "_law_cell", "_law_word"] ["_law_script", "_law_many"] (defScope sSmall) := ⟨rfl, rfl, rfl, by decide +kernel, rfl, by decide +kernel, by decide +kernel⟩
theorem ok_small {dV : Value} (F : FunD K "_law_small" "_law_small" sSmall dV f fd)
    (G1 : FnOk P w K mg base CX0 1 g1 gd1 ["_law_cell", "_law_turn", "_law_many"] spMix) (b1 : Binds K gd1 ["_law_cell", "_law_turn", "_law_many"] []) (k1 : PySem.W.keepIn K (.ref g1) = true) (m1 : mg "_law_mix" = some (.ref g1)) :
    FnOk P w K mg base CX 2 f fd ["_law_script", "_law_many"] (spSmall K) := by
  refine F.ok scSmall (fun vs H Q E h => ?_) (fun cdv A outer s H vs Q E hr h => ?_)
  · obtain ⟨a, ns, m, rfl, hS, h63, hm1, q⟩ := h
    rfl
  obtain ⟨a, ns, m, rfl, hS, h63, hm1, q⟩ := h
  refine ⟨_, (pss_cons (ps_set (i := 2) scSmall.nd rfl (Or.inl rfl) (pe_lst pa_nil))
    (pss_cons (ps_for PassesOwn.never rfl (pi_list (pe_slice sl_list (pv 0) (po_some pe_int) (po_some pe_int))) (pg_name (i := 3) scSmall.nd rfl (Or.inl rfl))
      (pss_cons (ps_set (i := 4) scSmall.nd rfl (Or.inl rfl) (pe_ix ix_list (pe_lst (pa_cons pe_str (pa_cons pe_str (pa_cons pe_str (pa_cons pe_str pa_nil))))) (pe_call G1 hr rfl m1 k1 b1 .nil pass0 (pa_cons (pv 3) (pa_cons pe_int (pa_cons pe_int pa_nil)))) (fun _ _ => rfl)))
    (pss_one (ps_expr (pe_bm PySem.F.plainAttrs_list PySem.F.slot_list_append PySem.F.type_list_append mt_append (pv 2) (pa_cons (pe_tup (pa_cons (pv 4) (pa_cons (pe_call G1 hr rfl m1 k1 b1 .nil pass0 (pa_cons (pv 3) (pa_cons pe_int (pa_cons (pv 1) pa_nil)))) (pa_cons (pe_call G1 hr rfl m1 k1 b1 .nil pass0 (pa_cons (pv 3) (pa_cons pe_int (pa_cons (pv 1) pa_nil)))) (pa_cons (pe_tup (pa_cons pe_int (pa_cons pe_int pa_nil))) pa_nil))))) pa_nil))))))
    (pss_one (ps_ret (pv 2))))), ?_⟩
  refine ⟨by show 0 ≤ sizeLine; decide, fun r hr0 => ?_⟩
  have s1 := same_new hr0 (.lst [])
  have e1 : upd H r (.lst []) r = some (.lst []) := upd_same
  generalize upd H r (.lst []) = H1 at s1 e1 ⊢
  refine ⟨_, rfl, 3, rfl, 12, rfl, a, _, rfl, s1.seq hS, fun C hC => ?_⟩
  have c30 := cut9 (ns.map V.int)
  obtain ⟨ms, em, _⟩ := cut_ints ns (some 3) (some 12)
  rw [em] at c30 ⊢
  rw [List.length_map] at c30
  have s2 := same_new hC (.lst (ms.map V.int))
  have eC : upd H1 C (.lst (ms.map V.int)) C = some (.lst (ms.map V.int)) := upd_same
  have nCr : C ≠ r := Ne.symm (ne_of_none e1 hC)
  have e2 := s2 _ _ e1
  generalize upd H1 C (.lst (ms.map V.int)) = H2 at s2 eC e2 ⊢
  refine ⟨C, rfl, ⟨_, SqL.of eC⟩, ?_⟩
  refine for_list (xs := ms.map V.int) (fun n σ H' => Same H H' ∧ H' C = some (.lst (ms.map V.int)) ∧ ∃ (us : List V) (ds : List RD) (z3 z4 : Option V), σ = [some (.ref a), some (.int (m : Int)), some (.ref r), z3, z4] ∧ H' r = some (.lst us) ∧ Rts K H' us ds ∧ (∀ d ∈ ds, RdOk (m : Int) d) ∧ ds.length = n) ⟨s1.trans s2, eC, [], [], none, none, rfl, e2, .nil, (fun d hd => by cases hd), rfl⟩ (fun n σ H' _ h => SqL.of h.2.1) ?_ ?_
  · rintro n x σ H3 hx ⟨s3, eC3, us, ds, z3, z4, rfl, er, hR, hK, hlen⟩
    have hn : n < 9 := by
      have := (List.getElem?_eq_some_iff.mp hx).1
      rw [List.length_map] at this
      omega
    obtain ⟨c, rfl⟩ : ∃ c, x = .int c := by
      rw [List.getElem?_map] at hx
      cases hm : ms[n]? with
      | none => rw [hm] at hx; cases hx
      | some c => rw [hm] at hx; cases hx; exact ⟨c, rfl⟩
    have lus := hR.length
    refine ⟨by show 4 ≤ sizeLine; decide, fun L hL => ?_⟩
    have s4 := same_new hL (.lst [V.str "piece", .str "push", .str "hold", .str "piece"])
    have e4 : upd H3 L (.lst [V.str "piece", .str "push", .str "hold", .str "piece"]) L = some (.lst [V.str "piece", .str "push", .str "hold", .str "piece"]) := upd_same
    generalize upd H3 L (.lst [V.str "piece", .str "push", .str "hold", .str "piece"]) = H4 at s4 e4 ⊢
    refine ⟨_, rfl, c, 0, 4, rfl, by decide, by decide, by decide, fun y H5 y0 y3 s5 => ?_⟩
    obtain ⟨k, ek⟩ := at4 y0 y3
    refine ⟨L, _, y, _, rfl, rfl, SqL.of (s5 _ _ e4), ek, ?_⟩
    have s35 := s4.trans s5
    have er5 := s35 _ _ er
    refine ⟨_, rfl, .inl ⟨rfl, _, SqL.of er5⟩, _, rfl, _, rfl, _, rfl, c, 1, m, rfl, by decide, by decide, by omega, fun i HA i0 i1 sA => ?_⟩
    refine ⟨_, rfl, _, rfl, c, 2, m, rfl, by decide, by decide, by omega, fun j HB j0 j1 sB => ?_⟩
    refine ⟨by show 2 ≤ sizeLine; decide, fun zz hzz => ?_⟩
    have s9 := same_new hzz (.tup [.int 3, .int 2])
    have f9 : Fq K (upd HB zz (.tup [.int 3, .int 2])) zz (3, 2) := Fq.of upd_same
    generalize upd HB zz (.tup [.int 3, .int 2]) = H9 at s9 f9 ⊢
    refine ⟨by show 4 ≤ sizeLine; decide, fun t ht => ?_⟩
    have s10 := same_new ht (.tup [.str k.wd, .int i, .int j, .ref zz])
    have et : SqT K (upd H9 t (.tup [.str k.wd, .int i, .int j, .ref zz])) t [.str k.wd, .int i, .int j, .ref zz] := SqT.of upd_same
    generalize upd H9 t (.tup [.str k.wd, .int i, .int j, .ref zz]) = H10 at s10 et ⊢
    have s310 := s35.trans (sA.trans (sB.trans (s9.trans s10)))
    have er10 := s310 _ _ er
    refine ⟨r, us, .ref t, rfl, rfl, er10, small1000 (by omega), ?_⟩
    refine ⟨(s3.trans s310).change hr0, by rw [upd_ne nCr]; exact s310 _ _ eC3, us ++ [.ref t], ds ++ [(k, i, j, (3, 2))], _, _, rfl, upd_same, Rts.upd er10 ((hR.same s310).app (.cons et (s10.fq f9) .nil)), fun d hd => ?_, by rw [List.length_append, hlen]; rfl⟩
    rcases List.mem_append.mp hd with z | z
    · exact hK d z
    · have : d = (k, i, j, (3, 2)) := by simpa using z
      rw [this]; exact rd32 i0 i1 j0 j1
  · rintro σ H3 ⟨s3, _, us, ds, z3, z4, rfl, er, hR, hK, hlen⟩
    rw [List.length_map] at hlen
    exact ⟨_, rfl, q r us ds H3 s3 hr0 er hR hK (by omega)⟩
end
end K71

set_option Elab.async false
set_option linter.all false
set_option maxHeartbeats 1000000
namespace Blk
open L2
abbrev Ent := List Nat × List Nat
structure EnW (sk : List Sk) (v0 u0 c : Nat) (e : Ent) (l : List (Nat × Nat)) (x : Nat) : Prop where
  w : Wk sk v0 l x
  p : e.1 = pts v0 l
  g : e.2 = rws l
  nd : e.1.Nodup
  nu : u0 ∉ e.1
  nc : c ∉ e.2
structure WyI (sk : List Sk) (v0 u0 c : Nat) (fo : List Nat) (st : List Ent) : Prop where
  en : ∀ e ∈ st, ∃ l x, EnW sk v0 u0 c e l x
  so : ∀ j ∈ fo, j = c ∨ Cy sk c j
  hd : c ∈ fo
  co : ∀ l, Wk sk v0 l u0 → (pts v0 l).Nodup → c ∉ rws l → (∀ j ∈ rws l, j ∈ fo) ∨ ∃ e ∈ st, ∃ l1 l2, l = l1 ++ l2 ∧ e = (pts v0 l1, rws l1)
structure WyJ (sk : List Sk) (v0 u0 c : Nat) (fo : List Nat) (st : List Ent) (cl : List (Nat × Nat)) (i : Nat) : Prop where
  en : ∀ e ∈ st, ∃ l x, EnW sk v0 u0 c e l x
  so : ∀ j ∈ fo, j = c ∨ Cy sk c j
  hd : c ∈ fo
  co : ∀ l, Wk sk v0 l u0 → (pts v0 l).Nodup → c ∉ rws l → (∀ j ∈ rws l, j ∈ fo) ∨ (∃ e ∈ st, ∃ l1 l2, l = l1 ++ l2 ∧ e = (pts v0 l1, rws l1)) ∨ ∃ k y l2, l = cl ++ (k, y) :: l2 ∧ i ≤ k
section
variable {sk : List Sk} {v0 u0 c : Nat} {fo : List Nat} {st : List Ent} {cl : List (Nat × Nat)} {x i : Nat} {e : Ent}
theorem rws_row {a b : Nat} {l : List (Nat × Nat)} (h : Wk sk a l b) {j : Nat} (hj : j ∈ rws l) : j < sk.length := by
  obtain ⟨_, _, _, _, k, u, v, q, _⟩ := h.row hj
  exact (List.getElem?_eq_some_iff.mp q).1
theorem WyI.zero (ne : v0 ≠ u0) : WyI sk v0 u0 c [c] [([v0], [])] where
  en := fun e he => by
    rw [List.mem_singleton.mp he]
    exact ⟨[], v0, .nil, rfl, rfl, by simp, by simpa using Ne.symm ne, by simp⟩
  so := fun j hj => .inl (List.mem_singleton.mp hj)
  hd := by simp
  co := fun l w nd nc => .inr ⟨_, List.mem_singleton.mpr rfl, [], l, rfl, rfl⟩
theorem l_inj : ∀ {l l' : List (Nat × Nat)}, l.map (·.1) = l'.map (·.1) → l.map (·.2) = l'.map (·.2) → l = l'
  | [], [], _, _ => rfl
  | [], _ :: _, h, _ => by simp at h
  | _ :: _, [], h, _ => by simp at h
  | a :: l, b :: l', h, g => by
    simp only [List.map_cons, List.cons.injEq] at h g
    rw [l_inj h.2 g.2, Prod.ext h.1 g.1]
theorem WyI.pop (h : WyI sk v0 u0 c fo (st ++ [e])) : ∃ cl x, EnW sk v0 u0 c e cl x ∧ WyJ sk v0 u0 c fo st cl 0 := by
  obtain ⟨cl, x, ew⟩ := h.en e (by simp)
  refine ⟨cl, x, ew, ⟨fun f hf => h.en f (by simp [hf]), h.so, h.hd, fun l w nd nc => ?_⟩⟩
  rcases h.co l w nd nc with q | ⟨f, hf, l1, l2, el, ef⟩
  · exact .inl q
  · rcases List.mem_append.mp hf with hf | hf
    · exact .inr (.inl ⟨f, hf, l1, l2, el, ef⟩)
    · have fe : f = e := List.mem_singleton.mp hf
      rw [fe] at ef
      have e1 : pts v0 l1 = pts v0 cl := by rw [← ew.p, ef]
      have e2 : rws l1 = rws cl := by rw [← ew.g, ef]
      have ll : l1 = cl := l_inj e2 (List.cons.inj e1).2
      subst ll
      cases l2 with
      | nil =>
        rw [List.append_nil] at el
        subst el
        exact absurd w.end_in (by rw [← ew.p]; exact ew.nu)
      | cons k l2 => exact .inr (.inr ⟨k.1, k.2, l2, el, Nat.zero_le _⟩)
theorem Wk.spl : ∀ {l1 l2 : List (Nat × Nat)} {a b : Nat}, Wk sk a (l1 ++ l2) b → ∃ d, Wk sk a l1 d ∧ Wk sk d l2 b
  | [], l2, a, b, h => ⟨a, .nil, h⟩
  | (k, y) :: l1, l2, a, b, h => by
    cases h with
    | cons j r =>
      obtain ⟨d, p, q⟩ := Wk.spl (l1 := l1) r
      exact ⟨d, .cons j p, q⟩
theorem Wk.fin {a b b' : Nat} {l : List (Nat × Nat)} (h : Wk sk a l b) (g : Wk sk a l b') : b = b' := by
  have := h.pts_eq.symm.trans g.pts_eq
  simpa using this
theorem on_way (ew : EnW sk v0 u0 c e cl x) {k y : Nat} {l2 : List (Nat × Nat)} (w : Wk sk v0 (cl ++ (k, y) :: l2) u0) (nd : (pts v0 (cl ++ (k, y) :: l2)).Nodup) (nc : c ∉ rws (cl ++ (k, y) :: l2)) : Jn sk k x y ∧ x ≠ y ∧ k ≠ c ∧ Wk sk y l2 u0 ∧ y ∉ e.1 ∧ (y = u0 → l2 = []) := by
  obtain ⟨d, w1, w2⟩ := Wk.spl w
  obtain rfl := w1.fin ew.w
  cases w2 with
  | cons j r =>
    rw [pts_app' w1] at nd
    have n3 := (List.nodup_append.mp nd).2.2
    have n2 := (List.nodup_append.mp nd).2.1
    refine ⟨j, n3 d w1.end_in y (by simp [pts]), fun z => nc (by rw [z, rws_app]; simp [rws]), r, fun h => ?_, fun z => ?_⟩
    · rw [ew.p] at h
      exact n3 y h y (by simp [pts]) rfl
    · subst z
      cases l2 with
      | nil => rfl
      | cons q l3 =>
        exfalso
        cases r with
        | cons j2 r2 =>
          exact (List.nodup_cons.mp n2).1 r2.end_in
theorem WyJ.skip (h : WyJ sk v0 u0 c fo st cl i) (ew : EnW sk v0 u0 c e cl x) (no : ∀ y, ¬ (Jn sk i x y ∧ x ≠ y ∧ i ≠ c ∧ y ∉ e.1)) : WyJ sk v0 u0 c fo st cl (i + 1) := by
  refine ⟨h.en, h.so, h.hd, fun l w nd nc => ?_⟩
  rcases h.co l w nd nc with q | q | ⟨k, y, l2, el, ik⟩
  · exact .inl q
  · exact .inr (.inl q)
  · by_cases z : k = i
    · exfalso
      subst z
      subst el
      obtain ⟨a, b, d, _, f, _⟩ := on_way ew w nd nc
      exact no y ⟨a, b, d, f⟩
    · exact .inr (.inr ⟨k, y, l2, el, by omega⟩)
theorem jn_un {i x y y' : Nat} (h : Jn sk i x y) (g : Jn sk i x y') (ne : x ≠ y) : y' = y := by
  rcases h.same g with ⟨_, q⟩ | ⟨q, _⟩
  · exact q
  · exact absurd q ne
theorem WyJ.hit (h : WyJ sk v0 u0 c fo st cl i) (ew : EnW sk v0 u0 c e cl x) (jc : Jn sk c u0 v0) (j : Jn sk i x u0) (ic : i ≠ c) (n0 : v0 ≠ u0) : WyJ sk v0 u0 c (fo ++ e.2 ++ [i]) st cl (i + 1) := by
  have xu : x ≠ u0 := fun z => ew.nu (by rw [ew.p, ← z]; exact ew.w.end_in)
  have w1 : Wk sk v0 (cl ++ [(i, u0)]) u0 := ew.w.app (.cons j .nil)
  have p1 : pts v0 (cl ++ [(i, u0)]) = e.1 ++ [u0] := by rw [pts_app' ew.w, ew.p]; rfl
  have r1 : rws (cl ++ [(i, u0)]) = e.2 ++ [i] := by rw [rws_app, ew.g]; rfl
  have nd1 : (pts v0 (cl ++ [(i, u0)])).Nodup := by
    rw [p1, List.nodup_append]
    exact ⟨ew.nd, by simp, fun a ha b hb => by rw [List.mem_singleton.mp hb]; intro z; rw [z] at ha; exact ew.nu ha⟩
  have nc1 : c ∉ rws (cl ++ [(i, u0)]) := by
    rw [r1]; intro z
    rcases List.mem_append.mp z with z | z
    · exact ew.nc z
    · exact ic (List.mem_singleton.mp z).symm
  refine ⟨h.en, fun q hq => ?_, by simp [h.hd], fun l w nd nc => ?_⟩
  · rw [List.append_assoc] at hq
    rcases List.mem_append.mp hq with z | z
    · exact h.so q z
    · exact .inr ⟨v0, u0, _, jc, w1, nd1, n0, nc1, .inr (by rw [r1]; exact z)⟩
  · rcases h.co l w nd nc with q | q | ⟨k, y, l2, el, ik⟩
    · exact .inl fun a ha => by simp [q a ha]
    · exact .inr (.inl q)
    · by_cases z : k = i
      · subst z
        subst el
        obtain ⟨a, b, d, _, f, g⟩ := on_way ew w nd nc
        have yu := jn_un j a xu
        have := g yu
        subst this yu
        refine .inl fun q hq => ?_
        rw [r1] at hq
        rw [List.append_assoc]
        exact List.mem_append_right _ hq
      · exact .inr (.inr ⟨k, y, l2, el, by omega⟩)
theorem EnW.more (ew : EnW sk v0 u0 c e cl x) {y : Nat} (j : Jn sk i x y) (ic : i ≠ c) (yu : y ≠ u0) (yn : y ∉ e.1) : EnW sk v0 u0 c (e.1 ++ [y], e.2 ++ [i]) (cl ++ [(i, y)]) y := by
  refine ⟨ew.w.app (.cons j .nil), ?_, ?_, ?_, ?_, ?_⟩
  · show e.1 ++ [y] = _
    rw [pts_app' ew.w, ew.p]; rfl
  · show e.2 ++ [i] = _
    rw [rws_app, ew.g]; rfl
  · show (e.1 ++ [y]).Nodup
    rw [List.nodup_append]
    exact ⟨ew.nd, by simp, fun a ha b hb => by rw [List.mem_singleton.mp hb]; intro z; rw [z] at ha; exact yn ha⟩
  · show u0 ∉ e.1 ++ [y]
    intro z
    rcases List.mem_append.mp z with z | z
    · exact ew.nu z
    · exact yu (List.mem_singleton.mp z).symm
  · show c ∉ e.2 ++ [i]
    intro z
    rcases List.mem_append.mp z with z | z
    · exact ew.nc z
    · exact ic (List.mem_singleton.mp z).symm
theorem WyJ.push (h : WyJ sk v0 u0 c fo st cl i) (ew : EnW sk v0 u0 c e cl x) {y : Nat} (j : Jn sk i x y) (ne : x ≠ y) (ic : i ≠ c) (yu : y ≠ u0) (yn : y ∉ e.1) : WyJ sk v0 u0 c fo (st ++ [(e.1 ++ [y], e.2 ++ [i])]) cl (i + 1) := by
  have em := ew.more j ic yu yn
  refine ⟨fun f hf => ?_, h.so, h.hd, fun l w nd nc => ?_⟩
  · rcases List.mem_append.mp hf with z | z
    · exact h.en f z
    · rw [List.mem_singleton.mp z]; exact ⟨_, _, em⟩
  · rcases h.co l w nd nc with q | ⟨f, hf, q⟩ | ⟨k, y', l2, el, ik⟩
    · exact .inl q
    · exact .inr (.inl ⟨f, by simp [hf], q⟩)
    · by_cases z : k = i
      · subst z
        subst el
        obtain ⟨a, _⟩ := on_way ew w nd nc
        have := jn_un j a ne
        subst this
        exact .inr (.inl ⟨_, List.mem_append_right _ (List.mem_singleton.mpr rfl), cl ++ [(k, y')], l2, by simp, Prod.ext em.p em.g⟩)
      · exact .inr (.inr ⟨k, y', l2, el, by omega⟩)
theorem WyJ.fin (h : WyJ sk v0 u0 c fo st cl sk.length) : WyI sk v0 u0 c fo st := by
  refine ⟨h.en, h.so, h.hd, fun l w nd nc => ?_⟩
  rcases h.co l w nd nc with q | q | ⟨k, y, l2, el, ik⟩
  · exact .inl q
  · exact .inr q
  · exfalso
    have := rws_row w (j := k) (by rw [el, rws_app]; simp [rws])
    omega
theorem WyI.all (h : WyI sk v0 u0 c fo []) (jc : Jn sk c u0 v0) {j : Nat} : j ∈ fo ↔ j = c ∨ Cy sk c j := by
  refine ⟨h.so j, fun q => ?_⟩
  rcases q with rfl | ⟨a, b, l, ja, w, nd, ne, nc, hj⟩
  · exact h.hd
  · rcases hj with rfl | hj
    · exact h.hd
    · have key : ∀ l, Wk sk v0 l u0 → (pts v0 l).Nodup → c ∉ rws l → j ∈ rws l → j ∈ fo := fun l w nd nc hj => by
        rcases h.co l w nd nc with q | ⟨f, hf, _⟩
        · exact q j hj
        · cases hf
      rcases jc.same ja with ⟨e1, e2⟩ | ⟨e1, e2⟩
      · subst e1 e2
        exact key l w nd nc hj
      · subst e1 e2
        refine key (rvp a l) w.rev ?_ ?_ ?_
        · rw [w.pts_rev]; exact nd_rev nd
        · rw [rws_rev]; simpa using nc
        · rw [rws_rev]; simpa using hj
end
end Blk

set_option Elab.async false
set_option linter.all false
set_option maxHeartbeats 1000000
namespace Blk
open L2
theorem nd_lt : ∀ {m : Nat} {S : List Nat}, S.Nodup → (∀ p ∈ S, p < m) → S.length ≤ m
  | 0, [], _, _ => Nat.le_refl _
  | 0, p :: S, _, h => absurd (h p (List.mem_cons_self ..)) (Nat.not_lt_zero _)
  | m + 1, S, nd, h => by
    have e := nd_lt (m := m) (S := S.erase m) (nd.erase m) (fun p hp => by
      have h1 := h p (List.mem_of_mem_erase hp)
      have h2 : p ≠ m := fun z => by rw [z] at hp; exact (List.Nodup.not_mem_erase nd) hp
      omega)
    have h3 : S.length ≤ (S.erase m).length + 1 := by
      rw [List.length_erase]; split <;> omega
    omega
section
variable {sk : List Sk} {v0 u0 c m : Nat} {fo : List Nat} {st : List Ent} {cl : List (Nat × Nat)} {x i : Nat} {e : Ent}
theorem Jn.lt (hm : ∀ d ∈ sk, d.2.1 < m ∧ d.2.2 < m) {i a b : Nat} (h : Jn sk i a b) : a < m ∧ b < m := by
  obtain ⟨k, u, v, q, _, p⟩ := h
  have := hm _ (List.mem_of_getElem? q)
  rcases p with ⟨rfl, rfl⟩ | ⟨rfl, rfl⟩
  · exact this
  · exact ⟨this.2, this.1⟩
theorem Wk.lt (hm : ∀ d ∈ sk, d.2.1 < m ∧ d.2.2 < m) {a b : Nat} {l : List (Nat × Nat)} (h : Wk sk a l b) (ha : a < m) : ∀ p ∈ pts a l, p < m := by
  induction h with
  | nil => intro p hp; simp [pts] at hp; rw [hp]; exact ha
  | cons j r ih =>
    intro p hp
    rcases List.mem_cons.mp hp with z | z
    · rw [z]; exact ha
    · exact ih (Jn.lt hm j).2 p z
theorem EnW.len (hm : ∀ d ∈ sk, d.2.1 < m ∧ d.2.2 < m) (hv : v0 < m) (hu : u0 < m) (ew : EnW sk v0 u0 c e cl x) : e.1.length + 1 ≤ m ∧ e.2.length + 1 = e.1.length := by
  have l := nd_lt (m := m) (S := u0 :: e.1) (List.nodup_cons.mpr ⟨ew.nu, ew.nd⟩) (fun p hp => by
    rcases List.mem_cons.mp hp with z | z
    · rw [z]; exact hu
    · rw [ew.p] at z; exact Wk.lt hm ew.w hv p z)
  refine ⟨l, ?_⟩
  rw [ew.p, ew.g]; simp [pts, rws]
def muE (m : Nat) (e : Ent) : Nat := 10 ^ (m - e.1.length)
def muS (m : Nat) (st : List Ent) : Nat := (st.map (muE m)).sum
theorem muS_app (st su : List Ent) : muS m (st ++ su) = muS m st + muS m su := by unfold muS; rw [List.map_append, List.sum_append]
end
end Blk

set_option Elab.async false
set_option linter.all false
set_option maxRecDepth 100000
set_option maxHeartbeats 4000000
namespace L2
open PySem PyProof.Rows
section
variable {P : Program} {w : World} {A : Around} {E : Value → Shared → Prop} {s : Shared} {b : Bool}
section
variable {R : Result → Shared → Prop} {I : Addr} {fp wr : List Addr} {G : Array GenState → Array GenState → Prop} {n : Nat} {Pv : Nat → Value → Prop} {St : Nat → Shared → Prop}
end
end
end L2

set_option Elab.async false
set_option linter.all false
set_option maxRecDepth 100000
set_option maxHeartbeats 4000000
namespace L2
open PySem PyProof.Rows
abbrev emp (g : Bool) : Obj := { cls := .type "set", dict := none, data := .set #[] 0 (.fresh 0 0 g) }
section
variable {P : Program} {w : World} {A : Around} {E : Value → Shared → Prop} {s : Shared} {b : Bool}
end
end L2

set_option Elab.async false
set_option linter.all false
set_option maxRecDepth 100000
set_option maxHeartbeats 4000000
namespace L2
open PySem PyProof.Rows
theorem set_boot : bootBuiltins "set" = some (.type "set") := by decide +kernel
section
variable {X : Cx}
end
end L2

set_option Elab.async false
set_option linter.all false
set_option maxRecDepth 100000
set_option maxHeartbeats 2000000
namespace PySem.SeqAt
open AutoSeq1 (wpAny_loadPart')
open MeetsSeq MeetsSeq2 MeetsSeq3
end PySem.SeqAt
namespace L2
open PySem PySem.Spec PyProof.Rows
variable {X : Cx}
theorem vint {ns : List Int} {its : List Value} (rv : Vals (ns.map V.int) its) {i : Nat} {p : Int} (h : ns[i]? = some p) : ∃ t, its[i]? = some (.int p t) := by
  obtain ⟨u, hu, ru⟩ := rv.get (show (ns.map V.int)[i]? = some (.int p) by rw [List.getElem?_map, h]; rfl)
  obtain ⟨t, rfl⟩ := (show ∃ t, u = Value.int p t from ru)
  exact ⟨t, hu⟩
end L2

set_option Elab.async false
set_option linter.all false
set_option maxRecDepth 100000
set_option maxHeartbeats 4000000
namespace L2
open PySem PyProof.Rows
section
variable {P : Program} {w : World} {A : Around} {E : Value → Shared → Prop} {s : Shared}
section
variable {R : Result → Shared → Prop} {I : Addr} {fp wr : List Addr} {G : Array GenState → Array GenState → Prop} {n : Nat} {Pv : Nat → Value → Prop} {St : Nat → Shared → Prop}
end
end
section
variable {P : Program} {w : World} {A : Around} {E : Value → Shared → Prop} {s : Shared} 
end
section
variable {X : Cx}
end
end L2

set_option Elab.async false
set_option linter.all false
set_option maxRecDepth 100000
set_option maxHeartbeats 1000000
namespace L2
open PySem
def Ris (xs : List Nat) : Prop := xs.Pairwise (· < ·)
theorem ris_lt {xs : Array Nat} (r : Ris xs.toList) {i k j : Nat} (h : i < k) (hk : k < xs.size) : xs.getD i j < xs.getD k j := by
  have hi : i < xs.size := by omega
  have := List.pairwise_iff_getElem.mp r i k (by simpa using hi) (by simpa using hk) h
  simpa [Array.getD, hi, hk] using this
theorem below_go {xs : Array Nat} {j : Nat} (r : Ris xs.toList) : ∀ fuel lo hi, lo ≤ hi → hi ≤ xs.size → hi - lo ≤ fuel → (∀ k, k < lo → xs.getD k j < j) → (∀ k, hi ≤ k → k < xs.size → j ≤ xs.getD k j) →
    SetTable.below.go xs j fuel lo hi ≤ xs.size ∧ (∀ k, k < SetTable.below.go xs j fuel lo hi → xs.getD k j < j) ∧ (∀ k, SetTable.below.go xs j fuel lo hi ≤ k → k < xs.size → j ≤ xs.getD k j) := by
  intro fuel
  induction fuel with
  | zero =>
    intro lo hi h1 h2 h3 a b
    have : hi = lo := by omega
    subst this
    exact ⟨h2, a, b⟩
  | succ f ih =>
    intro lo hi h1 h2 h3 a b
    rw [SetTable.below.go]
    split
    · next lt =>
      dsimp only
      split
      · next c =>
        refine ih ((lo + hi) / 2 + 1) hi (by omega) h2 (by omega) (fun k hk => ?_) b
        by_cases e : k = (lo + hi) / 2
        · rw [e]; exact c
        · exact Nat.lt_trans (ris_lt r (by omega) (by omega)) c
      · next c =>
        refine ih lo ((lo + hi) / 2) (by omega) (by omega) (by omega) a (fun k hk hs => ?_)
        by_cases e : k = (lo + hi) / 2
        · rw [e]; omega
        · have := ris_lt (j := j) r (show (lo + hi) / 2 < k by omega) hs; omega
    · have : hi = lo := by omega
      subst this
      exact ⟨h2, a, b⟩
theorem below_ok {xs : Array Nat} (r : Ris xs.toList) (j : Nat) : SetTable.below xs j ≤ xs.size ∧ (∀ k, k < SetTable.below xs j → xs.getD k j < j) ∧ (∀ k, SetTable.below xs j ≤ k → k < xs.size → j ≤ xs.getD k j) :=
  below_go r xs.size 0 xs.size (by omega) (by omega) (by omega) (fun k h => by omega) (fun k h g => by omega)
theorem ris_put {xs : Array Nat} (r : Ris xs.toList) {j : Nat} (n : xs[SetTable.below xs j]? ≠ some j) : Ris (SetTable.insertAt xs (SetTable.below xs j) j).toList := by
  obtain ⟨b1, b2, b3⟩ := below_ok r j
  rw [SetTable.toList_insertAt]
  generalize SetTable.below xs j = p at b1 b2 b3 n
  have gd : ∀ {k}, (h : k < xs.size) → xs.getD k j = xs.toList[k]'(by simpa using h) := fun h => by simp [Array.getD, h]
  have big : ∀ x ∈ xs.toList.drop p, j < x := fun x hx => by
    obtain ⟨k, hk, e⟩ := List.getElem_of_mem hx
    rw [List.length_drop] at hk
    rw [List.getElem_drop] at e
    have ks : p + k < xs.size := by simp at hk; omega
    have ps : p < xs.size := by omega
    have b := b3 p (Nat.le_refl _) ps
    have ne : xs.getD p j ≠ j := fun z => n (by rw [Array.getElem?_eq_getElem ps]; simp [Array.getD, ps] at z; rw [z])
    have : xs.getD p j ≤ xs.getD (p + k) j := by
      by_cases z : k = 0
      · rw [z]; exact Nat.le_refl _
      · exact Nat.le_of_lt (ris_lt r (by omega) ks)
    rw [← e, ← gd ks]; omega
  have small : ∀ x ∈ xs.toList.take p, x < j := fun x hx => by
    obtain ⟨k, hk, e⟩ := List.getElem_of_mem hx
    rw [List.length_take] at hk
    rw [List.getElem_take] at e
    have ks : k < xs.size := by simp at hk; omega
    have := b2 k (by omega)
    rw [← e, ← gd ks]; exact this
  refine List.pairwise_append.mpr ⟨r.sublist (List.take_sublist _ _), List.pairwise_cons.mpr ⟨big, r.sublist (List.drop_sublist _ _)⟩, fun x hx y hy => ?_⟩
  have s := small x hx
  rcases List.mem_cons.mp hy with z | z
  · rw [z]; exact s
  · have := big y z; omega
theorem ris_range (n : Nat) : Ris (Array.range n).toList := by
  unfold Ris; rw [Array.toList_range]; exact List.pairwise_lt_range
structure TbG (t : SetTable) (led : Bool) : Prop where
  l : t.led = led
  d : t.dummies = #[]
  r : Ris t.place.toList
theorem TbG.standIn {t : SetTable} {b : Bool} (h : TbG t b) (n : Nat) : TbG (t.standIn n) b := ⟨h.l, rfl, ris_range n⟩
theorem TbG.orS {t : SetTable} {b : Bool} (h : TbG t b) (n : Nat) : TbG (t.orStandIn n) b := by
  unfold SetTable.orStandIn; split
  · exact h
  · exact h.standIn n
theorem has_nil (j : Nat) : SetTable.has #[] j = false := by
  unfold SetTable.has; simp
theorem TbG.put {t : SetTable} {b : Bool} (h : TbG t b) {j : Nat} (n : t.place[SetTable.below t.place j]? ≠ some j) : TbG (t.put j).1 b := by
  refine ⟨h.l, ?_, ris_put h.r n⟩
  show (if SetTable.has t.dummies j = true then SetTable.eraseAt t.dummies (SetTable.below t.dummies j) else t.dummies) = #[]
  rw [h.d, has_nil]; rfl
theorem slot_dm {t : SetTable} (h : t.dummies = #[]) (j : Nat) : t.slot j ≠ .dummy ∧ (t.slot j = .empty → t.place[SetTable.below t.place j]? ≠ some j) := by
  unfold SetTable.slot
  dsimp only
  rw [h, has_nil]
  split
  · next c => exact ⟨fun z => (by cases z), fun z => (by cases z)⟩
  · next c => exact ⟨fun z => (by cases z), fun _ z => c (by rw [z]; simp)⟩
theorem adv_dm (t : SetTable) (p : SetTable.Probe) : (t.advance p).dummy = p.dummy := by
  unfold SetTable.advance; split <;> rfl
theorem probe_go {t : SetTable} (h : t.dummies = #[]) {f : Nat → Int} {k : Int} : ∀ fuel (p : SetTable.Probe) {j : Nat} {dm : Option Nat}, SetTable.probe.go t f k fuel p = some (.empty j dm) → t.slot j = .empty ∧ dm = p.dummy := by
  intro fuel
  induction fuel with
  | zero => intro p j dm e; rw [SetTable.probe.go] at e; cases e
  | succ n ih =>
    intro p j dm e
    rw [SetTable.probe.go] at e
    split at e
    · next c =>
      injection e with e
      injection e with e1 e2
      exact ⟨by rw [← e1]; exact c, e2.symm⟩
    · next c => exact absurd c (slot_dm h _).1
    · next i c =>
      split at e
      · cases e
      · obtain ⟨a, b⟩ := ih _ e
        exact ⟨a, by rw [b, adv_dm]⟩
theorem free_ok {t : SetTable} (h : t.dummies = #[]) {k : Int} {j : Nat} {d : Bool} (e : t.freeSlot k = some (j, d)) : t.place[SetTable.below t.place j]? ≠ some j := by
  unfold SetTable.freeSlot at e
  split at e
  · next j' dm c =>
    obtain ⟨a, b⟩ := probe_go h _ _ c
    have pd : (t.probeStart k).dummy = none := by unfold SetTable.probeStart; rfl
    rw [pd] at b
    subst b
    injection e with e
    injection e with e1 e2
    rw [← e1]
    exact (slot_dm h _).2 a
  · cases e
theorem TbG.layNew {t : SetTable} {b : Bool} (h : TbG t b) (es : Array (Int × Value)) (k : Int) (x : Value) : TbG (layNew t es k x).2.1 b := by
  unfold PySem.layNew
  split
  · next j d e => exact (h.put (free_ok h.d e)).orS _
  · exact h.standIn _
theorem TbG.relay {t : SetTable} {b : Bool} (h : TbG t b) (es : Array (Int × Value)) (n : Nat) : TbG (relayAll t es n).2.1 b := by
  unfold PySem.relayAll
  split
  · next t' o e =>
    dsimp only
    split
    · unfold SetTable.relaid SetTable.laid at e
      simp only [Option.bind_eq_bind, Option.bind_eq_some_iff, Option.pure_def, Option.some.injEq] at e
      obtain ⟨ow, _, e2⟩ := e
      injection e2 with e2 _
      subst e2
      refine ⟨h.l, rfl, ?_⟩
      show Ris (List.map _ (List.filterMap _ _))
      unfold Ris
      rw [List.pairwise_map]
      rw [List.pairwise_filterMap]
      refine List.pairwise_lt_range.imp fun {x y} lt a ha c hc => ?_
      obtain ⟨_, _, rfl⟩ := Option.map_eq_some_iff.mp ha
      obtain ⟨_, _, rfl⟩ := Option.map_eq_some_iff.mp hc
      exact lt
    · exact h.standIn _
  · exact h.standIn _
end L2

set_option Elab.async false
set_option linter.all false
set_option maxRecDepth 100000
set_option maxHeartbeats 4000000
namespace L2
open PySem PyProof.Rows
section
variable {P : Program} {w : World} {A : Around} {E : Value → Shared → Prop} {s : Shared}
theorem wp_gave {gave : Bool} {Q : Unit → Shared → Prop} (h : Q () s) : wpAny (model P w) A (match gave with | true => rule "set.scan.the-table-gave-way" | false => pure ()) Q E s := by
  cases gave
  · exact wpAny_pure h
  · exact wpAny_rule h
end
end L2

set_option Elab.async false
set_option linter.all false
set_option maxRecDepth 100000
set_option maxHeartbeats 4000000
namespace L2
open PySem PyProof.Rows
abbrev tb7 (p : List Nat) : SetTable := { mask := 7, place := p.toArray, dummies := #[], finger := 0, led := true, moves := 0, plain := true }
def subs : List Nat → List (List Nat)
  | [] => [[]]
  | a :: r => (subs r).flatMap fun l => [l, a :: l]
theorem mem_subs : ∀ {l p : List Nat}, p.Sublist l → p ∈ subs l
  | _, _, .slnil => by simp [subs]
  | _, _, .cons a h => by
    have := mem_subs h
    show _ ∈ (subs _).flatMap _
    rw [List.mem_flatMap]; exact ⟨_, this, by simp⟩
  | _, _, .cons₂ a h => by
    have := mem_subs h
    show _ ∈ (subs _).flatMap _
    rw [List.mem_flatMap]; exact ⟨_, this, by simp⟩
def ok7 : Bool := (subs (List.range 8)).all fun p => decide (4 < p.length) || (List.range 9).all fun h => match (tb7 p).freeSlot (h : Int) with | some (j, _) => decide (j ≤ 7) | none => false
theorem ok7_is : ok7 = true := by decide +kernel
theorem ris_ext : ∀ {p q : List Nat}, Ris p → Ris q → (∀ x, x ∈ p ↔ x ∈ q) → p = q
  | [], [], _, _, _ => rfl
  | [], b :: q, _, _, h => by have := (h b).mpr (by simp); cases this
  | a :: p, [], _, _, h => by have := (h a).mp (by simp); cases this
  | a :: p, b :: q, r1, r2, h => by
    obtain ⟨a1, a2⟩ := List.pairwise_cons.mp r1
    obtain ⟨b1, b2⟩ := List.pairwise_cons.mp r2
    have e : a = b := by
      rcases List.mem_cons.mp ((h a).mp (by simp)) with z | z
      · exact z
      · rcases List.mem_cons.mp ((h b).mpr (by simp)) with y | y
        · exact y.symm
        · have := b1 a z; have := a1 b y; omega
    subst e
    rw [ris_ext a2 b2 fun x => ?_]
    constructor
    · intro hx
      rcases List.mem_cons.mp ((h x).mp (List.mem_cons_of_mem _ hx)) with z | z
      · have := a1 x hx; omega
      · exact z
    · intro hx
      rcases List.mem_cons.mp ((h x).mpr (List.mem_cons_of_mem _ hx)) with z | z
      · have := b1 x hx; omega
      · exact z
theorem ris_nd {p : List Nat} (r : Ris p) : p.Nodup := r.imp fun h => Nat.ne_of_lt h
theorem ris_sub {p : List Nat} (r : Ris p) {n : Nat} (h : ∀ j ∈ p, j < n) : p.Sublist (List.range n) := by
  have e : p = (List.range n).filter fun j => decide (j ∈ p) := ris_ext r (List.pairwise_lt_range.filter _) fun x => by
    rw [List.mem_filter, List.mem_range]; simp; exact h x
  rw [e]; exact List.filter_sublist
theorem go_congr {t u : SetTable} (hm : t.mask = u.mask) (hp : t.place = u.place) (hd : t.dummies = u.dummies) {f : Nat → Int} {h : Int} : ∀ fuel p, SetTable.probe.go t f h fuel p = SetTable.probe.go u f h fuel p := by
  have hs : ∀ j, t.slot j = u.slot j := fun j => by unfold SetTable.slot; rw [hp, hd]
  have ha : ∀ p, t.advance p = u.advance p := fun p => by unfold SetTable.advance; rw [hm]
  intro fuel
  induction fuel with
  | zero => intro p; rw [SetTable.probe.go, SetTable.probe.go]
  | succ n ih =>
    intro p
    rw [SetTable.probe.go, SetTable.probe.go, hs]
    cases u.slot p.j with
    | empty => rfl
    | dummy => dsimp only; rw [ha, ih]
    | live i => dsimp only; rw [ha, ih]
theorem free7 {t : SetTable} (hm : t.mask = 7) (hd : t.dummies = #[]) (r : Ris t.place.toList) (b7 : ∀ j ∈ t.place.toList, j ≤ 7) (l4 : t.place.size ≤ 4) {h : Nat} (h8 : h ≤ 8) : ∃ j d, t.freeSlot (h : Int) = some (j, d) ∧ j ≤ 7 := by
  have e : t.freeSlot (h : Int) = (tb7 t.place.toList).freeSlot (h : Int) := by
    unfold SetTable.freeSlot SetTable.probe SetTable.probeStart
    rw [hm, go_congr (u := tb7 t.place.toList) hm (by simp) hd]
  rw [e]
  have := List.all_eq_true.mp ok7_is _ (mem_subs (ris_sub r fun j hj => show j < 8 by have := b7 j hj; omega))
  rw [Bool.or_eq_true] at this
  rcases this with z | z
  · have := of_decide_eq_true z; simp at this; omega
  · have := List.all_eq_true.mp z h (List.mem_range.mpr (by omega))
    revert this
    cases (tb7 t.place.toList).freeSlot (h : Int) with
    | none => intro q; cases q
    | some x => intro q; exact ⟨x.1, x.2, rfl, of_decide_eq_true q⟩
theorem bits_nat {z : Nat} (h : z ≤ 8) : SetTable.bits (z : Int) = z := by unfold SetTable.bits; omega
theorem slot_no {t : SetTable} (hd : t.dummies = #[]) {z : Nat} (zn : z ∉ t.place.toList) : t.slot z = .empty := by
  unfold SetTable.slot
  dsimp only
  rw [hd, has_nil, if_neg]
  · rfl
  · intro c
    have c : t.place[SetTable.below t.place z]? = some z := by simpa using c
    exact zn (by rw [← Array.getElem?_toList] at c; exact List.mem_of_getElem? c)
theorem free31 {t : SetTable} (hm : t.mask = 31) (hd : t.dummies = #[]) {z : Nat} (z8 : z ≤ 8) (zn : z ∉ t.place.toList) : t.freeSlot (z : Int) = some (z, false) := by
  unfold SetTable.freeSlot SetTable.probe SetTable.probeStart
  rw [hm, bits_nat z8]
  have e : z % (31 + 1) = z := by omega
  rw [show 10 * SetTable.turns 31 = 459 + 1 from rfl, SetTable.probe.go]
  dsimp only
  rw [e, slot_no hd zn]; rfl
end L2

set_option Elab.async false
set_option linter.all false
set_option maxRecDepth 100000
set_option maxHeartbeats 4000000
namespace L2
open PySem PyProof.Rows
theorem free_own {ow : Array (Option Nat)} {i fuel pt : Nat} (h : ow.getD i (some 0) = none) : SetTable.layClean.free 31 ow (fuel + 1) i pt = some i := by
  rw [SetTable.layClean.free]
  have r : SetTable.runEnd 31 i + 1 - i = (SetTable.runEnd 31 i - i) + 1 := by unfold SetTable.runEnd; split <;> omega
  rw [r, List.range_succ_eq_map, List.find?_cons_of_pos (by simp [h])]
  simp
abbrev layS : Option (Array (Option Nat) × Nat) → Int → Option (Array (Option Nat) × Nat) := fun acc h => do
  let __x ← acc
  match __x with
    | (owner, k) => do
      let j ← SetTable.layClean.free 31 owner (SetTable.turns 31) (SetTable.bits h % (31 + 1)) (SetTable.bits h)
      pure (owner.setIfInBounds j (some k), k + 1)
def ixO (hs : List Nat) (j : Nat) : Option Nat := if j ∈ hs then some (hs.idxOf j) else none
theorem lay_go : ∀ (hs pre : List Nat) (ow : Array (Option Nat)), (pre ++ hs).Nodup → (∀ z ∈ hs, z ≤ 8) → ow.size = 32 → (∀ j, ow.getD j none = ixO pre j) →
    ∃ ow', (hs.map fun (z : Nat) => (z : Int)).foldl layS (some (ow, pre.length)) = some (ow', (pre ++ hs).length) ∧ ∀ j, ow'.getD j none = ixO (pre ++ hs) j
  | [], pre, ow, nd, b, sz, g => ⟨ow, by simp, fun j => by rw [List.append_nil]; exact g j⟩
  | z :: hs, pre, ow, nd, b, sz, g => by
    have z8 := b z (by simp)
    have zn : z ∉ pre := fun h => by
      have := (List.nodup_append.mp nd).2.2 z h z (by simp)
      exact this rfl
    have gz := g z
    unfold ixO at gz
    rw [if_neg zn] at gz
    have zs : z < ow.size := by omega
    have fz : ow.getD z (some 0) = none := by
      simp only [Array.getD, zs, dif_pos] at gz ⊢
      exact gz
    have st : layS (some (ow, pre.length)) (z : Int) = some (ow.setIfInBounds z (some pre.length), pre.length + 1) := by
      show (do
        let j ← SetTable.layClean.free 31 ow (SetTable.turns 31) (SetTable.bits (z : Int) % (31 + 1)) (SetTable.bits (z : Int))
        pure (ow.setIfInBounds j (some pre.length), pre.length + 1) : Option _) = _
      rw [bits_nat z8, show z % (31 + 1) = z by omega, show SetTable.turns 31 = 45 + 1 from rfl, free_own fz]; rfl
    obtain ⟨ow', e, q⟩ := lay_go hs (pre ++ [z]) (ow.setIfInBounds z (some pre.length)) (by rw [List.append_assoc]; exact nd) (fun y hy => b y (List.mem_cons_of_mem _ hy)) (by rw [Array.size_setIfInBounds]; exact sz) (fun j => by
      by_cases c : j = z
      · subst c
        unfold ixO
        rw [if_pos (by simp), List.idxOf_append, if_neg zn]
        simp [Array.getD, zs]
      · have : (ow.setIfInBounds z (some pre.length)).getD j none = ow.getD j none := by
          have cc : z ≠ j := fun h => c h.symm
          by_cases js : j < ow.size
          · simp [Array.getD, js, Array.getElem_setIfInBounds, cc]
          · simp [Array.getD, js]
        rw [this, g j]
        unfold ixO
        by_cases jm : j ∈ pre
        · rw [if_pos jm, if_pos (by simp [jm]), List.idxOf_append, if_pos jm]
        · rw [if_neg jm, if_neg (by simp [jm, c])])
    refine ⟨ow', ?_, fun j => by rw [q j, List.append_assoc]; rfl⟩
    rw [List.map_cons, List.foldl_cons, st]
    have : pre.length + 1 = (pre ++ [z]).length := by simp
    rw [this, e, List.append_assoc]; rfl
def srt (hs : List Nat) : List Nat := (List.range 32).filter fun j => decide (j ∈ hs)
theorem srt_ris (hs : List Nat) : Ris (srt hs) := List.pairwise_lt_range.filter _
theorem mem_srt {hs : List Nat} (b : ∀ z ∈ hs, z ≤ 8) {x : Nat} : x ∈ srt hs ↔ x ∈ hs := by
  unfold srt; rw [List.mem_filter, List.mem_range]; simp
  intro h; have := b x h; omega
theorem srt_perm {hs : List Nat} (nd : hs.Nodup) (b : ∀ z ∈ hs, z ≤ 8) : (srt hs).Perm hs := (List.perm_ext_iff_of_nodup (ris_nd (srt_ris hs)) nd).mpr fun x => mem_srt b
theorem live_eq (hs : List Nat) : ∀ l : List Nat, l.filterMap (fun j => Option.map (fun x => (j, x)) (ixO hs j)) = (l.filter fun j => decide (j ∈ hs)).map fun j => (j, hs.idxOf j)
  | [] => rfl
  | a :: l => by
    rw [List.filterMap_cons, live_eq hs l]
    unfold ixO
    by_cases c : a ∈ hs
    · rw [if_pos c, List.filter_cons_of_pos (by simp [c])]; rfl
    · rw [if_neg c, List.filter_cons_of_neg (by simp [c])]; rfl
theorem laid31 {hs : List Nat} (nd : hs.Nodup) (b : ∀ z ∈ hs, z ≤ 8) (fi mo : Nat) (led pl : Bool) : SetTable.laid 31 fi mo led pl (hs.map fun (z : Nat) => (z : Int)).toArray = some ({ mask := 31, place := (srt hs).toArray, dummies := #[], finger := fi, led := led, moves := mo, plain := pl }, ((srt hs).map (hs.idxOf ·)).toArray) := by
  obtain ⟨ow, e, q⟩ := lay_go hs [] (Array.replicate 32 none) (by simpa using nd) b (by simp) (fun j => by
    unfold ixO; rw [if_neg (by simp)]
    simp only [Array.getD]; split <;> simp)
  unfold SetTable.laid SetTable.layClean
  have e2 : Array.foldl layS (some (Array.replicate (31 + 1) none, 0)) (hs.map fun (z : Nat) => (z : Int)).toArray = some (ow, ([] ++ hs).length) := by
    rw [← Array.foldl_toList]; exact e
  show (Option.bind (Option.map (fun x => x.fst) (Array.foldl layS (some (Array.replicate (31 + 1) none, 0)) (hs.map fun (z : Nat) => (z : Int)).toArray)) _) = _
  rw [e2]
  show some _ = some _
  have l : List.filterMap (fun j => Option.map (fun x => (j, x)) (ow.getD j none)) (List.range (31 + 1)) = (srt hs).map fun j => (j, hs.idxOf j) := by
    show _ = ((List.range 32).filter fun j => decide (j ∈ hs)).map fun j => (j, hs.idxOf j)
    rw [← live_eq hs]
    congr 1
    funext j
    rw [q j]; rfl
  rw [l, List.map_map, List.map_map]
  congr 1
  refine Prod.ext ?_ rfl
  have : (srt hs).map ((fun x => x.fst) ∘ fun j => (j, hs.idxOf j)) = srt hs := by
    conv => rhs; rw [← List.map_id (srt hs)]
    rfl
  show SetTable.mk _ _ _ _ _ _ _ = _
  rw [this]
theorem idx_range {hs : List Nat} (nd : hs.Nodup) : hs.map (hs.idxOf ·) = List.range hs.length := by
  refine List.ext_getElem (by simp) fun i h1 h2 => ?_
  rw [List.getElem_map, List.getElem_range]
  have hi : i < hs.length := by simpa using h1
  have m : hs[i] ∈ hs := List.getElem_mem hi
  have l := List.idxOf_lt_length_of_mem m
  have e : hs[hs.idxOf hs[i]] = hs[i] := List.getElem_idxOf l
  by_cases c : hs.idxOf hs[i] = i
  · exact c
  · exfalso
    rcases Nat.lt_or_gt_of_ne c with z | z
    · exact List.pairwise_iff_getElem.mp nd _ _ l hi z e
    · exact List.pairwise_iff_getElem.mp nd _ _ hi l z e.symm
theorem relay_es {es : Array (Int × Value)} {hs : List Nat} (he : es.toList.map (·.1) = hs.map fun (z : Nat) => (z : Int)) : ∀ q : List Nat, (∀ x ∈ q, x ∈ hs) → ((q.map (hs.idxOf ·)).filterMap fun x => es[x]?).map (·.1) = q.map fun (z : Nat) => (z : Int)
  | [], _ => rfl
  | a :: q, h => by
    have l := List.idxOf_lt_length_of_mem (h a (by simp))
    have le : es.toList.length = hs.length := by have := congrArg List.length he; simpa using this
    have hk : hs.idxOf a < es.size := by simpa using (show hs.idxOf a < es.toList.length by omega)
    have e : es[hs.idxOf a]? = some es[hs.idxOf a] := Array.getElem?_eq_getElem hk
    have v : (es[hs.idxOf a]).1 = (a : Int) := by
      have := congrArg (fun l => l[hs.idxOf a]?) he
      simp only [List.getElem?_map] at this
      rw [Array.getElem?_toList, e, List.getElem?_eq_getElem l, List.getElem_idxOf l] at this
      simpa using this
    rw [List.map_cons, List.filterMap_cons, e]
    dsimp only
    rw [List.map_cons, relay_es he q fun x hx => h x (List.mem_cons_of_mem _ hx), v]; rfl
theorem relay31 {t : SetTable} {es : Array (Int × Value)} {hs : List Nat} (he : es.toList.map (·.1) = hs.map fun (z : Nat) => (z : Int)) (nd : hs.Nodup) (b : ∀ z ∈ hs, z ≤ 8) (l5 : hs.length = 5) :
    ∃ es' t', relayAll t es (SetTable.grown es.size) = (es', t', false) ∧ t'.mask = 31 ∧ t'.plain = t.plain ∧ t'.place.toList = srt hs ∧ es'.toList.map (·.1) = (srt hs).map fun (z : Nat) => (z : Int) := by
  have sz : es.size = 5 := by have := congrArg List.length he; simpa [l5] using this
  have hm : Array.map (fun x => x.fst) es = (hs.map fun (z : Nat) => (z : Int)).toArray := by
    rw [← he]
    apply Array.ext'
    simp
  unfold PySem.relayAll SetTable.relaid
  rw [hm, sz, show SetTable.sizeAbove (SetTable.grown 5) - 1 = 31 from rfl, laid31 nd b]
  dsimp only
  have sp := srt_perm nd b
  have lq : (srt hs).length = 5 := by rw [sp.length_eq, l5]
  have es2 := relay_es he (srt hs) fun x hx => (mem_srt b).mp hx
  have ef : (Array.filterMap (fun x => es[x]?) ((srt hs).map (hs.idxOf ·)).toArray).toList = ((srt hs).map (hs.idxOf ·)).filterMap fun x => es[x]? := by simp
  have ez : (Array.filterMap (fun x => es[x]?) ((srt hs).map (hs.idxOf ·)).toArray).size = 5 := by
    rw [← Array.length_toList, ef]
    have := congrArg List.length es2
    rw [List.length_map, List.length_map] at this
    omega
  rw [if_pos]
  · refine ⟨_, _, rfl, rfl, rfl, rfl, ?_⟩
    rw [ef]; exact es2
  · rw [Bool.and_eq_true]
    constructor
    · unfold coversAll
      rw [List.isPerm_iff]
      show ((srt hs).map (hs.idxOf ·)).Perm (List.range 5)
      have := sp.map (hs.idxOf ·)
      rw [idx_range nd, l5] at this
      exact this
    · rw [ez]
      unfold SetTable.fits SetTable.fill
      simp [lq]
end L2

set_option Elab.async false
set_option linter.all false
set_option maxRecDepth 100000
set_option maxHeartbeats 4000000
namespace L2
open PySem PyProof.Rows
theorem hash_small (P : Program) (w : World) {z : Nat} (h : z ≤ 8) : (intKind P w).hash (z : Int) = (z : Int) := by
  have : z = 0 ∨ z = 1 ∨ z = 2 ∨ z = 3 ∨ z = 4 ∨ z = 5 ∨ z = 6 ∨ z = 7 ∨ z = 8 := by omega
  rcases this with rfl | rfl | rfl | rfl | rfl | rfl | rfl | rfl | rfl <;> rfl
structure TbP (t : SetTable) (es : Array (Int × Value)) : Prop where
  pl : t.plain = true
  cs : (t.mask = 7 ∧ es.size ≤ 4 ∧ ∀ j ∈ t.place.toList, j ≤ 7) ∨ (t.mask = 31 ∧ es.toList.map (·.1) = t.place.toList.map fun (z : Nat) => (z : Int))
abbrev setO (es : Array (Int × Value)) (ep : Nat) (t : SetTable) : Obj := { cls := .type "set", dict := none, data := .set es ep t, slots := #[] }
structure SqE (es : Array (Int × Value)) (t : SetTable) (ns : List Nat) (led : Bool) (hs : List Nat) : Prop where
  ft : t.fits es.size = true
  tg : TbG t led
  tp : TbP t es
  el : ∀ e ∈ es.toList, ∃ (z : Nat) (tk : Tok), z ≤ 8 ∧ e = ((z : Int), Value.int (z : Int) tk)
  ks : es.toList.map (·.1) = hs.map fun (z : Nat) => (z : Int)
  nd : hs.Nodup
  b8 : ∀ z ∈ hs, z ≤ 8
  mb : ∀ x, x ∈ hs ↔ x ∈ ns
def SetQ (h : Heap) (T : Addr) (ns : List Nat) (led : Bool) : Prop := ∃ es ep t hs, h.get? T = some (setO es ep t) ∧ SqE es t ns led hs
theorem nd9 {hs : List Nat} (nd : hs.Nodup) (b : ∀ z ∈ hs, z ≤ 8) : hs.length ≤ 9 := by
  have := (srt_perm nd b).length_eq
  rw [← this]
  have s : (srt hs).Sublist (List.range 9) := ris_sub (srt_ris hs) fun j hj => by have := b j ((mem_srt b).mp hj); omega
  simpa using s.length_le
section
variable {P : Program} {w : World} {A : Around} {E : Value → Shared → Prop} {s : Shared} {es : Array (Int × Value)} {t : SetTable} {ns hs : List Nat} {led : Bool} {z : Nat} {tz : Tok}
theorem SqE.len (h : SqE es t ns led hs) : es.size = hs.length ∧ hs.length ≤ 9 ∧ t.place.size = es.size := by
  have := congrArg List.length h.ks
  have f := h.ft
  unfold SetTable.fits at f
  rw [Bool.and_eq_true] at f
  exact ⟨by simpa using this, nd9 h.nd h.b8, by simpa using f.1⟩
theorem SqE.lay (h : SqE es t ns led hs) (z8 : z ≤ 8) (zn : z ∉ ns) : ∃ es' t' gv, layNew t es (z : Int) (.int (z : Int) tz) = (es', t', false, gv) ∧ t'.plain = true ∧ es'.size = es.size + 1 ∧ TbG t' led ∧ t'.fits es'.size = true ∧
    ((t'.mask = 7 ∧ es'.size ≤ 5 ∧ ∀ j ∈ t'.place.toList, j ≤ 7) ∨ (t'.mask = 31 ∧ es'.toList.map (·.1) = t'.place.toList.map fun (z : Nat) => (z : Int))) ∧ es'.toList.Perm (es.push ((z : Int), .int (z : Int) tz)).toList := by
  obtain ⟨l1, l2, l3⟩ := h.len
  have lp := layNew_perm t es (z : Int) (.int (z : Int) tz)
  have lt := h.tg.layNew es (z : Int) (.int (z : Int) tz)
  have key : ∃ j, t.freeSlot (z : Int) = some (j, false) ∧ ((t.mask = 7 ∧ es.size ≤ 4 ∧ j ≤ 7 ∧ ∀ j ∈ t.place.toList, j ≤ 7) ∨ (t.mask = 31 ∧ j = z ∧ es.toList.map (·.1) = t.place.toList.map fun (z : Nat) => (z : Int))) := by
    rcases h.tp.cs with ⟨a, b, c⟩ | ⟨a, b⟩
    · obtain ⟨j, d, e, j7⟩ := free7 a h.tg.d h.tg.r c (by omega) z8
      have : d = false := by
        unfold SetTable.freeSlot at e
        split at e
        · next j' dm q =>
          obtain ⟨_, q2⟩ := probe_go h.tg.d _ _ q
          have pd : (t.probeStart (z : Int)).dummy = none := by unfold SetTable.probeStart; rfl
          rw [pd] at q2; subst q2
          injection e with e; injection e with _ e2; exact e2.symm
        · cases e
      subst this
      exact ⟨j, e, .inl ⟨a, b, j7, c⟩⟩
    · refine ⟨z, free31 a h.tg.d z8 fun hz => zn ((h.mb z).mp ?_), .inr ⟨a, rfl, b⟩⟩
      have e := h.ks
      rw [b] at e
      have := List.map_inj_right (f := fun (z : Nat) => (z : Int)) (fun x y q => by have q : (x : Int) = (y : Int) := q; omega) |>.mp e
      rw [← this]; exact hz
  obtain ⟨j, ej, cs⟩ := key
  have e0 : layNew t es (z : Int) (.int (z : Int) tz) = (SetTable.insertAt es (SetTable.below t.place j) ((z : Int), .int (z : Int) tz), (t.put j).1, false, false) := by
    unfold PySem.layNew
    rw [ej]
    dsimp only
    have fz : (t.put j).1.fits (SetTable.insertAt es (SetTable.below t.place j) ((z : Int), Value.int (z : Int) tz)).size = true := by
      have s1 : (SetTable.insertAt es (SetTable.below t.place j) ((z : Int), Value.int (z : Int) tz)).size = es.size + 1 := by
        rw [← Array.length_toList, (SetTable.insertAt_perm es _ _).length_eq]; simp
      have s2 : (SetTable.insertAt t.place (SetTable.below t.place j) j).size = t.place.size + 1 := by
        rw [← Array.length_toList, (SetTable.insertAt_perm t.place _ _).length_eq]; simp
      have dm : (t.put j).1.dummies = #[] := by
        show (if SetTable.has t.dummies j = true then SetTable.eraseAt t.dummies (SetTable.below t.dummies j) else t.dummies) = #[]
        rw [h.tg.d, has_nil]; rfl
      unfold SetTable.fits SetTable.fill
      rw [dm, s1, Bool.and_eq_true]
      show ((SetTable.insertAt t.place (SetTable.below t.place j) j).size == es.size + 1) = true ∧ decide ((SetTable.insertAt t.place (SetTable.below t.place j) j).size + (#[] : Array Nat).size ≤ t.mask) = true
      rw [s2, l3]
      refine ⟨by simp, decide_eq_true ?_⟩
      rcases cs with ⟨a, b, _⟩ | ⟨a, _⟩
      · rw [a]; simp; omega
      · rw [a]; simp; omega
    show (_, ((t.put j).1.orStandIn _), _, _) = _
    have p : SetTable.below t.place j = (t.put j).2 := rfl
    unfold SetTable.orStandIn
    rw [← p, if_pos fz, fz]; rfl
  rw [e0] at lp lt
  have lf := layNew_fits t es (z : Int) (.int (z : Int) tz)
  rw [e0] at lf
  refine ⟨_, _, _, e0, h.tp.pl, ?_, lt, lf, ?_, lp⟩
  · rw [← Array.length_toList, lp.length_eq]; simp
  · rcases cs with ⟨a, b, j7, c⟩ | ⟨a, rfl, b⟩
    · refine .inl ⟨a, ?_, fun x hx => ?_⟩
      · rw [← Array.length_toList, lp.length_eq]; simp; omega
      · have hx : x ∈ (SetTable.insertAt t.place (SetTable.below t.place j) j).toList := hx
        have := (SetTable.insertAt_perm t.place _ _).mem_iff.mp hx
        rw [Array.toList_push] at this
        rcases List.mem_append.mp this with q | q
        · exact c x q
        · rw [List.mem_singleton.mp q]; exact j7
    · refine .inr ⟨a, ?_⟩
      show (SetTable.insertAt es _ _).toList.map (·.1) = (SetTable.insertAt t.place _ _).toList.map _
      rw [SetTable.toList_insertAt, SetTable.toList_insertAt, List.map_append, List.map_append, List.map_cons, List.map_cons, List.map_take, List.map_take, List.map_drop, List.map_drop, b]
theorem SqE.in (h : SqE es t ns led hs) (hz : z ∈ ns) : SqE es t (ns ++ [z]) led hs := ⟨h.ft, h.tg, h.tp, h.el, h.ks, h.nd, h.b8, fun x => by
  rw [h.mb x, List.mem_append, List.mem_singleton]
  exact ⟨.inl, fun q => by rcases q with q | q; exact q; rw [q]; exact hz⟩⟩
theorem keys_of : ∀ {l : List (Int × Value)}, (∀ e ∈ l, ∃ (z : Nat) (tk : Tok), z ≤ 8 ∧ e = ((z : Int), Value.int (z : Int) tk)) → l.map (·.1) = (l.map fun e => e.1.toNat).map fun (z : Nat) => (z : Int)
  | [], _ => rfl
  | e :: l, h => by
    obtain ⟨z, tk, _, rfl⟩ := h e (by simp)
    rw [List.map_cons, List.map_cons, List.map_cons, ← keys_of fun e he => h e (List.mem_cons_of_mem _ he)]
    simp
theorem SqE.mk' {es' : Array (Int × Value)} {t' : SetTable} {es0 : Array (Int × Value)} (h : SqE es t ns led hs) (z8 : z ≤ 8) (zn : z ∉ ns) (lp : es'.toList.Perm (es.push ((z : Int), .int (z : Int) tz)).toList) (ft : t'.fits es'.size = true) (tg : TbG t' led) (tp : TbP t' es') : SqE es' t' (ns ++ [z]) led (es'.toList.map fun e => e.1.toNat) := by
  have el : ∀ e ∈ es'.toList, ∃ (z : Nat) (tk : Tok), z ≤ 8 ∧ e = ((z : Int), Value.int (z : Int) tk) := fun e he => by
    have := lp.mem_iff.mp he
    rw [Array.toList_push] at this
    rcases List.mem_append.mp this with q | q
    · exact h.el e q
    · exact ⟨z, tz, z8, List.mem_singleton.mp q⟩
  have kh : es.toList.map (fun e => e.1.toNat) = hs := by
    have := congrArg (List.map Int.toNat) h.ks
    rw [List.map_map, List.map_map] at this
    rw [show (fun e : Int × Value => e.1.toNat) = Int.toNat ∘ fun x => x.1 from rfl, this]
    conv => rhs; rw [← List.map_id hs]
    exact List.map_congr_left fun x _ => by simp
  have pk : (es'.toList.map fun e => e.1.toNat).Perm (hs ++ [z]) := by
    refine (lp.map _).trans ?_
    rw [Array.toList_push, List.map_append, kh]
    simp
  have zh : z ∉ hs := fun q => zn ((h.mb z).mp q)
  refine ⟨ft, tg, tp, el, keys_of el, pk.nodup_iff.mpr ?_, fun x hx => ?_, fun x => ?_⟩
  · rw [List.nodup_append]
    exact ⟨h.nd, by simp, fun x hx y hy => by rw [List.mem_singleton.mp hy]; intro q; rw [q] at hx; exact zh hx⟩
  · have := pk.mem_iff.mp hx
    rcases List.mem_append.mp this with q | q
    · exact h.b8 x q
    · rw [List.mem_singleton.mp q]; exact z8
  · rw [pk.mem_iff, List.mem_append, List.mem_append, h.mb x]
theorem elems_q (h : SqE es t ns led hs) : ElemsOf (intKind P w) es.toList := fun e he => by
  obtain ⟨z, tk, z8, rfl⟩ := h.el e he
  exact ⟨⟨(z : Int), intKind_is _ _ _ _, (hash_small P w z8).symm⟩, rfl⟩
theorem add_num {T : Addr} {Q : Bool → Shared → Prop} (hS : SetQ s.heap T ns led) (z8 : z ≤ 8)
    (h : ∀ b h', Heap.SameBut T s.heap h' → SetQ h' T (ns ++ [z]) led → Q b { s with heap := h' }) : wpAny (model P w) A (setAddHashed T (.int (z : Int) tz) ((intKind P w).hash (z : Int))) Q E s := by
  obtain ⟨es, ep, t, hs, ho, sq⟩ := hS
  obtain ⟨l1, l2, l3⟩ := sq.len
  have EO := elems_q (P := P) (w := w) sq
  unfold setAddHashed
  refine wpAny_holding ?_
  rw [show (100000 : Nat) = 99999 + 1 from rfl, setAddHashedIn.eq_def]
  dsimp only
  refine wpAny_bind (wpAny_setState_of ho rfl sq.ft ?_)
  dsimp only
  have bs : byScan (.int (z : Int) tz) es = true := by
    unfold byScan
    rw [EO.all_scannable, show (decide (es.size < scanBound)) = true from decide_eq_true (by unfold scanBound; omega)]; rfl
  rw [if_pos bs]
  refine wpAny_bind ?_
  unfold setAddByScan
  refine wpAny_bind (wpAny_rule ?_)
  refine wpAny_bind (wpAny_setScan_of (knd := intKind P w) (k := (z : Int)) (intKind_is _ _ _ _) ho rfl sq.ft EO ?_)
  cases hf : List.findIdx? (fun e => (intKind P w).is (z : Int) e.2) es.toList with
  | some j =>
    dsimp only
    refine wpAny_pure (wpAny_pure ?_)
    have zi : z ∈ ns := by
      obtain ⟨hj, hi, _⟩ := List.findIdx?_eq_some_iff_getElem.mp hf
      obtain ⟨z', tk, _, e⟩ := sq.el _ (List.getElem_mem hj)
      rw [e] at hi
      have : (z : Int) = (z' : Int) := (intKind P w).inj _ _ _ hi (intKind_is _ _ _ _)
      have zz : z = z' := by omega
      have m : (es.toList[j]).1 ∈ es.toList.map (·.1) := List.mem_map_of_mem (List.getElem_mem hj)
      rw [e, sq.ks] at m
      obtain ⟨y, hy, ey⟩ := List.mem_map.mp m
      have : y = z' := by have ey : (y : Int) = (z' : Int) := ey; omega
      rw [zz, ← this]
      exact (sq.mb y).mp hy
    exact h _ s.heap ⟨rfl, fun _ _ => rfl⟩ ⟨es, ep, t, hs, ho, sq.in zi⟩
  | none =>
    dsimp only
    have zn : z ∉ ns := fun hz => by
      have m := List.mem_map_of_mem (f := fun (z : Nat) => (z : Int)) ((sq.mb z).mpr hz)
      rw [← sq.ks] at m
      obtain ⟨e, he, ke⟩ := List.mem_map.mp m
      obtain ⟨z', tk, _, rfl⟩ := sq.el e he
      have ke : (z' : Int) = (z : Int) := ke
      have := List.findIdx?_eq_none_iff.mp hf _ he
      rw [ke, intKind_is] at this
      cases this
    obtain ⟨es', t', gv, el0, pl, sz, tg, ft, cs, lp⟩ := sq.lay (tz := tz) z8 zn
    rw [hash_small P w z8, el0]
    dsimp only
    have upd1 : ∀ (h1 : Heap) (e1 : Array (Int × Value)) (p1 : Nat) (t1 : SetTable), h1.get? T = some (setO e1 p1 t1) → ∀ (e2 : Array (Int × Value)) (t2 : SetTable), (h1.update T (Obj.putSet e2 t2)).get? T = some (setO e2 (p1 + 1) t2) := fun h1 e1 p1 t1 g e2 t2 => Heap.get?_update_self (Obj.putSet e2 t2) g rfl
    have sb : ∀ (h1 : Heap) (f : Obj → Obj), Heap.SameBut T h1 (h1.update T f) := fun h1 f => ⟨by simp [Heap.update], fun b n => Heap.get?_update_other _ _ (Ne.symm n)⟩
    have s1 : es'.size ≤ sizeLine := by rw [sizeLine_eq]; omega
    refine wpAny_bind (wp_gave ?_)
    rw [if_pos pl, hashByValue_scannable 8 rfl]
    refine wpAny_bind (wpAny_pure ?_)
    show wpAny (model P w) A (do
        storeSet T es' t'
        if (!false && t'.tooFull) = true then
          match relayAll t' es' (SetTable.grown es'.size) with
          | (es, t, gave) => do
            (match gave with | true => rule "set.scan.the-table-gave-way" | false => pure ())
            let __r ← storeSet T es t
            (fun (__r : Unit) => pure (some true)) __r
        else (fun (__r : Unit) => pure (some true)) ()) _ E s
    refine wpAny_bind (wpAny_storeSet_of ho rfl ?_ s1)
    have g2 := upd1 _ _ _ _ ho es' t'
    have fl : t'.fill = es'.size := by
      unfold SetTable.fits at ft
      rw [Bool.and_eq_true] at ft
      unfold SetTable.fill
      rw [tg.d]
      have := ft.1
      simp at this ⊢
      exact this
    by_cases full : t'.mask = 7 ∧ es'.size = 5
    · rw [if_pos (by unfold SetTable.tooFull; rw [fl, full.1, full.2]; rfl)]
      have el' : ∀ e ∈ es'.toList, ∃ (z : Nat) (tk : Tok), z ≤ 8 ∧ e = ((z : Int), Value.int (z : Int) tk) := fun e he => by
        have := lp.mem_iff.mp he
        rw [Array.toList_push] at this
        rcases List.mem_append.mp this with q | q
        · exact sq.el e q
        · exact ⟨z, tz, z8, List.mem_singleton.mp q⟩
      have pk : (es'.toList.map fun e => e.1.toNat).Perm (hs ++ [z]) := by
        refine (lp.map _).trans ?_
        have kh : es.toList.map (fun e => e.1.toNat) = hs := by
          have := congrArg (List.map Int.toNat) sq.ks
          rw [List.map_map, List.map_map] at this
          rw [show (fun e : Int × Value => e.1.toNat) = Int.toNat ∘ fun x => x.1 from rfl, this]
          conv => rhs; rw [← List.map_id hs]
          exact List.map_congr_left fun x _ => by simp
        rw [Array.toList_push, List.map_append, kh]
        simp
      have zh : z ∉ hs := fun q => zn ((sq.mb z).mp q)
      have nd' : (es'.toList.map fun e => e.1.toNat).Nodup := pk.nodup_iff.mpr (by
        rw [List.nodup_append]
        exact ⟨sq.nd, by simp, fun x hx y hy => by rw [List.mem_singleton.mp hy]; intro q; rw [q] at hx; exact zh hx⟩)
      have b8' : ∀ x ∈ es'.toList.map (fun e => e.1.toNat), x ≤ 8 := fun x hx => by
        rcases List.mem_append.mp (pk.mem_iff.mp hx) with q | q
        · exact sq.b8 x q
        · rw [List.mem_singleton.mp q]; exact z8
      obtain ⟨e3, t3, er, m3, p3, pl3, k3⟩ := relay31 (t := t') (keys_of el') nd' b8' (by simp [full.2])
      have rp := relayAll_perm t' es' (SetTable.grown es'.size)
      have rf := relayAll_fits t' es' (SetTable.grown es'.size)
      have rt := tg.relay es' (SetTable.grown es'.size)
      rw [er] at rp rf rt ⊢
      dsimp only at rp rf rt ⊢
      have z3 : e3.size ≤ sizeLine := by
        have := rp.length_eq
        simp only [Array.length_toList] at this
        omega
      refine wpAny_bind (wpAny_pure ?_)
      refine wpAny_bind (wpAny_storeSet_of g2 rfl ?_ z3)
      refine wpAny_pure (wpAny_pure ?_)
      have g3 := upd1 _ _ _ _ g2 e3 t3
      refine h true _ ?_ ⟨e3, _, t3, _, g3, sq.mk' (es0 := es) z8 zn (rp.trans lp) rf rt ⟨by rw [p3]; exact pl, .inr ⟨m3, by rw [k3, pl3]⟩⟩⟩
      exact ⟨(sb _ _).1.trans (sb _ _).1, fun b n => ((sb _ _).2 b n).trans ((sb _ _).2 b n)⟩
    · rw [if_neg (by
        unfold SetTable.tooFull; rw [fl]
        rcases cs with ⟨a, b, c⟩ | ⟨a, b⟩
        · have : es'.size ≠ 5 := fun z => full ⟨a, z⟩
          rw [a]; simp; omega
        · rw [a]; simp; omega)]
      refine wpAny_pure (wpAny_pure ?_)
      refine h true _ (sb _ _) ⟨es', _, t', _, g2, sq.mk' (es0 := es) z8 zn lp ft tg ⟨pl, ?_⟩⟩
      rcases cs with ⟨a, b, c⟩ | q
      · have : es'.size ≠ 5 := fun z => full ⟨a, z⟩
        exact .inl ⟨a, by omega, c⟩
      · exact .inr q
end
end L2

set_option Elab.async false
set_option linter.all false
set_option maxRecDepth 100000
set_option maxHeartbeats 4000000
namespace L2
open PySem PyProof.Rows
section
variable {P : Program} {w : World} {A : Around} {E : Value → Shared → Prop} {s : Shared}
abbrev byT (w : World) : Bool := w.params.followText "set-order"
theorem wp_byText {Q : Bool → Shared → Prop} (h : Q (byT w) s) : wpAny (model P w) A setsByText Q E s := by
  unfold setsByText
  refine wpAny_bind ?_
  intro Γ p hA
  rw [Sem.wp_cmd_ask]
  exact (show wpAny (model P w) A (pure (byT w)) Q E s from wpAny_pure h)
theorem code_new_led (a : Value) {Q₁ : Value → Shared → Prop} (h : Q₁ (.ref s.heap.objs.size) { s with heap := s.heap.push (emp (!byT w)) }) : codeAny (model P w) A (.call (.builtin "set.__new__") ⟨[.type "set", a], []⟩) (wants Q₁ E) s := by
  have sub := PySem.F.called_set.sub
  refine codeAny_call_builtin PySem.F.plain_set_new PySem.F.entry_set_new ?_
  refine wpAny_of_eq (PySem.F.newCall_set_1 a) ?_
  unfold Builtin.«set.__new__» Builtin.Frozenset.newClass
  dsimp only
  refine wpAny_bind (wpAny_bind (wpAny_of_eq (show isType (Value.type "set") = pure true from rfl) ?_))
  rw [if_neg (by decide)]
  refine wpAny_bind (wpAny_of_eq sub ?_)
  rw [if_neg (by decide)]
  refine wpAny_pure (wpAny_bind ?_)
  unfold newSet
  refine wpAny_bind (wp_byText ?_)
  dsimp only
  refine wpAny_newObj_type ?_
  exact (show wpAny _ _ (ret _) _ _ _ from wpAny_pure h)
section
variable {R : Result → Shared → Prop} {I : Addr} {fp wr : List Addr} {G : Array GenState → Array GenState → Prop} {n : Nat} {Pv : Nat → Value → Prop} {St : Nat → Shared → Prop} {led : Bool}
theorem SetQ.keep {h h' : Heap} {T : Addr} {ns : List Nat} (q : SetQ h T ns led) (k : ∀ o, h.get? T = some o → h'.get? T = some o) : SetQ h' T ns led := by
  obtain ⟨es, ep, t, hs, ho, x⟩ := q
  exact ⟨es, ep, t, hs, k _ ho, x⟩
theorem upd_num (W : WalksS P w A.in1 I fp wr G n Pv St) (T : Addr) (hT : T ∉ fp) {ns : List Nat} (hn : n = ns.length) (b8 : ∀ z ∈ ns, z ≤ 8) (hv : ∀ i v, Pv i v → ∃ (z : Nat) (t : Tok), ns[i]? = some z ∧ v = .int (z : Int) t) : ∀ (k i : Nat) (s : Shared), n - i = k → i ≤ n → St i s → SetQ s.heap T (ns.take i) led →
      (∀ s', Moved (T :: wr) G s s' → SetQ s'.heap T (ns.take n) led → R (.ok (.ret .none)) s') → codeAny (model P w) A (.builtin "set.update.loop" ⟨[.ref T, .ref I], []⟩) R s := by
  have hTw : T ∉ wr := fun h => hT (W.sub _ h)
  have up : ∀ x ∈ wr, x ∈ T :: wr := fun x hx => List.mem_cons_of_mem _ hx
  intro k
  induction k with
  | zero =>
    intro i s hk hi st hS hR
    obtain rfl : i = n := by omega
    refine codeAny_builtin PyProof.Rows.F.entry_set_update_loop ?_
    rw [Around.under_plainId PyProof.Rows.F.plain_set_update_loop _]
    refine wpAny_bind (m := pyNext (.ref I)) (W.done s _ _ st fun s' mv => ?_)
    exact wpAny_pure (hR s' (mv.mono up) (hS.keep fun o ho => mv.heap T _ hTw ho))
  | succ k ih =>
    intro i s hk hi st hS hR
    have lt : i < n := by omega
    refine codeAny_builtin PyProof.Rows.F.entry_set_update_loop ?_
    rw [Around.under_plainId PyProof.Rows.F.plain_set_update_loop _]
    refine wpAny_bind (m := pyNext (.ref I)) (W.item i s _ _ lt st fun v s' hp st' mv => ?_)
    obtain ⟨z, tz, hz, rfl⟩ := hv i v hp
    have z8 := b8 z (List.mem_of_getElem? hz)
    have hS1 : SetQ s'.heap T (ns.take i) led := hS.keep fun o ho => mv.heap T _ hTw ho
    refine wpAny_bind (m := holding [Value.int (z : Int) tz] (setAdd T (.int (z : Int) tz))) (wpAny_holding ?_)
    unfold setAdd
    refine wpAny_holding (wpAny_bind ((intKind P w).pyHash (k := (z : Int)) (intKind_is _ _ _ _) ?_))
    refine add_num (s := { s' with toks := s'.toks + 1 }) hS1 z8 fun b h' sb hS2 => ?_
    have et : ns.take (i + 1) = ns.take i ++ [z] := by rw [List.take_add_one, hz]; rfl
    rw [← et] at hS2
    refine wpAny_pure ⟨plainId_quiet PyProof.Rows.F.plain_set_update_loop _, ih (i + 1) _ (by omega) lt (W.frame _ s' _ _ st' (Nat.le_succ _) fun x hx o e => ?_) hS2 fun s2 mv2 q => ?_⟩
    · rw [sb.2 x (fun z => hT (by rw [← z]; exact hx))]; exact e
    · refine hR s2 (Moved.trans W.gtrans ((mv.mono up).then_heap (Nat.le_succ _) fun x o hx e => ?_) mv2) q
      rw [sb.2 x (fun z => hx (by rw [z]; exact List.mem_cons_self))]; exact e
end
def NumS (w : World) (ns : List Nat) (s : Shared) (h' : Heap) : Prop :=
  SetQ h' s.heap.objs.size ns (!byT w) ∧ ∀ x o, x < s.heap.objs.size → s.heap.get? x = some o → h'.get? x = some o
theorem emp_sq (led : Bool) : SqE #[] (SetTable.fresh 0 0 led) [] led [] := by
  refine ⟨rfl, ⟨rfl, rfl, List.Pairwise.nil⟩, ⟨rfl, .inl ⟨rfl, by simp, fun j h => by cases h⟩⟩, fun e h => (by cases h), rfl, .nil, fun z h => (by cases h), fun x => Iff.rfl⟩
theorem call_setQ {l : Addr} {ns : List Nat} {its : Array Value} {Q : Value → Shared → Prop} (hh : A.handled = none) (hl : s.heap.IsList l its) (b8 : ∀ z ∈ ns, z ≤ 8) (hsz : its.size = ns.length) (hi : ∀ (i : Nat) (v : Value), its[i]? = some v → ∃ (z : Nat) (t : Tok), ns[i]? = some z ∧ v = .int (z : Int) t)
    (h : ∀ (h' : Heap) (tk : Nat), NumS w ns s h' → Q (.ref s.heap.objs.size) { s with heap := h', toks := tk }) : wpAny (model P w) A (call (.type "set") [.ref l]) Q E s := by
  obtain ⟨c, tl, mro⟩ := PySem.F.called_set.mro
  have made := PySem.F.called_set.made
  have sub := PySem.F.called_set.sub
  have nt := PySem.F.called_set.notType
  have cc := PySem.F.called_set.canCreate
  have tc := PySem.F.typeCall_set_1 (.ref l)
  refine wpAny_call (codeAny_of_tree (show wpAny _ _ (callAny (.type "set") _) _ _ _ from wpAny_pure ⟨Code.quiet_builtin _ (by decide +kernel), codeAny_builtin PySem.F.entry_type_call ?_⟩))
  rw [Around.under_plain (weight_type_call_type "set" [.ref l] []) rfl]
  repeat (any_goals (first | assumption | wp_step))
  obtain ⟨g, hg⟩ : ∃ g, g = !byT w := ⟨_, rfl⟩
  refine codeAny_mono (code_new_led (.ref l) (E := E) (Q₁ := fun x t => x = .ref s.heap.objs.size ∧ t = { s with heap := s.heap.push (emp g) }) (by rw [hg]; exact ⟨rfl, rfl⟩)) fun r t hr => ?_
  cases r with
  | error e => exact hr
  | ok fl =>
    cases fl with
    | ret x =>
      obtain ⟨rfl, rfl⟩ := hr
      have hS : (s.heap.push (emp g)).get? s.heap.objs.size = some (emp g) := Heap.get?_push_size _ rfl
      have hT : Shared.TypeIs { s with heap := s.heap.push (emp g) } (.ref s.heap.objs.size) "set" := ⟨_, hS, rfl⟩
      have li := PySem.F.called_set.init.lookup
      have bi := PySem.F.called_set.init.bind (.ref s.heap.objs.size)
      repeat (any_goals (first | assumption | wp_step))
      refine codeAny_mono (codeAny_call_builtin (R := wants (fun r t => r = .none ∧ ∃ h' tk, t = { s with heap := h', toks := tk } ∧ NumS w ns s h') E) PySem.F.called_set.init.plain PySem.F.entry_set_init (check_set_init_1 hT ?_)) fun r t hr => ?_
      · obtain ⟨ol, hol, hc, m, hd⟩ := hl
        obtain ⟨cls, dict, data, sls⟩ := ol
        simp only at hc hd
        subst hc hd
        have hol' : (s.heap.push (emp g)).get? l = some ⟨.type "list", dict, .seq its m, sls⟩ := Heap.get?_push_of_some _ hol
        have n1 := PySem.F.sub_list_set
        have n2 := PySem.F.sub_list_frozenset
        have n3 : (Value.type "list" == Value.type "dict") = false := rfl
        have hl1 : (s.heap.push (emp g)).IsList l its := ⟨_, hol', rfl, m, rfl⟩
        unfold Builtin.«set.__init__» noKeywords Builtin.Frozenset.updateFrom
        generalize hPI : pyIter = PI
        wp_walk
        subst hPI
        refine wpAny_pyIter_list hl1 (wpAny_bind (wpAny_runValue ?_))
        have lts : l < s.heap.objs.size := Heap.lt_size hol
        have h3 : A.in1.in1.in1.handled = none := by simp [hh]
        have sz : (s.heap.push (emp g)).objs.size = s.heap.objs.size + 1 := Heap.size_push ..
        have ne1 : l ≠ (s.heap.push (emp g)).objs.size := by rw [sz]; exact Nat.ne_of_lt (Nat.lt_succ_of_lt lts)
        have ne2 : s.heap.objs.size ∉ [(s.heap.push (emp g)).objs.size, l] := by rw [sz]; simp only [List.mem_cons, List.not_mem_nil, or_false, not_or]; exact ⟨Nat.ne_of_lt (Nat.lt_succ_self _), Nat.ne_of_gt lts⟩
        refine upd_num (led := g) ((Walks.list h3 _ l ne1 its).toS) s.heap.objs.size ne2 (ns := ns) hsz b8 hi (its.size - 0) 0 _ rfl (Nat.zero_le _) ⟨⟨_, Heap.get?_push_size _ rfl, rfl, rfl⟩, hl1.push _⟩ ?s0 ?sR
        case s0 =>
          exact ⟨_, _, _, _, Heap.get?_push_of_some _ hS, emp_sq g⟩
        case sR =>
          intro s' mv hS'
          obtain ⟨h', g', d', tk', os'⟩ := s'
          have eg : g' = s.gens := mv.gens
          have ed : d' = s.drawn := mv.drawn
          have eo : os' = s.os := mv.os
          subst eg ed eo
          rw [hsz, List.take_length] at hS'
          refine wpAny_pure (show wpAny _ _ (ret Value.none) _ _ _ from wpAny_pure ⟨rfl, h', tk', rfl, by rw [← hg]; exact hS', fun x o hx e => ?_⟩)
          refine mv.heap x o ?_ (Heap.get?_push_of_some _ (Heap.get?_push_of_some _ e))
          rw [sz]
          simp only [List.mem_cons, List.not_mem_nil, or_false, not_or]
          exact ⟨Nat.ne_of_lt hx, Nat.ne_of_lt (Nat.lt_succ_of_lt hx)⟩
      · cases r with
        | error e => exact hr
        | ok fl =>
          cases fl with
          | ret r =>
            obtain ⟨rfl, h', tk, rfl, q⟩ := hr
            repeat (any_goals (first | assumption | wp_step))
            exact h _ _ q
          | _ => exact hr.elim
    | _ => exact hr.elim
end
end L2

set_option Elab.async false
set_option linter.all false
set_option maxRecDepth 100000
set_option maxHeartbeats 4000000
namespace L2
open PySem PyProof.Rows
theorem slot_si : Slot "set_iterator" (Str.ofString "__next__") "set_iterator.__next__" := Slot.of (by rw [typeLookup_type, builtinLookup_eq_fast]; rfl) (owner := "set_iterator") (n := "__next__") (by decide +kernel) (by decide +kernel) (by decide +kernel) (Or.inl (by decide +kernel)) (by rw [isSubtype_type]; rfl) (by decide +kernel)
theorem entry_si : entryFor table "set_iterator.__next__" = some Builtin.«set_iterator.__next__» := entryFor_of_tree rfl
theorem entry_sit : entryFor table "set.__iter__" = some Builtin.«frozenset.__iter__» := entryFor_alias (id (Eq.refl (fastTable "set.__iter__"))) rfl (by decide +kernel) (id (Eq.refl (fastTable "frozenset.__iter__")))
theorem args_si (a : Value) : argsOk "set_iterator.__next__" ⟨[a], []⟩ := by
  unfold argsOk
  rw [signature?_of (n := ['_', '_', 't', 'x', 'e', 'n', '_', '_']) (o := ['r', 'o', 't', 'a', 'r', 'e', 't', 'i', '_', 't', 'e', 's']) (rows := Manifest.sig_set_iterator) (by decide +kernel) rfl]
  rfl
def wlk (w : World) (T : Addr) (ep : Nat) (es : Array (Int × Value)) : Array (Int × Value) := if byT w then pickOrder (w.params.setOrder T ep) es else es
theorem ec_perm {α : Type} {l : List α} {i : Nat} (hl : i < l.length) : (l[i] :: l.eraseIdx i).Perm l := by
  have e : l = l.take i ++ l[i] :: l.drop (i + 1) := by rw [← List.drop_eq_getElem_cons hl, List.take_append_drop]
  rw [List.eraseIdx_eq_take_drop_succ]
  exact (List.perm_middle.symm).trans (List.Perm.of_eq e.symm)
theorem pick_go {α : Type} (nx : Nat → Nat) : ∀ (n k : Nat) (l : List α) (o : Array α), n = l.length → (pickOrder.go nx n k l o).toList.Perm (o.toList ++ l) := by
  intro n
  induction n with
  | zero =>
    intro k l o h
    have : l = [] := List.length_eq_zero_iff.mp h.symm
    subst this
    rw [pickOrder.go, List.append_nil]
  | succ n ih =>
    intro k l o h
    rw [pickOrder.go]
    have hl : nx k % l.length < l.length := Nat.mod_lt _ (by omega)
    rw [List.getElem?_eq_getElem hl]
    dsimp only
    refine (ih (k + 1) _ _ (by rw [List.length_eraseIdx, if_pos hl]; omega)).trans ?_
    rw [Array.toList_push, List.append_assoc]
    exact List.Perm.append_left _ (ec_perm hl)
theorem wlk_perm (w : World) (T : Addr) (ep : Nat) (es : Array (Int × Value)) : (wlk w T ep es).toList.Perm es.toList := by
  unfold wlk
  split
  · unfold pickOrder
    have := pick_go (w.params.setOrder T ep) es.size 0 es.toList #[] (by simp)
    simpa using this
  · exact List.Perm.refl _
def slF (w : World) (t : SetTable) (i : Nat) : Nat := if byT w then 0 else if i = 0 then 0 else t.place.getD (i - 1) 0 + 1
abbrev sitO (sl i n ep : Nat) (T : Addr) : Obj := { cls := .type "set_iterator", dict := none, data := .fields #[.int (sl : Int) 0, .int (i : Int) 0, .ref T, .int (n : Int) 0, .int (ep : Int) 0], slots := #[] }
theorem below_at {t : SetTable} (r : Ris t.place.toList) {i : Nat} (hi : i ≤ t.place.size) : SetTable.below t.place (if i = 0 then 0 else t.place.getD (i - 1) 0 + 1) = i := by
  generalize hj : (if i = 0 then 0 else t.place.getD (i - 1) 0 + 1) = j
  obtain ⟨b1, b2, b3⟩ := below_ok r j
  have gd : ∀ {k x y : Nat}, k < t.place.size → t.place.getD k x = t.place.getD k y := fun {k x y} h => by simp [Array.getD, h]
  rcases Nat.lt_trichotomy (SetTable.below t.place j) i with z | z | z
  · exfalso
    have i0 : i ≠ 0 := by omega
    rw [if_neg i0] at hj
    have := b3 (i - 1) (by omega) (by omega)
    rw [gd (show i - 1 < t.place.size by omega) (y := 0)] at this
    omega
  · exact z
  · exfalso
    have := b2 i z
    by_cases i0 : i = 0
    · rw [if_pos i0] at hj; omega
    · rw [if_neg i0] at hj
      have lt := ris_lt (j := 0) r (show i - 1 < i by omega) (show i < t.place.size by omega)
      rw [gd (show i < t.place.size by omega) (y := 0)] at this
      omega
section
variable {P : Program} {w : World} {A : Around} {E : Value → Shared → Prop} {s : Shared} {es : Array (Int × Value)} {t : SetTable} {ns hs : List Nat} {I T : Addr} {ep i : Nat}
theorem wp_next {Q : Option (Value × Nat) → Shared → Prop} {i : Nat} (sq : SqE es t ns (!byT w) hs) (hT : s.heap.get? T = some (setO es ep t)) (hi : i ≤ es.size)
    (h : Q ((wlk w T ep es)[i]?.map fun x => (x.2, slF w t (i + 1))) s) : wpAny (model P w) A (setNext T (slF w t i) i ep) Q E s := by
  obtain ⟨l1, l2, l3⟩ := sq.len
  unfold setNext
  refine wpAny_bind (wpAny_setState_of hT rfl sq.ft ?_)
  dsimp only
  refine wpAny_bind (wp_byText ?_)
  cases hb : byT w with
  | true =>
    have sl : ∀ k, slF w t k = 0 := fun k => by unfold slF; rw [if_pos hb]
    have wk : wlk w T ep es = pickOrder (w.params.setOrder T ep) es := by unfold wlk; rw [if_pos hb]
    rw [if_pos rfl, if_neg (by simp)]
    refine wpAny_bind ?_
    unfold setWalk
    refine wpAny_bind (wpAny_setState_of hT rfl sq.ft ?_)
    dsimp only
    refine wpAny_bind (wp_byText ?_)
    rw [hb, if_pos rfl]
    refine wpAny_bind ?_
    have fin : wpAny (model P w) A (pure (Option.map (fun e => (e.snd, slF w t i)) (pickOrder (w.params.setOrder T ep) es)[i]?)) Q E s := by
      rw [wk] at h
      rw [sl] at h ⊢
      exact wpAny_pure h
    intro Γ p hA
    rw [Sem.wp_cmd_ask]
    exact (wpAny_pure (a := pickOrder (w.params.setOrder T ep) es) (Q := fun a s' => wpAny (model P w) A (pure (Option.map (fun e => (e.snd, slF w t i)) a[i]?)) Q E s') fin)
  | false =>
    have sl : ∀ k, slF w t k = if k = 0 then 0 else t.place.getD (k - 1) 0 + 1 := fun k => by unfold slF; rw [if_neg (by rw [hb]; decide)]
    have wk : wlk w T ep es = es := by unfold wlk; rw [if_neg (by rw [hb]; decide)]
    rw [if_neg (by decide)]
    split
    · next c =>
      exfalso
      have c : (!t.plain && decide (es.size > 1)) = true := c
      rw [sq.tp.pl] at c
      simp at c
    · refine wpAny_bind ?_
      show wpAny (model P w) A (if (!t.led && !es.isEmpty) = true then unsupported "set:maker-not-led" else pure ()) _ E s
      rw [if_neg (by rw [sq.tg.l, hb]; simp)]
      refine wpAny_pure (wpAny_pure ?_)
      rw [sl, below_at sq.tg.r (by omega)]
      rw [wk, sl] at h
      by_cases lt : i < es.size
      · have e1 := Array.getElem?_eq_getElem lt
        have e2 := Array.getElem?_eq_getElem (show i < t.place.size by omega)
        rw [e1] at h ⊢
        rw [e2]
        have : t.place.getD (i + 1 - 1) 0 = t.place[i] := by simp [Array.getD, show i < t.place.size by omega]
        rw [if_neg (by omega), this] at h
        exact h
      · have e1 : es[i]? = none := Array.getElem?_eq_none (by omega)
        rw [e1] at h ⊢
        exact h
theorem next_item {Q : Option Value → Shared → Prop} {x : Int × Value} (sq : SqE es t ns (!byT w) hs) (hT : s.heap.get? T = some (setO es ep t)) (hI : s.heap.get? I = some (sitO (slF w t i) i es.size ep T)) (hx : (wlk w T ep es)[i]? = some x)
    (h : ∀ h', h'.get? I = some (sitO (slF w t (i + 1)) (i + 1) es.size ep T) → Heap.SameBut I s.heap h' → Q (some x.2) { s with heap := h' }) : wpAny (model P w) A (pyNext (.ref I)) Q E s := by
  obtain ⟨l1, l2, l3⟩ := sq.len
  have ty : s.TypeIs (.ref I) "set_iterator" := ⟨_, hI, rfl⟩
  unfold pyNext
  refine wpAny_bind (wpAny_attempt (wpAny_callSpecial?_slot ty slot_si (wpAny_call_entry slot_si ty entry_si ?_ (args_si _))))
  unfold Builtin.«set_iterator.__next__» slotArgs
  dsimp only
  refine wpAny_bind (wpAny_pure ?_)
  dsimp only
  refine wpAny_bind (wpAny_fieldsOf hI rfl ?_)
  show wpAny (model P w) A.in1 (do
        let __do_lift ← setEntries T
        if ((__do_lift.size : Int) != (es.size : Int)) = true then _ else _) _ _ s
  refine wpAny_bind ?_
  unfold setEntries
  refine wpAny_bind (wpAny_setState_of hT rfl sq.ft (wpAny_pure ?_))
  dsimp only
  rw [if_neg (by simp)]
  have hi : i < es.size := by
    have := (Array.getElem?_eq_some_iff.mp hx).1
    have p := (wlk_perm w T ep es).length_eq
    simp only [Array.length_toList] at p
    omega
  refine wpAny_bind ?_
  simp only [Int.toNat_natCast]
  refine wp_next sq hT (by omega) ?_
  rw [hx]
  show wpAny (model P w) A.in1 (do
        setField (.ref I) 0 (rawInt ((slF w t (i + 1) : Nat) : Int))
        setField (.ref I) 1 (rawInt ((i : Int) + 1))
        ret x.2) _ _ s
  refine wpAny_bind (wpAny_setField hI rfl (by show 0 < 5; decide) ?_)
  have h1 := Heap.get?_update_self (Obj.mapFields fun x_1 => x_1.setIfInBounds 0 (rawInt ((slF w t (i + 1) : Nat) : Int))) hI rfl
  refine wpAny_bind (wpAny_setField h1 rfl (by show 1 < 5; decide) ?_)
  have h2 := Heap.get?_update_self (Obj.mapFields fun x_1 => x_1.setIfInBounds 1 (rawInt ((i : Int) + 1))) h1 rfl
  refine (show wpAny _ _ (ret x.2) _ _ _ from wpAny_pure ⟨x.2, rfl, wpAny_pure (h _ ?_ ?_)⟩)
  · rw [h2]; rfl
  · exact ⟨(Heap.SameBut.update _ _ _).1.trans (Heap.SameBut.update _ _ _).1, fun b n => ((Heap.SameBut.update _ _ _).2 b n).trans ((Heap.SameBut.update _ _ _).2 b n)⟩
end
end L2

set_option Elab.async false
set_option linter.all false
set_option maxRecDepth 100000
set_option maxHeartbeats 4000000
namespace L2
open PySem PyProof.Rows
theorem slot_sii : Slot "set_iterator" (Str.ofString "__iter__") "set_iterator.__iter__" := Slot.of (by rw [typeLookup_type, builtinLookup_eq_fast]; rfl) (owner := "set_iterator") (n := "__iter__") (by decide +kernel) (by decide +kernel) (by decide +kernel) (Or.inl (by decide +kernel)) (by rw [isSubtype_type]; rfl) (by decide +kernel)
theorem entry_sii : entryFor table "set_iterator.__iter__" = some Builtin.«dict_keyiterator.__iter__» := entryFor_alias (id (Eq.refl (fastTable "set_iterator.__iter__"))) rfl (by decide +kernel) (id (Eq.refl (fastTable "dict_keyiterator.__iter__")))
theorem args_sii (a : Value) : argsOk "set_iterator.__iter__" ⟨[a], []⟩ := by
  unfold argsOk
  rw [signature?_of (n := ['_', '_', 'r', 'e', 't', 'i', '_', '_']) (o := ['r', 'o', 't', 'a', 'r', 'e', 't', 'i', '_', 't', 'e', 's']) (rows := Manifest.sig_set_iterator) (by decide +kernel) rfl]
  rfl
section
variable {P : Program} {w : World} {A : Around} {E : Value → Shared → Prop} {s : Shared} {es : Array (Int × Value)} {t : SetTable} {ns hs : List Nat} {I T : Addr} {ep : Nat}
theorem next_done {Q : Option Value → Shared → Prop} (hh : A.handled = none) (sq : SqE es t ns (!byT w) hs) (hT : s.heap.get? T = some (setO es ep t)) (hI : s.heap.get? I = some (sitO (slF w t es.size) es.size es.size ep T))
    (h : ∀ h', (∀ b o, b ≠ I → s.heap.get? b = some o → h'.get? b = some o) → Q none { s with heap := h' }) : wpAny (model P w) A (pyNext (.ref I)) Q E s := by
  obtain ⟨l1, l2, l3⟩ := sq.len
  have ty : s.TypeIs (.ref I) "set_iterator" := ⟨_, hI, rfl⟩
  unfold pyNext
  refine wpAny_bind (wpAny_attempt (wpAny_callSpecial?_slot ty slot_si (wpAny_call_entry slot_si ty entry_si ?_ (args_si _))))
  unfold Builtin.«set_iterator.__next__» slotArgs
  dsimp only
  refine wpAny_bind (wpAny_pure ?_)
  dsimp only
  refine wpAny_bind (wpAny_fieldsOf hI rfl ?_)
  show wpAny (model P w) A.in1 (do
        let __do_lift ← setEntries T
        if ((__do_lift.size : Int) != (es.size : Int)) = true then _ else _) _ _ s
  refine wpAny_bind ?_
  unfold setEntries
  refine wpAny_bind (wpAny_setState_of hT rfl sq.ft (wpAny_pure ?_))
  dsimp only
  rw [if_neg (by simp)]
  refine wpAny_bind ?_
  simp only [Int.toNat_natCast]
  refine wp_next sq hT (Nat.le_refl _) ?_
  have nx : (wlk w T ep es)[es.size]? = none := by
    have p := (wlk_perm w T ep es).length_eq
    simp only [Array.length_toList] at p
    exact Array.getElem?_eq_none (by omega)
  rw [nx]
  show wpAny (model P w) A.in1 (do
        setField (.ref I) 2 Value.none
        let __do_lift ← newExc (Value.type "StopIteration") []
        raiseNew __do_lift) _ _ s
  refine wpAny_bind (wpAny_setField hI rfl (by show 2 < 5; decide) ?_)
  have sb := Heap.SameBut.update s.heap I (Obj.mapFields fun x_1 => x_1.setIfInBounds 2 Value.none)
  generalize s.heap.update I (Obj.mapFields fun x_1 => x_1.setIfInBounds 2 Value.none) = h1 at sb
  unfold newExc newTuple
  refine wpAny_bind (wpAny_bind (wpAny_newObj_type ?_))
  refine wpAny_bind (wpAny_of_eq (show firstArgMember (Value.type "StopIteration") [] = pure Value.none from rfl) ?_)
  refine wpAny_newObj_type ?_ ?_
  · unfold raiseNew
    refine wpAny_bind (wpAny_handled ?_)
    rw [show A.in1.handled = none by simp [hh]]
    refine wpAny_throw ?_
    refine wpAny_bind (wpAny_isInstance (T := "StopIteration") ⟨_, Heap.get?_push_size _ rfl, rfl⟩ isSubtype_stop ?_)
    rw [if_pos rfl]
    refine wpAny_pure (h _ fun b o n e => ?_)
    exact Heap.get?_push_of_some _ (Heap.get?_push_of_some _ ((sb.2 b n).trans e))
  · exact sizeOk_excFields _ _ _ _ _ _ _ _
theorem walks_set (hh : A.handled = none) (sq : SqE es t ns (!byT w) hs) (ne : T ≠ I) : WalksS P w A I [I, T] [I] (fun a b => b = a) es.size (fun i v => ∃ x, (wlk w T ep es)[i]? = some x ∧ v = x.2) (fun i s => s.heap.get? T = some (setO es ep t) ∧ s.heap.get? I = some (sitO (slF w t i) i es.size ep T)) where
  sub := fun b h => by have : b = I := by simpa using h
                       subst this; simp
  grefl := fun _ => rfl
  gtrans := fun a b c h g => by rw [g, h]
  frame := fun i s h' tk st _ k => ⟨k T (by simp) _ st.1, k I (by simp) _ st.2⟩
  item := fun i s Q E lt st k => by
    have p := (wlk_perm w T ep es).length_eq
    simp only [Array.length_toList] at p
    have hx : (wlk w T ep es)[i]? = some ((wlk w T ep es)[i]'(by omega)) := Array.getElem?_eq_getElem (by omega)
    refine next_item sq st.1 st.2 hx fun h' hI' sb => k _ _ ⟨_, hx, rfl⟩ ⟨(sb.2 T ne).trans st.1, hI'⟩ ⟨fun b o nb e => ?_, rfl, rfl, rfl, Nat.le_refl _⟩
    exact (sb.2 b (by simpa using nb)).trans e
  done := fun s Q E st k => next_done hh sq st.1 st.2 fun h' kp => k _ ⟨fun b o nb e => kp b o (by simpa using nb) e, rfl, rfl, rfl, Nat.le_refl _⟩
  self := fun i s Q E st q => by
    have ty : s.TypeIs (.ref I) "set_iterator" := ⟨_, st.2, rfl⟩
    refine wpAny_pyIter_slot ty slot_sii (wpAny_call_entry slot_sii ty entry_sii ?_ (args_sii _))
    unfold Builtin.«dict_keyiterator.__iter__»
    unfold slotArgs
    dsimp only
    refine wpAny_bind (wpAny_pure ?_)
    exact (show wpAny _ _ (ret (Value.ref I)) _ _ _ from wpAny_pure ⟨_, rfl, "set_iterator", _, ty, slot_si.lookup, q⟩)
end
end L2

set_option Elab.async false
set_option linter.all false
set_option maxRecDepth 100000
set_option maxHeartbeats 4000000
namespace L2
open PySem PyProof.Rows
section
variable {P : Program} {w : World} {A : Around} {E : Value → Shared → Prop} {s : Shared} {es : Array (Int × Value)} {t : SetTable} {ns hs : List Nat} {I T : Addr} {ep : Nat}
theorem iter_set {Q : Value → Shared → Prop} (sq : SqE es t ns (!byT w) hs) (hT : s.heap.get? T = some (setO es ep t))
    (h : Q (.ref s.heap.objs.size) { s with heap := s.heap.push (sitO (slF w t 0) 0 es.size ep T) }) : wpAny (model P w) A (pyIter (.ref T)) Q E s := by
  have ty : s.TypeIs (.ref T) "set" := ⟨_, hT, rfl⟩
  refine wpAny_pyIter_slot ty PySem.F.slot_set_iter (wpAny_call_entry PySem.F.slot_set_iter ty entry_sit ?_ (PySem.F.args_set_iter_1 _))
  unfold Builtin.«frozenset.__iter__» Builtin.Frozenset.slot0 slotArgs
  dsimp only
  refine wpAny_bind (wpAny_bind (wpAny_pure ?_))
  refine (show wpAny (model P w) A.in1 (pure T) _ E s from wpAny_pure ?_)
  refine wpAny_bind ?_
  unfold Builtin.Frozenset.sizeOf setEntries
  refine wpAny_bind (wpAny_bind (wpAny_setState_of hT rfl sq.ft (wpAny_pure (wpAny_pure ?_))))
  refine wpAny_bind ?_
  unfold setDrawn
  refine wpAny_bind (wpAny_setState_of hT rfl sq.ft ?_)
  dsimp only
  refine wpAny_bind (wp_byText (wpAny_pure ?_))
  have nd : (!byT w && (!t.plain && decide (es.size > 1))) = false := by rw [sq.tp.pl]; simp
  split
  · next c =>
    exfalso
    have c : (!byT w && (!t.plain && decide (es.size > 1))) = true := c
    rw [nd] at c; cases c
  · refine wpAny_bind (wpAny_pure (wpAny_bind ?_))
    unfold setEpoch
    refine wpAny_bind (wpAny_setState_of hT rfl sq.ft (wpAny_pure ?_))
    refine wpAny_bind ?_
    unfold newFields
    have sl : slF w t 0 = 0 := by unfold slF; split <;> simp
    refine wpAny_newObj_type ?_ (by unfold sizeOk; first | trivial | decide | (simp only [sizeLine_eq]; decide) | simp [sizeLine_eq])
    refine (show wpAny _ _ (ret _) _ _ _ from wpAny_pure ⟨_, rfl, "set_iterator", _, ⟨_, Heap.get?_push_size _ rfl, rfl⟩, slot_si.lookup, ?_⟩)
    rw [sl] at h
    exact h
end
end L2

set_option Elab.async false
set_option linter.all false
set_option maxRecDepth 100000
set_option maxHeartbeats 4000000
namespace L2
open PySem PyProof.Rows
section
variable {P : Program} {w : World} {A : Around} {E : Value → Shared → Prop} {s : Shared} {es : Array (Int × Value)} {t : SetTable} {ns hs : List Nat} {I T : Addr} {ep : Nat}
theorem wp_if {α : Type} {M : Model} {c : Prop} [Decidable c] {a b : Sem α} {Q : α → Shared → Prop} (h : c) (k : wpAny M A a Q E s) : wpAny M A (if c then a else b) Q E s := by rw [if_pos h]; exact k
theorem wp_ifn {α : Type} {M : Model} {c : Prop} [Decidable c] {a b : Sem α} {Q : α → Shared → Prop} (h : ¬ c) (k : wpAny M A b Q E s) : wpAny M A (if c then a else b) Q E s := by rw [if_neg h]; exact k
theorem len_set : typeLookup (Value.type "set") (Str.ofString "__len__") = pure (some (.builtin "set.__len__")) := by rw [typeLookup_type, builtinLookup_eq_fast]; rfl
theorem hint_set {Q : Bool → Shared → Prop} (ty : s.TypeIs (.ref T) "set") (h : Q false s) : wpAny (model P w) A (Builtin.List.listLengthHint (.ref T)) Q E s := by
  unfold Builtin.List.listLengthHint
  refine wpAny_bind (wpAny_specialOf ty len_set ?_)
  have sp : splitId "set.__len__" = some ("set", "__len__") := by decide +kernel
  dsimp only
  rw [sp]
  dsimp only
  refine wpAny_bind (wpAny_isInstance ty PySem.F.called_set.sub ?_)
  refine wp_ifn (by decide) ?_
  refine wp_if (by decide +kernel) ?_
  refine wpAny_bind (wpAny_typeOf ty ?_)
  exact wpAny_pure h
theorem collect_set {Q : List Value → Shared → Prop} (hh : A.handled = none) (sq : SqE es t ns (!byT w) hs) (hT : s.heap.get? T = some (setO es ep t))
    (h : ∀ (h' : Heap) (tk : Nat) (acc : Array Value), s.toks ≤ tk → (∀ b o, s.heap.get? b = some o → h'.get? b = some o) → ItemsOf (fun i v => ∃ x, (wlk w T ep es)[i]? = some x ∧ v = x.2) acc es.size → Q acc.toList { s with heap := h', toks := tk }) : wpAny (model P w) A (collect (.ref T)) Q E s := by
  unfold collect
  refine wpAny_bind (wpAny_runValue (codeAny_builtin PySem.F.entry_proto_collect ?_))
  rw [Around.under_plainId PySem.F.plain_proto_collect _]
  unfold Builtin.«proto.collect» newList
  dsimp only
  refine wpAny_bind (wpAny_newObj_type ?_ (by unfold sizeOk; first | trivial | decide | simp))
  refine wpAny_pure ⟨plainId_quiet PySem.F.plain_list_iadd _, codeAny_builtin PySem.F.entry_list_iadd ?_⟩
  rw [Around.under_plainId PySem.F.plain_list_iadd _]
  unfold Builtin.«list.__iadd__» slotArgs
  dsimp only
  refine wpAny_bind (wpAny_pure ?_)
  dsimp only
  unfold Builtin.List.listExtendWith
  have Tl : T < s.heap.objs.size := Heap.lt_size hT
  have hT1 := Heap.get?_push_of_some (h := s.heap) { cls := Value.type "list", data := Data.seq #[] } hT
  refine wpAny_bind (wpAny_typeOf (T := "set") ⟨_, hT1, rfl⟩ ?_)
  refine wp_ifn ?n1 ?_
  case n1 =>
    have : (Builtin.List.listSameRef (Value.ref s.heap.objs.size) (Value.ref T)) = false := by
      show (s.heap.objs.size == T) = false
      exact beq_eq_false_iff_ne.mpr (Nat.ne_of_gt Tl)
    rw [this]; decide
  have ty1 : Shared.TypeIs { s with heap := s.heap.push { cls := Value.type "list", data := Data.seq #[] } } (.ref T) "set" := ⟨_, hT1, rfl⟩
  refine wpAny_bind (iter_set (s := { s with heap := s.heap.push { cls := Value.type "list", data := Data.seq #[] } }) sq hT1 ?_)
  have hT2 := Heap.get?_push_of_some (h := s.heap.push { cls := Value.type "list", data := Data.seq #[] }) (sitO (slF w t 0) 0 es.size ep T) hT1
  refine wpAny_bind (wpAny_holding (hint_set ⟨_, hT2, rfl⟩ ?_))
  refine wp_if (by decide +kernel) ?_
  refine wpAny_bind (wpAny_rule ?_)
  have sz1 : (s.heap.push { cls := Value.type "list", data := Data.seq #[] }).objs.size = s.heap.objs.size + 1 := Heap.size_push ..
  have hL0 : (s.heap.push { cls := Value.type "list", data := Data.seq #[] }).get? s.heap.objs.size = some { cls := Value.type "list", data := Data.seq #[] } := Heap.get?_push_size _ rfl
  have hL1 := Heap.get?_push_of_some (h := s.heap.push { cls := Value.type "list", data := Data.seq #[] }) (sitO (slF w t 0) 0 es.size ep T) hL0
  refine wpAny_bind ?_
  unfold Builtin.List.listTouch Builtin.List.listUpdate
  dsimp only
  have hI2 : ((s.heap.push { cls := Value.type "list", data := Data.seq #[] }).push (sitO (slF w t 0) 0 es.size ep T)).get? (s.heap.push { cls := Value.type "list", data := Data.seq #[] }).objs.size = some (sitO (slF w t 0) 0 es.size ep T) := Heap.get?_push_size _ rfl
  have kp2 : ∀ b o, s.heap.get? b = some o → ((s.heap.push { cls := Value.type "list", data := Data.seq #[] }).push (sitO (slF w t 0) 0 es.size ep T)).get? b = some o := fun b o e => Heap.get?_push_of_some _ (Heap.get?_push_of_some _ e)
  rw [sz1] at hI2
  rw [sz1]
  generalize (s.heap.push { cls := Value.type "list", data := Data.seq #[] }).push (sitO (slF w t 0) 0 es.size ep T) = h2 at hT2 hL1 hI2 kp2 ⊢
  refine wpAny_bind (wpAny_updateSeq hL1 rfl ?_ (by simp) (by simp [sizeLine_eq]))
  have hL3 := Heap.get?_update_self (Obj.mapSeq fun x => x.push Value.none) hL1 rfl
  have sb3 := Heap.SameBut.update h2 s.heap.objs.size (Obj.mapSeq fun x => x.push Value.none)
  generalize h2.update s.heap.objs.size (Obj.mapSeq fun x => x.push Value.none) = h3 at hL3 sb3 ⊢
  refine wpAny_updateSeq hL3 rfl ?_ (by simp [sizeLine_eq]) (by simp)
  have hL4 := Heap.get?_update_self (Obj.mapSeq fun x => x.pop) hL3 rfl
  have sb4 := Heap.SameBut.update h3 s.heap.objs.size (Obj.mapSeq fun x => x.pop)
  generalize h3.update s.heap.objs.size (Obj.mapSeq fun x => x.pop) = h4 at hL4 sb4 ⊢
  have nTL : T ≠ s.heap.objs.size := Nat.ne_of_lt Tl
  have nIL : s.heap.objs.size + 1 ≠ s.heap.objs.size := by omega
  have hT4 := (sb4.2 T nTL).trans ((sb3.2 T nTL).trans hT2)
  have hI4 := (sb4.2 _ nIL).trans ((sb3.2 _ nIL).trans hI2)
  obtain ⟨l1, l2, l3⟩ := sq.len
  refine wpAny_pure ⟨plainId_quiet PySem.F.plain_extend_loop _, codeAny_extend_loopS (walks_set (ep := ep) (I := s.heap.objs.size + 1) (T := T) (by simp [hh]) sq (Nat.ne_of_lt (Nat.lt_succ_of_lt Tl))) (by rw [sizeLine_eq]; omega) s.heap.objs.size (by simp only [List.mem_cons, List.not_mem_nil, or_false, not_or]; exact ⟨Nat.ne_of_lt (Nat.lt_succ_self _), Nat.ne_of_gt Tl⟩) _ (es.size - 0) 0 _ #[] _ rfl (Nat.zero_le _) ⟨hT4, hI4⟩ hL4 (ItemsOf.nil _) fun s' acc c mv hacc it => ?_⟩
  refine wpAny_bind (wpAny_load hacc ?_)
  dsimp only
  refine wpAny_pure ?_
  obtain ⟨h', g', d', tk', os'⟩ := s'
  have eg : g' = s.gens := mv.gens
  have ed : d' = s.drawn := mv.drawn
  have eo : os' = s.os := mv.os
  subst eg ed eo
  refine h h' tk' acc mv.toks (fun b o e => ?_) it
  have bl : b < s.heap.objs.size := Heap.lt_size e
  refine mv.heap b o (by simp only [List.mem_cons, List.not_mem_nil, or_false, not_or]; exact ⟨Nat.ne_of_lt bl, Nat.ne_of_lt (Nat.lt_succ_of_lt bl)⟩) ?_
  have nb : b ≠ s.heap.objs.size := Nat.ne_of_lt bl
  exact (sb4.2 b nb).trans ((sb3.2 b nb).trans (kp2 b o e))
end
end L2

set_option Elab.async false
set_option linter.all false
namespace L2
open PySem PySem.Spec PyProof.Rows
section
variable {X : Cx}
theorem ints_of : ∀ {ns : List Int} {its : List Value}, Vals (ns.map V.int) its → IntsAre its ns
  | [], _, .nil => .nil
  | n :: ns, _, .cons h r => by
    obtain ⟨t, rfl⟩ := h
    exact .cons n t (ints_of r)
theorem of_ints {ns : List Int} {its : List Value} (h : IntsAre its ns) : Vals (ns.map V.int) its := by
  induction h with
  | nil => exact .nil
  | cons n t _ ih => exact .cons ⟨t, rfl⟩ ih
end
end L2

set_option Elab.async false
set_option linter.all false
set_option maxRecDepth 100000
set_option maxHeartbeats 4000000
namespace L2
open PySem PyProof.Rows
section
variable {P : Program} {w : World} {A : Around} {E : Value → Shared → Prop} {s : Shared} {es : Array (Int × Value)} {t : SetTable} {ns hs : List Nat} {I T : Addr} {ep : Nat}
theorem vals_of : ∀ {l : List (Int × Value)}, (∀ e ∈ l, ∃ (z : Nat) (tk : Tok), z ≤ 8 ∧ e = ((z : Int), Value.int (z : Int) tk)) → Vals ((l.map (·.1)).map V.int) (l.map (·.2))
  | [], _ => .nil
  | e :: l, h => by
    obtain ⟨z, tk, _, rfl⟩ := h e (by simp)
    exact .cons ⟨tk, rfl⟩ (vals_of fun e he => h e (List.mem_cons_of_mem _ he))
theorem items_eq {ws : Array (Int × Value)} {acc : Array Value} {n : Nat} (hn : ws.size = n) (it : ItemsOf (fun i v => ∃ x, ws[i]? = some x ∧ v = x.2) acc n) : acc.toList = ws.toList.map (·.2) := by
  refine List.ext_getElem? fun i => ?_
  rw [Array.getElem?_toList, List.getElem?_map, Array.getElem?_toList]
  by_cases c : i < acc.size
  · obtain ⟨x, hx, e⟩ := it.2 i _ (Array.getElem?_eq_getElem c)
    rw [Array.getElem?_eq_getElem c, hx, e]; rfl
  · have := it.1
    rw [Array.getElem?_eq_none (by omega), Array.getElem?_eq_none (by omega)]; rfl
theorem sorted_set {Q : Value → Shared → Prop} (hh : A.handled = none) (sq : SqE es t ns (!byT w) hs) (hT : s.heap.get? T = some (setO es ep t))
    (h : ∀ (h' : Heap) (tk : Nat) (L : Addr) (out : Array Value) (c : Nat) (ns' : List Int), s.toks ≤ tk → (∀ b o, s.heap.get? b = some o → h'.get? b = some o) → T < L → h'.get? L = some (seqObj "list" out c) → IntsAre out.toList ns' → ns'.Perm (hs.map fun (z : Nat) => (z : Int)) → ns'.Pairwise (· ≤ ·) → Q (.ref L) { s with heap := h', toks := tk }) :
    wpAny (model P w) A (call (.builtin "sorted") [.ref T]) Q E s := by
  obtain ⟨l1, l2, l3⟩ := sq.len
  have wp := wlk_perm w T ep es
  have ws : (wlk w T ep es).size = es.size := by have := wp.length_eq; simpa using this
  have el : ∀ e ∈ (wlk w T ep es).toList, ∃ (z : Nat) (tk : Tok), z ≤ 8 ∧ e = ((z : Int), Value.int (z : Int) tk) := fun e he => sq.el e (wp.mem_iff.mp he)
  have kp : ((wlk w T ep es).toList.map (·.1)).Perm (hs.map fun (z : Nat) => (z : Int)) := by rw [← sq.ks]; exact wp.map _
  refine Calls.call_function_entry kind_sorted plain_sorted entry_sorted (args_sorted1 _) ?_
  unfold Builtin.sorted
  refine wpAny_bind (wpAny_pure ?_)
  refine wpAny_bind (collect_set (by simp [hh]) sq hT fun h1 tk acc tk1 k1 it => ?_)
  have ea := items_eq ws it
  have ia : IntsAre acc.toList ((wlk w T ep es).toList.map (·.1)) := by rw [ea]; exact ints_of (vals_of el)
  have la : acc.toList.length < 64 := by rw [ea, List.length_map, Array.length_toList]; omega
  unfold newList
  have sz : sizeOk (Data.seq acc.toList.toArray) := by
    show acc.toList.toArray.size ≤ sizeLine
    rw [List.size_toArray, sizeLine_eq]; omega
  refine wpAny_bind (wpAny_newObj_type ?_ sz)
  have hL : (h1.push { cls := Value.type "list", data := Data.seq acc.toList.toArray }).get? h1.objs.size = some (seqObj "list" acc.toList.toArray 0) := Heap.get?_push_size _ rfl
  have k2 : ∀ b o, s.heap.get? b = some o → (h1.push { cls := Value.type "list", data := Data.seq acc.toList.toArray }).get? b = some o := fun b o e => Heap.get?_push_of_some _ (k1 b o e)
  have fr : ∀ o, s.heap.get? h1.objs.size ≠ some o := fun o e => absurd (Heap.lt_size (k1 _ _ e)) (Nat.lt_irrefl _)
  generalize hg : h1.push { cls := Value.type "list", data := Data.seq acc.toList.toArray } = h2 at hL k2
  refine wpAny_bind (wpAny_holding (wpAny_call_entry slot_list_sort ⟨_, hL, rfl⟩ entry_list_sort ?_ (args_list_sort _)))
  refine list_sort_tree hL ia la fun out ns' a1 a2 a3 => ?_
  refine ⟨_, rfl, (show wpAny _ _ (ret _) _ _ _ from wpAny_pure ⟨_, rfl, ?_⟩)⟩
  have hs0 : ∀ b o, b ≠ h1.objs.size → h2.get? b = some o → (sortedHeap h2 h1.objs.size acc.toList out).get? b = some o := fun b o nb e => by
    unfold sortedHeap
    rw [Heap.get?_update_other _ _ (Ne.symm nb)]
    refine Heap.get?_push_of_some _ (Heap.get?_push_of_some _ ?_)
    rw [Heap.get?_update_other _ _ (Ne.symm nb)]; exact e
  have hl : ∃ c, (sortedHeap h2 h1.objs.size acc.toList out).get? h1.objs.size = some (seqObj "list" out c) := by
    unfold sortedHeap
    have u1 := Heap.get?_update_self (Obj.mapSeq fun x => #[]) hL rfl
    have u2 := Heap.get?_push_of_some (h := h2.update h1.objs.size (Obj.mapSeq fun x => #[])) (seqObj "tuple" acc.toList.toArray 0) u1
    have u3 := Heap.get?_push_of_some (h := (h2.update h1.objs.size (Obj.mapSeq fun x => #[])).push (seqObj "tuple" acc.toList.toArray 0)) (seqObj "list" #[] 0) u2
    exact ⟨_, Heap.get?_update_self (Obj.mapSeq fun x => out) u3 rfl⟩
  obtain ⟨c, hc⟩ := hl
  refine h _ tk _ out c ns' tk1 (fun b o e => hs0 b o (fun z => fr o (by rw [← z]; exact e)) (k2 b o e)) (Heap.lt_size (k1 _ _ hT)) hc a1 (a2.trans kp) a3
end
section
variable {X : Cx}
def tSortSet (K : PySem.W.Frag) (ta : TE) : TE := fun σ H Q => tCons ta tNil σ H fun vs H1 => ∃ p, ∃ ns : List Nat, vs = [.ref p] ∧ SqL K H1 p (ns.map fun (z : Nat) => V.int (z : Int)) ∧ (∀ z ∈ ns, z ≤ 8) ∧ ∀ (l : Addr) (ms : List Nat), H1 l = none → Ris ms → (∀ x, x ∈ ms ↔ x ∈ ns) → Q (.ref l) (upd H1 l (.lst (ms.map fun (z : Nat) => V.int (z : Int))))
theorem nat_of {ns' : List Int} {hs : List Nat} (p : ns'.Perm (hs.map fun (z : Nat) => (z : Int))) (le : ns'.Pairwise (· ≤ ·)) (nd : hs.Nodup) : ∃ ms : List Nat, ns' = ms.map (fun (z : Nat) => (z : Int)) ∧ Ris ms ∧ ms.Perm hs := by
  have e : ns' = (ns'.map Int.toNat).map fun (z : Nat) => (z : Int) := by
    conv => lhs; rw [← List.map_id ns']
    rw [List.map_map]
    refine List.map_congr_left fun x hx => ?_
    obtain ⟨z, _, rfl⟩ := List.mem_map.mp (p.mem_iff.mp hx)
    rfl
  have pm : (ns'.map Int.toNat).Perm hs := by
    refine (p.map Int.toNat).trans ?_
    rw [List.map_map]
    conv => rhs; rw [← List.map_id hs]
    exact List.Perm.of_eq (List.map_congr_left fun x _ => rfl)
  refine ⟨_, e, ?_, pm⟩
  have nd2 := pm.nodup_iff.mpr nd
  rw [e] at le
  have le2 : (ns'.map Int.toNat).Pairwise (· ≤ ·) := by
    rw [List.pairwise_map] at le
    exact le.imp fun {a b} h => by omega
  exact le2.imp₂ (fun a b h g => Nat.lt_of_le_of_ne h g) nd2
theorem pe_sortset {e : Expr} {ta : TE} {p p2 pos pos2 : Pos} (hc : X.calm = true) (hgl : Gl X "sorted") (hml : X.mg "sorted" = none) (hgs : Gl X "set") (hms : X.mg "set" = none) (ha : PE X e ta)
    (hs : starEach [e] X.env = (false, eval e X.env) :: starEach [] X.env := by rfl) (hs2 : starEach [.Call (.Name "set" p2) [e] [] pos2] X.env = (false, eval (.Call (.Name "set" p2) [e] [] pos2) X.env) :: starEach [] X.env := by rfl) :
    PE X (.Call (.Name "sorted" p) [.Call (.Name "set" p2) [e] [] pos2] [] pos) (tSortSet X.K ta) := by
  intro pins s σ H Q I h
  refine wpAny_Call_Name_kw (ld_blt I hgl hml PyProof.Rows.boot_sorted (PyProof.Rows.callWith_builtin1 ?_ hs2 rfl))
  rw [hs2]
  show wpAny _ _ (spliced ((false, eval (.Call (.Name "set" p2) [e] [] pos2) X.env) :: backTo pos (starEach [] X.env))) _ _ s
  refine Calls.spliced_cons (wpAny_Call_Name_kw (ld_blt I hgs hms set_boot (PyProof.Rows.callWith_type1 ?_ hs rfl)))
  refine thn (pa_cons ha pa_nil hs pos2 pins s σ H _ I h) fun us s1 ⟨vs, H1, I1, r1, pq, ns, e1, hq, b8, q⟩ => ?_
  cases e1
  obtain ⟨u, rfl, rx⟩ := vals1 r1
  cases rx
  obtain ⟨its, rv, pl, hz⟩ := I1.list hq
  have hlen : its.toArray.size = ns.length := by rw [List.size_toArray, ← rv.length, List.length_map]
  refine call_setQ (ns := ns) (I1.ok.hd hc) pl.isList b8 hlen (fun i v hv => ?_) fun h' tk ⟨⟨es, ep, t, hs', ho, sq⟩, kp⟩ => ?_
  · have hv' : its[i]? = some v := by simpa using hv
    have hi : i < its.length := (List.getElem?_eq_some_iff.mp hv').1
    have hi' : i < ns.length := by rw [← hlen]; simpa using hi
    have rv' : Vals ((ns.map fun (z : Nat) => (z : Int)).map V.int) its := by rw [List.map_map]; exact rv
    obtain ⟨t, ht⟩ := vint rv' (p := (ns[i] : Int)) (by rw [List.getElem?_map, List.getElem?_eq_getElem hi']; rfl)
    rw [hv'] at ht
    cases ht
    exact ⟨_, t, List.getElem?_eq_getElem hi', rfl⟩
  · refine Calls.spliced_nil ?_
    refine sorted_set (I1.ok.hd hc) sq ho fun h2 tk2 L out c ns' _ k2 tL hL ia pm le => ?_
    obtain ⟨ms, rfl, ris, pms⟩ := nat_of pm le sq.nd
    have rl := of_ints ia
    have mb : ∀ x, x ∈ ms ↔ x ∈ ns := fun x => by rw [pms.mem_iff, sq.mb x]
    have lm : ms.length ≤ 9 := by rw [pms.length_eq]; exact sq.len.2.1
    have zl : (ms.map fun (z : Nat) => V.int (z : Int)).length ≤ sizeLine := by rw [List.length_map, sizeLine_eq]; omega
    have rl' : Vals (ms.map fun (z : Nat) => V.int (z : Int)) out.toList := by rw [List.map_map] at rl; exact rl
    refine ⟨.ref L, _, I1.laid (a := L) (o := .lst (ms.map fun (z : Nat) => V.int (z : Int))) (t' := tk2) (fun b u e => k2 b u (kp b u (Heap.lt_size e) e)) (Nat.le_of_lt tL) ⟨zl, out.toList, c, rl', ?_⟩, rfl, q L ms (I1.hok.fresh (Nat.le_of_lt tL)) ris mb⟩
    rw [Array.toArray_toList]
    exact hL
end
end L2

set_option Elab.async false
set_option linter.all false
set_option maxRecDepth 100000
set_option maxHeartbeats 4000000
namespace K71
open PySem L2 Shp
section
variable {P : Program} {w : World} {K : PySem.W.Frag} {mg : Str → Option Value} {base : Heap} {f g1 g2 g3 g4 g5 g6 g7 g8 : Addr} {fd gd1 gd2 gd3 gd4 gd5 gd6 gd7 gd8 : FuncData} {CX : CXT}
variable {CR : Addr} {CK : Kd → Addr} {fW fJ fT fS : Kd → Addr} {fdW fdJ fdT fdS : Kd → FuncData}
abbrev nI (ns : List Nat) : List V := ns.map fun (p : Nat) => V.int (p : Int)
theorem small_l {n : Nat} (h : n ≤ 5000000) : n < sizeLine := by rw [sizeLine_eq]; omega
theorem nI_map (ns : List Nat) : nI ns = (ns.map fun (p : Nat) => (p : Int)).map V.int := by unfold nI; rw [List.map_map]; rfl
theorem inV_nI (c : Nat) (ns : List Nat) : inV (.int (c : Int)) (nI ns) = decide (c ∈ ns) := by
  rw [nI_map, inV_ints]
  exact decide_eq_decide.mpr ⟨fun h => by obtain ⟨x, hx, e⟩ := List.mem_map.mp h; rw [← Int.ofNat.inj e]; exact hx, fun h => List.mem_map.mpr ⟨c, h, rfl⟩⟩
theorem flat_nI (ns : List Nat) : (nI ns).all flatV = true := by rw [nI_map]; exact flat_ints _
inductive Wst (K : PySem.W.Frag) (L : Addr) (H : Hp) : List V → List Blk.Ent → Prop where
  | nil : Wst K L H [] []
  | cons {t p g : Addr} {e : Blk.Ent} {ys : List V} {st : List Blk.Ent} (ht : SqT K H t [.ref p, .ref g]) (hp : H p = some (.lst (nI e.1))) (hg : H g = some (.lst (nI e.2))) (np : p ≠ L) (ng : g ≠ L) (q : Wst K L H ys st) : Wst K L H (.ref t :: ys) (e :: st)
section
variable {L : Addr} {H H' : Hp}
theorem Wst.same (s : Same H H') : ∀ {ys : List V} {st : List Blk.Ent}, Wst K L H ys st → Wst K L H' ys st
  | _, _, .nil => .nil
  | _, _, .cons ht hp hg np ng q => .cons (s.seqT ht) (s _ _ hp) (s _ _ hg) np ng (Wst.same s q)
theorem Wst.upd {xs : List V} {o : HO} (hl : H L = some (.lst xs)) : ∀ {ys : List V} {st : List Blk.Ent}, Wst K L H ys st → Wst K L (L2.upd H L o) ys st
  | _, _, .nil => .nil
  | _, _, .cons ht hp hg np ng q => .cons (ht.upd hl) (by rw [upd_ne np]; exact hp) (by rw [upd_ne ng]; exact hg) np ng (Wst.upd hl q)
theorem Wst.length : ∀ {ys : List V} {st : List Blk.Ent}, Wst K L H ys st → ys.length = st.length
  | _, _, .nil => rfl
  | _, _, .cons _ _ _ _ _ q => congrArg (· + 1) q.length
theorem Wst.snoc {t p g : Addr} {e : Blk.Ent} (ht : SqT K H t [.ref p, .ref g]) (hp : H p = some (.lst (nI e.1))) (hg : H g = some (.lst (nI e.2))) (np : p ≠ L) (ng : g ≠ L) : ∀ {ys : List V} {st : List Blk.Ent}, Wst K L H ys st → Wst K L H (ys ++ [.ref t]) (st ++ [e])
  | _, _, .nil => .cons ht hp hg np ng .nil
  | _, _, .cons a b c d f q => .cons a b c d f (Wst.snoc ht hp hg np ng q)
theorem Wst.last {e : Blk.Ent} : ∀ {st : List Blk.Ent} {ys : List V}, Wst K L H ys (st ++ [e]) → ∃ ys0 t p g, ys = ys0 ++ [.ref t] ∧ Wst K L H ys0 st ∧ SqT K H t [.ref p, .ref g] ∧ H p = some (.lst (nI e.1)) ∧ H g = some (.lst (nI e.2)) ∧ p ≠ L ∧ g ≠ L := by
  intro st
  induction st with
  | nil =>
    intro ys h
    have h : Wst K L H ys [e] := h
    cases h with
    | cons ht hp hg np ng q =>
      cases q
      exact ⟨[], _, _, _, rfl, .nil, ht, hp, hg, np, ng⟩
  | cons x st ih =>
    intro ys h
    have h : Wst K L H ys (x :: (st ++ [e])) := h
    cases h with
    | cons a b c d f q =>
      obtain ⟨ys0, t, p, g, rfl, w, z⟩ := ih q
      exact ⟨_ :: ys0, t, p, g, rfl, .cons a b c d f w, z⟩
theorem nI_dat (ns : List Nat) : ∃ ps, DatVs K H (nI ns) ps ∧ PyData.canLayAll0 ps = true := by
  induction ns with
  | nil => exact ⟨[], .nil, rfl⟩
  | cons n ns ih =>
    obtain ⟨ps, a, b⟩ := ih
    exact ⟨_ :: ps, .cons (.int _) a, by simp [PyData.canLayAll0, PyData.canLay0, b]⟩
theorem Wst.dat : ∀ {ys : List V} {st : List Blk.Ent}, Wst K L H ys st → ∃ ps, DatVs K H ys ps ∧ PyData.canLayAll0 ps = true ∧ ps.isEmpty = st.isEmpty
  | _, _, .nil => ⟨[], .nil, rfl, rfl⟩
  | _, _, .cons (e := e) ht hp hg np ng q => by
    obtain ⟨ps, d1, d2, _⟩ := q.dat
    obtain ⟨p1, a1, b1⟩ := nI_dat (K := K) (H := H) e.1
    obtain ⟨p2, a2, b2⟩ := nI_dat (K := K) (H := H) e.2
    refine ⟨_ :: ps, .cons (.tup ht (.cons (.lst (SqL.of hp) a1) (.cons (.lst (SqL.of hg) a2) .nil))) d1, ?_, rfl⟩
    simp [PyData.canLayAll0, PyData.canLay0, d2, b1, b2]
theorem Wst.neNil {a b : Addr} {ys : List V} {st : List Blk.Ent} {Q : VK} (h : Wst K L H ys st) (h1 : SqL K H a ys) (h2 : SqL K H b []) (z : Q (.bl !st.isEmpty) H) : rDat K true (.ref a) (.ref b) H Q := by
  obtain ⟨ps, d1, d2, d3⟩ := h.dat
  refine ⟨_, _, .lst h1 d1, .lst h2 .nil, d2, rfl, ?_, ?_⟩
  · have : (PyData.list []).depth ≤ 1 := by decide
    omega
  · rw [← d3] at z
    cases ps <;> exact z
end
theorem while_rel {c : TT} {tb : TS} {D : Ends} {σ : St} {H : Hp} (Pv : Nat → St → Hp → Prop) (h0 : ∃ m, Pv m σ H)
    (hs : ∀ m σ H, Pv m σ H → c σ H fun b H1 => if b = true then ∃ N : St → Hp → Prop, (∀ σ' H', N σ' H' → ∃ m', m' < m ∧ Pv m' σ' H') ∧ tb { D with nx := N, ct := N, bk := D.nx } σ H1 else D.nx σ H1) : tWhile c tb D σ H := ⟨Pv, h0, hs⟩
theorem cy_lt {sk : List Sk} {c j : Nat} (hc : c < sk.length) (h : j = c ∨ Blk.Cy sk c j) : j < sk.length := by
  rcases h with rfl | ⟨a, b, l, _, w, _, _, _, h⟩
  · exact hc
  · rcases h with rfl | h
    · exact hc
    · exact Blk.rws_row w h
def WyP (K : PySem.W.Frag) (H : Hp) (ds : List RD) (r L p g : Addr) (c v0 u0 m qq NN : Nat) (e : Blk.Ent) (cl : List (Nat × Nat)) (i : Nat) (σ : St) (H' : Hp) : Prop := Same H H' ∧ ∃ (F : Addr) (fo : List Nat) (st : List Blk.Ent) (ys : List V) (z6 z7 z8 z9 z10 z11 : Option V) (b : Nat), σ = [some (.ref r), some (.int (c : Int)), some (.ref F), some (.ref L), some (.ref p), some (.ref g), z6, z7, z8, z9, z10, z11] ∧ F ≠ L ∧ H' F = some (.lst (nI fo)) ∧ H' L = some (.lst ys) ∧ Wst K L H' ys st ∧ H' p = some (.lst (nI e.1)) ∧ H' g = some (.lst (nI e.2)) ∧ Blk.WyJ (skl ds) v0 u0 c fo st cl i ∧ b = (9 - i) * qq ∧ Blk.muS m st + b + 1 ≤ NN ∧ fo.length + 5 * (Blk.muS m st + b) ≤ 50001
def spWays (K : PySem.W.Frag) : Sp := fun vs H Q _ => ∃ (r : Addr) (us : List V) (ds : List RD) (m c : Nat) (d : RD), vs = [.ref r, .int (c : Int)] ∧ SqL K H r us ∧ Rts K H us ds ∧ (∀ d ∈ ds, PtOk (m : Int) d.2.1 d.2.2.1) ∧ m ≤ 5 ∧ ds.length ≤ 9 ∧ ds[c]? = some d ∧ d.1 ≠ .pu ∧ d.2.1 ≠ d.2.2.1 ∧
  ∀ (l : Addr) (ms : List Nat) H', Same H H' → H l = none → H' l = some (.lst (nI ms)) → Ris ms → (∀ x, x ∈ ms ↔ x = c ∨ Blk.Cy (skl ds) c x) → Q (.ref l) H'
abbrev sWays : Stmt := top 42
theorem scWays : FnScope ["_law_rows", "_law_at", "_law_found", "_law_open_ways", "_law_points", "_law_gone", "_law_k", "_law_word", "_law_start", "_law_goal", "_law_size", "_law_other"] ["_law_rows", "_law_at"] (defScope sWays) := ⟨rfl, rfl, rfl, by decide +kernel, rfl, by decide +kernel, by decide +kernel⟩
theorem ok_ways {dV : Value} (F : FunD K "_law_ways" "_law_ways" sWays dV f fd)
    (mr : mg "range" = none) (ml : mg "len" = none) (mso : mg "sorted" = none) (mse : mg "set" = none) :
    FnOk P w K mg base CX 1 f fd ["_law_rows", "_law_at"] (spWays K) := by
  refine F.ok scWays (fun vs H Q E h => ?_) (fun cdv A outer s H vs Q E hr h => ?_)
  · obtain ⟨r, us, ds, m, c, d, rfl, hS, hR, pt, m5, h9, hd, hk0, hne, q⟩ := h
    rfl
  obtain ⟨r, us, ds, m, c, d, rfl, hS, hR, pt, m5, h9, hd, hk0, hne, q⟩ := h
  have hu := hr.units
  refine ⟨_, (pss_cons (ps_set (i := 2) scWays.nd rfl (Or.inl rfl) (pe_lst (pa_cons (pv 1) pa_nil)))
    (pss_cons (ps_set (i := 3) scWays.nd rfl (Or.inl rfl) (pe_lst (pa_cons (pe_tup (pa_cons (pe_lst (pa_cons (pe_ix ix_tup (pe_ix ix_list (pv 0) (pv 1) (fun _ _ => rfl)) pe_int (fun _ _ => rfl)) pa_nil)) (pa_cons (pe_lst pa_nil) pa_nil))) pa_nil)))
    (pss_cons (ps_while PassesOwn.never (pt_cmpR (op_neD hu) (pv 3) (pe_lst pa_nil) (nomark _)) (pss_cons (ps_asg (pe_bm0 PySem.F.plainAttrs_list PySem.F.slot_list_pop PySem.F.type_list_pop mt_pop (pv 3)) (pg_tup rfl (pgs_cons (pg_name (i := 4) scWays.nd rfl (Or.inl rfl)) (pgs_cons (pg_name (i := 5) scWays.nd rfl (Or.inl rfl)) pgs_nil))))
    (pss_one (ps_for PassesOwn.never rfl (pi_range1 rfl mr (pa_cons (pe_callB call_len_seq rfl ml PySem.boot_len (pa_cons (pv 0) pa_nil)) pa_nil)) (pg_name (i := 6) scWays.nd rfl (Or.inl rfl))
      (pss_cons (ps_asg (pe_ix ix_list (pv 0) (pv 6) (fun _ _ => rfl)) (pg_tup rfl (pgs_cons (pg_name (i := 7) scWays.nd rfl (Or.inl rfl)) (pgs_cons (pg_name (i := 8) scWays.nd rfl (Or.inl rfl)) (pgs_cons (pg_name (i := 9) scWays.nd rfl (Or.inl rfl)) (pgs_cons (pg_name (i := 10) scWays.nd rfl (Or.inl rfl)) pgs_nil))))))
    (pss_cons (ps_if (PW.pt (pw_or (pt_cmpR op_eq (pv 6) (pv 1) (nomark _)) (pw_or (pt_cmpR op_eq (pv 7) pe_str (nomark _)) (pw_or (pt_cmpR op_eq (pv 8) (pv 9) (nomark _)) (pw_or1 (pt_cmpR op_notIn_seq (pe_ix ix_list (pv 4) (pe_un un_neg pe_int) (fun _ _ => rfl)) (pe_lst (pa_cons (pv 8) (pa_cons (pv 9) pa_nil))) rfl)))))) (pss_one ps_continue) pss_nil)
    (pss_cons (ps_set (i := 11) scWays.nd rfl (Or.inl rfl) (pe_op op_sub (pe_op op_add (pv 8) (pv 9)) (pe_ix ix_list (pv 4) (pe_un un_neg pe_int) (fun _ _ => rfl))))
    (pss_one (ps_if (pt_cmpR op_eq (pv 11) (pe_ix ix_tup (pe_ix ix_list (pv 0) (pv 1) (fun _ _ => rfl)) pe_int (fun _ _ => rfl)) (nomark _)) (pss_one (ps_set (i := 2) scWays.nd rfl (Or.inl rfl) (pe_op op_cat (pe_op op_cat (pv 2) (pv 5)) (pe_lst (pa_cons (pv 6) pa_nil))))) (pss_one (ps_if (pt_cmpR op_notIn_seq (pv 11) (pv 4) rfl) (pss_one (ps_expr (pe_bm PySem.F.plainAttrs_list PySem.F.slot_list_append PySem.F.type_list_append mt_append (pv 3) (pa_cons (pe_tup (pa_cons (pe_op op_cat (pv 4) (pe_lst (pa_cons (pv 11) pa_nil))) (pa_cons (pe_op op_cat (pv 5) (pe_lst (pa_cons (pv 6) pa_nil))) pa_nil))) pa_nil)))) pss_nil)))))))))))
    (pss_one (ps_ret (pe_sortset rfl rfl mso rfl mse (pv 2))))))), ?_⟩
  obtain ⟨kc, u0, v0, pc⟩ := d
  have kc0 : kc ≠ .pu := hk0
  have hptc := pt _ (List.mem_of_getElem? hd)
  obtain ⟨u0, rfl⟩ := Int.eq_ofNat_of_zero_le hptc.1
  obtain ⟨v0, rfl⟩ := Int.eq_ofNat_of_zero_le hptc.2.2.1
  have ne : v0 ≠ u0 := fun z => hne (by rw [z])
  have lu := hR.length
  have hc : c < ds.length := (List.getElem?_eq_some_iff.mp hd).1
  have skc := sk_at hd
  have jc : Blk.Jn (skl ds) c u0 v0 := ⟨_, _, _, skc, kc0, .inl ⟨rfl, rfl⟩⟩
  have hm := sk_lt pt
  have hv5 : v0 < m := by have : (v0 : Int) < m := hptc.2.2.2; omega
  have hu5 : u0 < m := by have : (u0 : Int) < m := hptc.2.1; omega
  obtain ⟨tc, zc, etc, hTc, _⟩ := hR.at hd
  refine ⟨_, rfl, by show 1 ≤ sizeLine; decide, fun F0 hF0 => ?_⟩
  have s1 := same_new hF0 (.lst (nI [c]))
  have e1 : upd H F0 (.lst (nI [c])) F0 = some (.lst (nI [c])) := upd_same
  show tSeq _ _ _ [some (.ref r), some (.int (c : Int)), some (.ref F0), none, none, none, none, none, none, none, none, none] (upd H F0 (.lst (nI [c])))
  generalize upd H F0 (.lst (nI [c])) = H1 at s1 e1 ⊢
  refine ⟨_, rfl, _, rfl, r, us, _, _, rfl, rfl, s1.seq hS, atI_nat etc, tc, _, _, _, rfl, rfl, s1.seqT hTc, rfl, ?_⟩
  refine ⟨by show 1 ≤ sizeLine; decide, fun P0 hP0 => ?_⟩
  have s2 := same_new hP0 (.lst (nI [v0]))
  have e2 : upd H1 P0 (.lst (nI [v0])) P0 = some (.lst (nI [v0])) := upd_same
  show _
  generalize hx : upd H1 P0 _ = H2
  have hx : upd H1 P0 (.lst (nI [v0])) = H2 := hx
  rw [hx] at s2 e2
  refine ⟨by show 0 ≤ sizeLine; decide, fun G0 hG0 => ?_⟩
  have s3 := same_new hG0 (.lst (nI []))
  have e3 : upd H2 G0 (.lst (nI [])) G0 = some (.lst (nI [])) := upd_same
  generalize hy : upd H2 G0 _ = H3
  have hy : upd H2 G0 (.lst (nI [])) = H3 := hy
  rw [hy] at s3 e3
  refine ⟨by show 2 ≤ sizeLine; decide, fun T0 hT0 => ?_⟩
  have s4 := same_new hT0 (.tup [.ref P0, .ref G0])
  have q4 : SqT K (upd H3 T0 (.tup [.ref P0, .ref G0])) T0 [.ref P0, .ref G0] := SqT.of upd_same
  generalize upd H3 T0 (.tup [.ref P0, .ref G0]) = H4 at s4 q4 ⊢
  refine ⟨by show 1 ≤ sizeLine; decide, fun L hL => ?_⟩
  have s5 := same_new hL (.lst [.ref T0])
  have e5 : upd H4 L (.lst [.ref T0]) L = some (.lst [.ref T0]) := upd_same
  have P4 : H4 P0 = some (.lst (nI [v0])) := s4 _ _ (s3 _ _ e2)
  have G4 : H4 G0 = some (.lst (nI [])) := s4 _ _ e3
  have F4 := (s2.trans (s3.trans s4)) _ _ e1
  have nL : H L = none := (s1.trans (s2.trans (s3.trans s4))).free hL
  have W5 : Wst K L (upd H4 L (.lst [.ref T0])) [.ref T0] [([v0], [])] := .cons (s5.seqT q4) (s5 _ _ P4) (s5 _ _ G4) (ne_of_none P4 hL) (ne_of_none G4 hL) .nil
  have F5 := s5 _ _ F4
  have FL : F0 ≠ L := ne_of_none F4 hL
  have sH := s1.trans (s2.trans (s3.trans (s4.trans s5)))
  generalize upd H4 L (.lst [.ref T0]) = H5 at s5 e5 W5 F5 sH ⊢
  clear s1 s2 s3 s4 s5 e1 e2 e3 q4 hx hy P4 G4 F4
  have mu0 : Blk.muS m [([v0], [])] ≤ 10000 := by
    show 10 ^ (m - 1) + 0 ≤ 10 ^ 4
    exact Nat.pow_le_pow_right (by decide) (by omega)
  try dsimp only
  refine cut1 (fun σ' H' => Same H H' ∧ ∃ (F : Addr) (fo : List Nat) (z4 z5 z6 z7 z8 z9 z10 z11 : Option V), σ' = [some (.ref r), some (.int (c : Int)), some (.ref F), some (.ref L), z4, z5, z6, z7, z8, z9, z10, z11] ∧ H' F = some (.lst (nI fo)) ∧ (∀ x, x ∈ fo ↔ x = c ∨ Blk.Cy (skl ds) c x)) (fun X hX => ?_) ?_
  rotate_left
  · rintro σ6 H6 ⟨s6, F, fo, z4, z5, z6, z7, z8, z9, z10, z11, rfl, eF, mem⟩
    refine ⟨_, rfl, F, fo, rfl, SqL.of eF, fun z hz => ?_, fun l ms hl ris mb => ?_⟩
    · have := cy_lt (by rw [sk_len]; exact hc) ((mem z).mp hz)
      rw [sk_len] at this; omega
    · exact q l ms _ (s6.trans (same_new hl _)) (s6.free hl) upd_same ris fun x => (mb x).trans (mem x)
  refine while_rel (fun n σ H' => Same H H' ∧ ∃ (F : Addr) (fo : List Nat) (st : List Blk.Ent) (ys : List V) (z4 z5 z6 z7 z8 z9 z10 z11 : Option V), σ = [some (.ref r), some (.int (c : Int)), some (.ref F), some (.ref L), z4, z5, z6, z7, z8, z9, z10, z11] ∧ F ≠ L ∧ H' F = some (.lst (nI fo)) ∧ H' L = some (.lst ys) ∧ Wst K L H' ys st ∧ Blk.WyI (skl ds) v0 u0 c fo st ∧ n = Blk.muS m st ∧ fo.length + 5 * Blk.muS m st ≤ 50001) ⟨_, sH, F0, [c], _, _, none, none, none, none, none, none, none, none, rfl, FL, F5, e5, W5, Blk.WyI.zero ne, rfl, by show 1 + _ ≤ _; omega⟩ ?_
  rintro n σ H6 ⟨s6, F, fo, st, ys, z4, z5, z6, z7, z8, z9, z10, z11, rfl, FL, eF, eL, W6, wy, rfl, bd⟩
  refine ⟨_, rfl, by show 0 ≤ sizeLine; decide, fun E0 hE0 => ?_⟩
  have sE := same_new hE0 (.lst [])
  refine Wst.neNil (W6.same sE) (SqL.of (sE _ _ eL)) (SqL.of upd_same) ⟨_, rfl, ?_⟩
  have s7 := s6.trans sE
  have eF7 := sE _ _ eF
  have eL7 := sE _ _ eL
  have W7 := W6.same sE
  generalize upd H6 E0 (.lst []) = H7 at s7 eF7 eL7 W7 ⊢
  clear sE hE0 W6 eL eF s6
  rcases List.eq_nil_or_concat st with rfl | ⟨st0, e, rfl⟩
  · exact iteF (hX _ _ ⟨s7, F, fo, z4, z5, z6, z7, z8, z9, z10, z11, rfl, eF7, fun x => wy.all jc⟩)
  rw [List.concat_eq_append] at W7 wy bd ⊢
  rw [show (!(st0 ++ [e]).isEmpty) = true by cases st0 <;> rfl]
  refine iteT ⟨fun σ' H' => ∃ m', m' < Blk.muS m (st0 ++ [e]) ∧ _, fun σ' H' h => h, ?_⟩
  obtain ⟨ys, t, p, g, rfl, W8, ht, hp, hg, np, ng⟩ := W7.last
  obtain ⟨cl, x, ew, wj⟩ := wy.pop
  obtain ⟨el1, el2⟩ := ew.len hm hv5 hu5
  refine ⟨_, rfl, .inl ⟨rfl, _, SqL.of eL7⟩, L, _, .ref t, rfl, rfl, eL7, by simp, ?_⟩
  rw [List.dropLast_concat]
  have s8 : Same H (upd H7 L (.lst ys)) := s7.change nL
  have eL8 : upd H7 L (.lst ys) L = some (.lst ys) := upd_same
  have eF8 : upd H7 L (.lst ys) F = some (.lst (nI fo)) := by rw [upd_ne FL]; exact eF7
  have hp8 : upd H7 L (.lst ys) p = some (.lst (nI e.1)) := by rw [upd_ne np]; exact hp
  have hg8 : upd H7 L (.lst ys) g = some (.lst (nI e.2)) := by rw [upd_ne ng]; exact hg
  have ht8 : SqT K (upd H7 L (.lst ys)) t [.ref p, .ref g] := ht.upd eL7
  have W9 := W8.upd (o := .lst ys) eL7
  generalize upd H7 L (.lst ys) = H8 at s8 eL8 eF8 hp8 hg8 ht8 W9 ⊢
  clear W8 W7 ht hp hg eF7 eL7 s7 wy
  refine ⟨t, _, rfl, ht8, rfl, _, _, rfl, _, _, rfl, rfl, ?_⟩
  refine ⟨_, rfl, r, us, rfl, .inl (s8.seq hS), (us.length : Int), rfl, by omega, by omega, ?_⟩
  have q10 : 10 * 10 ^ (m - (e.1.length + 1)) = Blk.muE m e := by unfold Blk.muE; rw [show m - e.1.length = (m - (e.1.length + 1)) + 1 by omega, Nat.pow_succ, Nat.mul_comm]
  have qpos : 1 ≤ 10 ^ (m - (e.1.length + 1)) := Nat.pow_pos (by decide)
  have qnew : ∀ y k : Nat, Blk.muE m (e.1 ++ [y], e.2 ++ [k]) = 10 ^ (m - (e.1.length + 1)) := fun y k => by unfold Blk.muE; rw [List.length_append]; rfl
  have mu1 : Blk.muS m (st0 ++ [e]) = Blk.muS m st0 + Blk.muE m e := by rw [Blk.muS_app]; show _ + (_ + 0) = _; omega
  have gl : e.2.length + 1 ≤ 5 := by omega
  have xin : e.1 = Blk.pre v0 cl ++ [x] := by rw [ew.p]; exact ew.w.pts_eq
  generalize 10 ^ (m - (e.1.length + 1)) = qq at q10 qpos qnew
  rw [mu1] at bd ⊢
  refine for_range (n := (us.length : Int).toNat) (WyP K H ds r L p g c v0 u0 m qq (Blk.muS m st0 + Blk.muE m e) e cl) ⟨s8, F, fo, st0, ys, _, _, _, _, _, _, 9 * qq, rfl, FL, eF8, eL8, W9, hp8, hg8, wj, rfl, by omega, by omega⟩ ?_ ?_
  rotate_left
  · rintro σ H9 ⟨s9, F, fo, st', ys, z6, z7, z8, z9, z10, z11, b, rfl, FL, eF, eL, W, hp, hg, wj, hb, bl, bd'⟩
    refine ⟨Blk.muS m st', by omega, s9, F, fo, st', ys, _, _, _, _, _, _, _, _, rfl, FL, eF, eL, W, Blk.WyJ.fin (cl := cl) ?_, rfl, by omega⟩
    rw [sk_len]
    rwa [show (us.length : Int).toNat = ds.length by omega] at wj
  rintro i σ H9 hi ⟨s9, F, fo, st, ys, z6, z7, z8, z9, z10, z11, b, rfl, FL, eF, eL, W, hp, hg, wj, hb, bl, bd'⟩
  have hi : i < ds.length := by omega
  have hb' : b = (9 - (i + 1)) * qq + qq := by rw [hb, show 9 - i = 9 - (i + 1) + 1 by omega, Nat.succ_mul]
  generalize hb2 : (9 - (i + 1)) * qq = b2 at hb'
  clear hb
  subst hb'
  rw [Int.zero_add]
  have hdi : ds[i]? = some ds[i] := List.getElem?_eq_getElem hi
  generalize ds[i] = di at hdi
  have hpti := pt _ (List.mem_of_getElem? hdi)
  obtain ⟨ti, zi, eti, hTi, _⟩ := hR.at hdi
  have ski := sk_at hdi
  obtain ⟨k, u, v, pq⟩ := di
  obtain ⟨u, rfl⟩ := Int.eq_ofNat_of_zero_le hpti.1
  obtain ⟨v, rfl⟩ := Int.eq_ofNat_of_zero_le hpti.2.2.1
  have ski : (skl ds)[i]? = some (k, u, v) := ski
  have jn : ∀ {a b : Nat}, Blk.Jn (skl ds) i a b → k ≠ .pu ∧ ((u = a ∧ v = b) ∨ (v = a ∧ u = b)) := fun h => by
    obtain ⟨k', u', v', e1, e2, e3⟩ := h
    rw [ski] at e1
    cases e1
    exact ⟨e2, e3⟩
  refine ⟨_, rfl, _, rfl, r, us, _, _, rfl, rfl, s9.seq hS, atI_nat eti, ti, _, rfl, s9.seqT hTi, rfl, _, _, rfl, _, _, rfl, _, _, rfl, _, _, rfl, rfl, ?_⟩
  have skip : (∀ y, ¬ (Blk.Jn (skl ds) i x y ∧ x ≠ y ∧ i ≠ c ∧ y ∉ e.1)) → ∀ H', Same H9 H' → ∀ w11 : Option V, WyP K H ds r L p g c v0 u0 m qq (Blk.muS m st0 + Blk.muE m e) e cl (i + 1) [some (.ref r), some (.int (c : Int)), some (.ref F), some (.ref L), some (.ref p), some (.ref g), some (.int (i : Int)), some (.str k.wd), some (.int (u : Int)), some (.int (v : Int)), some (.ref zi), w11] H' := fun no H' s' w11 => ⟨s9.trans s', F, fo, st, ys, some (.int (i : Int)), some (.str k.wd), some (.int (u : Int)), some (.int (v : Int)), some (.ref zi), w11, b2, rfl, FL, s' _ _ eF, s' _ _ eL, W.same s', s' _ _ hp, s' _ _ hg, wj.skip ew no, hb2.symm, by omega, by omega⟩
  refine ⟨_, rfl, _, rfl, rfl, _, rfl, ?_⟩
  refine ite2 (fun h => iteT ?_) (fun h1 => ?_)
  · have h : V.int (i : Int) = V.int (c : Int) := of_decide_eq_true h
    exact skip (fun y z => z.2.2.1 (by have := V.int.inj h; omega)) _ (Same.refl _) _
  have ic : i ≠ c := fun z => h1 (by rw [z]; exact decide_eq_true rfl)
  refine ⟨_, rfl, rfl, _, rfl, ?_⟩
  rw [show decide (V.str k.wd = V.str "push") = decide (k = .pu) from dec_wd k .pu]
  refine ite2 (fun h => iteT ?_) (fun h2 => ?_)
  · exact skip (fun y z => (jn z.1).1 (of_decide_eq_true h)) _ (Same.refl _) _
  have kp : k ≠ .pu := fun z => h2 (decide_eq_true z)
  refine ⟨_, rfl, _, rfl, rfl, _, rfl, ?_⟩
  refine ite2 (fun h => iteT ?_) (fun h3 => ?_)
  · have h : V.int (u : Int) = V.int (v : Int) := of_decide_eq_true h
    have h := V.int.inj h
    exact skip (fun y z => z.2.1 (by have := (jn z.1).2; omega)) _ (Same.refl _) _
  have uv : u ≠ v := fun z => h3 (by rw [z]; exact decide_eq_true rfl)
  refine ⟨_, rfl, 1, rfl, p, _, _, _, rfl, rfl, SqL.of hp, by rw [xin, nI, List.map_append]; exact atI_last _ _, ?_⟩
  refine ⟨_, rfl, _, rfl, by show 2 ≤ sizeLine; decide, fun M hM => ?_⟩
  have sM := same_new hM (.lst (nI [u, v]))
  refine ⟨M, nI [u, v], rfl, .inl (SqL.of upd_same), rfl, rfl, _, rfl, ?_⟩
  refine ite2 (fun h => ?_) (fun h4 => ?_)
  · have h : (!inV (.int (x : Int)) (nI [u, v])) = true := h
    rw [inV_nI] at h
    have h : x ∉ [u, v] := by simpa using h
    simp only [List.mem_cons, List.not_mem_nil, or_false, not_or] at h
    exact skip (fun y z => by have := (jn z.1).2; omega) _ sM _
  have h4 : x = u ∨ x = v := by
    have h4 : ¬ (!inV (.int (x : Int)) (nI [u, v])) = true := h4
    rw [inV_nI] at h4
    have h4 : ¬ x = u → x = v := by simpa using h4
    by_cases z : x = u
    · exact .inl z
    · exact .inr (h4 z)
  obtain ⟨y, hy, jy, xy, hyu⟩ : ∃ y : Nat, (u : Int) + v - x = (y : Int) ∧ Blk.Jn (skl ds) i x y ∧ x ≠ y ∧ y < m := by
    have p1 : (u : Int) < m := hpti.2.1
    have p2 : (v : Int) < m := hpti.2.2.2
    rcases h4 with rfl | rfl
    · exact ⟨v, by omega, ⟨k, _, _, ski, kp, .inl ⟨rfl, rfl⟩⟩, uv, by omega⟩
    · exact ⟨u, by omega, ⟨k, _, _, ski, kp, .inr ⟨rfl, rfl⟩⟩, Ne.symm uv, by omega⟩
  have hp1 := sM _ _ hp
  have atx : atI (nI e.1) (-1) = some (.int (x : Int)) := by rw [xin, nI, List.map_append]; exact atI_last _ _
  have sM' : Same H9 (upd H9 M (.lst [.int (u : Int), .int (v : Int)])) := sM
  have hp1' : upd H9 M (.lst [.int (u : Int), .int (v : Int)]) p = some (.lst (nI e.1)) := hp1
  generalize upd H9 M (.lst [.int (u : Int), .int (v : Int)]) = HA at sM' hp1' ⊢
  clear hp1 sM
  refine ⟨_, rfl, _, rfl, _, _, rfl, rfl, _, rfl, 1, rfl, p, _, _, _, rfl, rfl, SqL.of hp1', atx, _, _, rfl, rfl, ?_⟩
  dsimp only
  rw [hy]
  have s9A := s9.trans sM'
  refine ⟨_, rfl, _, rfl, _, rfl, r, us, _, _, rfl, rfl, s9A.seq hS, atI_nat etc, tc, _, _, _, rfl, rfl, s9A.seqT hTc, rfl, rfl, _, rfl, ?_⟩
  have eFA := sM' _ _ eF
  have eLA := sM' _ _ eL
  have hgA := sM' _ _ hg
  have WA := W.same sM'
  refine ite2 (fun h => ?_) (fun h5 => ?_)
  · have h : V.int (y : Int) = V.int (u0 : Int) := of_decide_eq_true h
    obtain rfl : y = u0 := by have := V.int.inj h; omega
    have wh := wj.hit ew jc jy ic ne
    refine ⟨_, rfl, _, rfl, F, g, _, _, rfl, rfl, eFA, hgA, Nat.le_of_lt (small_l (by rw [List.length_map, List.length_map]; omega)), fun p1 hp1 => ?_⟩
    have sB := same_new hp1 (.lst (nI fo ++ nI e.2))
    have eB : upd HA p1 (.lst (nI fo ++ nI e.2)) p1 = some (.lst (nI fo ++ nI e.2)) := upd_same
    generalize upd HA p1 (.lst (nI fo ++ nI e.2)) = HB at sB eB ⊢
    refine ⟨_, rfl, by show 1 ≤ sizeLine; decide, fun M1 hM1 => ?_⟩
    have sC := same_new hM1 (.lst [.int (i : Int)])
    have eC : upd HB M1 (.lst [.int (i : Int)]) M1 = some (.lst [.int (i : Int)]) := upd_same
    generalize upd HB M1 (.lst [.int (i : Int)]) = HC at sC eC ⊢
    refine ⟨p1, M1, _, _, rfl, rfl, sC _ _ eB, eC, Nat.le_of_lt (small_l (by rw [List.length_append, List.length_map, List.length_map]; show _ + 1 ≤ _; omega)), fun F2 hF2 => ?_⟩
    have sD := same_new hF2 (.lst ((nI fo ++ nI e.2) ++ [.int (i : Int)]))
    have sAD := sB.trans (sC.trans sD)
    have nF2 : F2 ≠ L := Ne.symm (ne_of_none ((sB.trans sC) _ _ eLA) hF2)
    refine ⟨s9A.trans sAD, F2, fo ++ e.2 ++ [i], st, ys, _, _, _, _, _, _, b2, rfl, nF2, ?_, sAD _ _ eLA, WA.same sAD, sAD _ _ hp1', sAD _ _ hgA, wh, hb2.symm, by omega, ?_⟩
    · rw [upd_same]; unfold nI; rw [List.map_append, List.map_append]; rfl
    · rw [List.length_append, List.length_append]; show _ + 1 + _ ≤ _; omega
  have yu : y ≠ u0 := fun z => h5 (by rw [z]; exact decide_eq_true rfl)
  refine ⟨_, rfl, _, rfl, p, _, rfl, .inl (SqL.of hp1'), rfl, flat_nI _, _, rfl, ?_⟩
  refine ite2 (fun h => ?_) (fun h6 => ?_)
  rotate_left
  · refine skip (fun y' z => ?_) _ sM' _
    have : y' = y := Blk.jn_un jy z.1 xy
    subst this
    have h6 : ¬ (!inV (.int (y' : Int)) (nI e.1)) = true := h6
    rw [inV_nI] at h6
    exact z.2.2.2 (by simpa using h6)
  have yn : y ∉ e.1 := by
    have h : (!inV (.int (y : Int)) (nI e.1)) = true := h
    rw [inV_nI] at h
    simpa using h
  have wp := wj.push ew jy xy ic yu yn
  have lW := WA.length
  have lst : st.length ≤ Blk.muS m st := by
    unfold Blk.muS
    have : ∀ l : List Blk.Ent, l.length ≤ (l.map (Blk.muE m)).sum := fun l => by
      induction l with
      | nil => exact Nat.le_refl _
      | cons a l ih => rw [List.map_cons, List.sum_cons, List.length_cons]; have : 0 < Blk.muE m a := Nat.pow_pos (by decide); omega
    exact this st
  refine ⟨_, rfl, .inl ⟨rfl, _, SqL.of eLA⟩, _, rfl, _, rfl, by show 1 ≤ sizeLine; decide, fun M1 hM1 => ?_⟩
  have sB := same_new hM1 (.lst [.int (y : Int)])
  have eB : upd HA M1 (.lst [.int (y : Int)]) M1 = some (.lst [.int (y : Int)]) := upd_same
  generalize upd HA M1 (.lst [.int (y : Int)]) = HB at sB eB ⊢
  refine ⟨p, M1, _, _, rfl, rfl, sB _ _ hp1', eB, Nat.le_of_lt (small_l (by rw [List.length_map]; show _ + 1 ≤ _; omega)), fun P1 hP1 => ?_⟩
  have sC := same_new hP1 (.lst (nI e.1 ++ [.int (y : Int)]))
  have eC : upd HB P1 (.lst (nI e.1 ++ [.int (y : Int)])) P1 = some (.lst (nI e.1 ++ [.int (y : Int)])) := upd_same
  have nP1 : P1 ≠ L := Ne.symm (ne_of_none (sB _ _ eLA) hP1)
  generalize upd HB P1 (.lst (nI e.1 ++ [.int (y : Int)])) = HC at sC eC ⊢
  have sAC := sB.trans sC
  refine ⟨_, rfl, _, rfl, by show 1 ≤ sizeLine; decide, fun M2 hM2 => ?_⟩
  have sD := same_new hM2 (.lst [.int (i : Int)])
  have eD : upd HC M2 (.lst [.int (i : Int)]) M2 = some (.lst [.int (i : Int)]) := upd_same
  generalize upd HC M2 (.lst [.int (i : Int)]) = HD at sD eD ⊢
  have sAD := sAC.trans sD
  refine ⟨g, M2, _, _, rfl, rfl, sAD _ _ hgA, eD, Nat.le_of_lt (small_l (by rw [List.length_map]; show _ + 1 ≤ _; omega)), fun G1 hG1 => ?_⟩
  have sE := same_new hG1 (.lst (nI e.2 ++ [.int (i : Int)]))
  have eE : upd HD G1 (.lst (nI e.2 ++ [.int (i : Int)])) G1 = some (.lst (nI e.2 ++ [.int (i : Int)])) := upd_same
  have nG1 : G1 ≠ L := Ne.symm (ne_of_none (sAD _ _ eLA) hG1)
  generalize upd HD G1 (.lst (nI e.2 ++ [.int (i : Int)])) = HE at sE eE ⊢
  have sAE := sAD.trans sE
  refine ⟨by show 2 ≤ sizeLine; decide, fun T1 hT1 => ?_⟩
  have sF := same_new hT1 (.tup [.ref P1, .ref G1])
  have qF : SqT K (upd HE T1 (.tup [.ref P1, .ref G1])) T1 [.ref P1, .ref G1] := SqT.of upd_same
  generalize upd HE T1 (.tup [.ref P1, .ref G1]) = HF at sF qF ⊢
  have sAF := sAE.trans sF
  have eLF := sAF _ _ eLA
  refine ⟨L, ys, .ref T1, rfl, rfl, eLF, small_l (by omega), ?_⟩
  have eC' : HF P1 = some (.lst (nI (e.1 ++ [y]))) := by rw [(sD.trans (sE.trans sF)) _ _ eC]; unfold nI; rw [List.map_append]; rfl
  have eE' : HF G1 = some (.lst (nI (e.2 ++ [i]))) := by rw [sF _ _ eE]; unfold nI; rw [List.map_append]; rfl
  have WF := (Wst.snoc (e := (e.1 ++ [y], e.2 ++ [i])) qF eC' eE' nP1 nG1 (WA.same sAF)).upd (o := .lst (ys ++ [.ref T1])) eLF
  have mup : Blk.muS m (st ++ [(e.1 ++ [y], e.2 ++ [i])]) = Blk.muS m st + qq := by rw [Blk.muS_app]; show _ + (Blk.muE m _ + 0) = _; rw [qnew]; rfl
  refine ⟨(s9A.trans sAF).change nL, F, fo, st ++ [(e.1 ++ [y], e.2 ++ [i])], ys ++ [.ref T1], _, _, _, _, _, _, b2, rfl, FL, by rw [upd_ne FL]; exact sAF _ _ eFA, upd_same, WF, by rw [upd_ne np]; exact sAF _ _ hp1', by rw [upd_ne ng]; exact sAF _ _ hgA, wp, hb2.symm, ?_, ?_⟩
  · rw [mup]; omega
  · rw [mup]; omega
end
end K71

set_option Elab.async false
set_option linter.all false
set_option maxRecDepth 100000
set_option maxHeartbeats 4000000
namespace K71
open PySem L2 Shp
section
variable {P : Program} {w : World} {K : PySem.W.Frag} {mg : Str → Option Value} {base : Heap} {f g1 g2 g3 g4 g5 g6 g7 g8 : Addr} {fd gd1 gd2 gd3 gd4 gd5 gd6 gd7 gd8 : FuncData} {CX : CXT}
variable {CR : Addr} {CK : Kd → Addr} {fW fJ fT fS : Kd → Addr} {fdW fdJ fdT fdS : Kd → FuncData}
theorem blk_ris (ds : List RD) (k : Nat) : Ris (blkF ds k) := List.pairwise_lt_range.filter _
theorem blk_mem {ds : List RD} {m k : Nat} (pt : ∀ d ∈ ds, PtOk (m : Int) d.2.1 d.2.2.1) (m20 : m ≤ 20) (hk : k < ds.length) (x : Nat) : x ∈ blkF ds k ↔ x = k ∨ Blk.Cy (skl ds) k x := by
  have hk' : k < (skl ds).length := by rw [sk_len]; exact hk
  unfold blkF
  rw [List.mem_filter, List.mem_range]
  constructor
  · rintro ⟨hx, e⟩
    have := (Blk.mkb_iff (sk_lt pt) m20 hk' (by rw [sk_len]; exact hx)).mp (of_decide_eq_true e).symm
    rcases this with z | z
    · exact .inl z.symm
    · exact .inr z
  · intro h
    have hx := cy_lt hk' h
    refine ⟨by rwa [sk_len] at hx, decide_eq_true ?_⟩
    refine ((Blk.mkb_iff (sk_lt pt) m20 hk' hx).mpr ?_).symm
    rcases h with z | z
    · exact .inl z.symm
    · exact .inr z
theorem no_cy {ds : List RD} {k : Nat} {d : RD} (hd : ds[k]? = some d) (h : d.1 = .pu ∨ d.2.1 = d.2.2.1) {x : Nat} (z : Blk.Cy (skl ds) k x) : False := by
  obtain ⟨a, b, l, ⟨k', u, v, e, e2, e3⟩, _, _, ne, _⟩ := z
  rw [sk_at hd] at e
  cases e
  rcases h with h | h
  · exact e2 h
  · rw [h] at e3
    omega
theorem blk_due {ds : List RD} {m k : Nat} {ms : List Nat} (pt : ∀ d ∈ ds, PtOk (m : Int) d.2.1 d.2.2.1) (m20 : m ≤ 20) (hk : k < ds.length) (r : Ris ms) (h : ∀ x, x ∈ ms ↔ x = k ∨ Blk.Cy (skl ds) k x) : ms = blkF ds k :=
  ris_ext r (blk_ris ds k) fun x => (h x).trans (blk_mem pt m20 hk x).symm
def spAll (K : PySem.W.Frag) : Sp := fun vs H Q _ => ∃ (a : Addr) (ns : List Int) (m : Nat), vs = [.ref a, .int (m : Int)] ∧ SqL K H a (ns.map V.int) ∧ ns.length ≤ 63 ∧ 1 ≤ m ∧ m ≤ 5 ∧ ∀ H', Same H H' → Q (.bl true) H'
abbrev sAll : Stmt := top 43
theorem scAll : FnScope ["_law_script", "_law_many", "_law_rows", "_law_net_here", "_law_k", "_law_due", "_law_found"] ["_law_script", "_law_many"] (defScope sAll) := ⟨rfl, rfl, rfl, by decide +kernel, rfl, by decide +kernel, by decide +kernel⟩
theorem ok_all {dV : Value} (F : FunD K "_law_all_ways" "_law_all_ways" sAll dV f fd)
    {CN : Addr} (mr : mg "range" = none) (ml : mg "len" = none)
    (G1 : FnOk P w K mg base CX0 2 g1 gd1 ["_law_script", "_law_many"] (spSmall K)) (b1 : Binds K gd1 ["_law_script", "_law_many"] []) (k1 : PySem.W.keepIn K (.ref g1) = true) (m1 : mg "_law_small" = some (.ref g1))
    (G2 : FnOk P w K mg base CX0 6 g2 gd2 ["_law_many", "_law_rows"] (spNet33 CN K)) (b2 : Binds K gd2 ["_law_many", "_law_rows"] []) (k2 : PySem.W.keepIn K (.ref g2) = true) (m2 : mg "_law_net" = some (.ref g2))
    (G3 : FnOk P w K mg base CX0 1 g3 gd3 ["_law_rows", "_law_at"] (spWays K)) (b3 : Binds K gd3 ["_law_rows", "_law_at"] []) (k3 : PySem.W.keepIn K (.ref g3) = true) (m3 : mg "_law_ways" = some (.ref g3))
    (G4 : FnOk P w K mg base CX0 6 g4 gd4 ["net", "k"] (spBlk CN K)) (b4 : Binds K gd4 ["net", "k"] []) (k4 : PySem.W.keepIn K (.ref g4) = true) (m4 : mg "block_of" = some (.ref g4)) :
    FnOk P w K mg base CX 7 f fd ["_law_script", "_law_many"] (spAll K) := by
  refine F.ok scAll (fun vs H Q E h => ?_) (fun cdv A outer s H vs Q E hr h => ?_)
  · obtain ⟨a, ns, m, rfl, hS, h63, lm1, lm5, q⟩ := h
    rfl
  obtain ⟨a, ns, m, rfl, hS, h63, lm1, lm5, q⟩ := h
  have r1 := hr.mono (show 1 ≤ 6 by omega)
  have r2 := hr.mono (show 2 ≤ 6 by omega)
  have hu := hr.units
  refine ⟨_, (pss_cons (ps_set (i := 2) scAll.nd rfl (Or.inl rfl) (pe_call G1 r2 rfl m1 k1 b1 .nil pass0 (pa_cons (pv 0) (pa_cons (pv 1) pa_nil))))
    (pss_cons (ps_set (i := 3) scAll.nd rfl (Or.inl rfl) (pe_call G2 hr rfl m2 k2 b2 .nil pass0 (pa_cons (pv 1) (pa_cons (pv 2) pa_nil))))
    (pss_cons (ps_for PassesOwn.never rfl (pi_range1 rfl mr (pa_cons (pe_callB call_len_seq rfl ml PySem.boot_len (pa_cons (pv 2) pa_nil)) pa_nil)) (pg_name (i := 4) scAll.nd rfl (Or.inl rfl))
      (pss_cons (ps_set (i := 5) scAll.nd rfl (Or.inl rfl) (pe_lst (pa_cons (pv 4) pa_nil)))
    (pss_cons (ps_if (PW.pt (pw_and (pt_cmpR op_ne (pe_ix ix_tup (pe_ix ix_list (pv 2) (pv 4) (fun _ _ => rfl)) pe_int (fun _ _ => rfl)) pe_str (nomark _)) (pw_and1 (pt_cmpR op_ne (pe_ix ix_tup (pe_ix ix_list (pv 2) (pv 4) (fun _ _ => rfl)) pe_int (fun _ _ => rfl)) (pe_ix ix_tup (pe_ix ix_list (pv 2) (pv 4) (fun _ _ => rfl)) pe_int (fun _ _ => rfl)) (nomark _))))) (pss_one (ps_set (i := 5) scAll.nd rfl (Or.inl rfl) (pe_call G3 r1 rfl m3 k3 b3 .nil pass0 (pa_cons (pv 2) (pa_cons (pv 4) pa_nil))))) pss_nil)
    (pss_cons (ps_set (i := 6) scAll.nd rfl (Or.inl rfl) (pe_call G4 hr rfl m4 k4 b4 .nil pass0 (pa_cons (pv 3) (pa_cons (pv 4) pa_nil))))
    (pss_cons (ps_if (pt_cmpR (op_neD hu) (pv 6) (pv 5) (nomark _)) (pss_one (ps_ret pe_bl)) pss_nil)
    (pss_cons (ps_expr (pe_bm PySem.F.plainAttrs_list PySem.F.slot_list_append PySem.F.type_list_append mt_append (pv 6) (pa_cons (pv 4) pa_nil)))
    (pss_one (ps_if (pt_cmpR (op_neD hu) (pe_call G4 hr rfl m4 k4 b4 .nil pass0 (pa_cons (pv 3) (pa_cons (pv 4) pa_nil))) (pv 5) (nomark _)) (pss_one (ps_ret pe_bl)) pss_nil))))))))
    (pss_one (ps_ret pe_bl))))), ?_⟩
  refine ⟨_, rfl, _, rfl, a, ns, m, rfl, hS, h63, lm1, fun r us ds H1 s1 nr er hR hK h9 => ?_⟩
  have pt : ∀ d ∈ ds, PtOk (m : Int) d.2.1 d.2.2.1 := fun d hd => ⟨(hK d hd).1, (hK d hd).2.1, (hK d hd).2.2.1, (hK d hd).2.2.2.1⟩
  refine ⟨_, rfl, _, rfl, (m : Int), r, us, ds, rfl, by omega, by omega, SqL.of er, hR, hK, by omega, fun n l H2 s2 nl nt => ?_⟩
  have lu := hR.length
  have s12 := s1.trans s2
  have er2 := s2 _ _ er
  have hR2 := hR.same s2
  refine ⟨_, rfl, r, us, rfl, .inl (SqL.of er2), (us.length : Int), rfl, by omega, by omega, ?_⟩
  refine for_range (n := (us.length : Int).toNat) (fun i σ H' => Same H2 H' ∧ ∃ (z4 z5 z6 : Option V), σ = [some (.ref a), some (.int (m : Int)), some (.ref r), some (.ref n), z4, z5, z6]) ⟨Same.refl _, _, _, _, rfl⟩ ?_ ?_
  rotate_left
  · rintro σ H3 ⟨s3, z4, z5, z6, rfl⟩
    exact q _ (s12.trans s3)
  rintro i σ H3 hi ⟨s3, z4, z5, z6, rfl⟩
  have hi : i < ds.length := by omega
  rw [Int.zero_add]
  have hdi : ds[i]? = some ds[i] := List.getElem?_eq_getElem hi
  generalize ds[i] = di at hdi
  have hR3 := hR2.same s3
  have er3 := s3 _ _ er2
  obtain ⟨ti, zi, eti, hTi, _⟩ := hR3.at hdi
  refine ⟨_, rfl, by show 1 ≤ sizeLine; decide, fun D hD => ?_⟩
  have s4 := same_new hD (.lst (nI [i]))
  have e4 : upd H3 D (.lst (nI [i])) D = some (.lst (nI [i])) := upd_same
  have gn : ∀ G : Hp → Prop, (∀ H4, Same H3 H4 → H4 D = some (.lst (nI [i])) → G H4) → G (upd H3 D (.lst [.int (i : Int)])) := fun G h => h _ s4 e4
  refine gn _ fun H4 s4 e4 => ?_
  try dsimp only
  refine cut1 (fun σ' H' => Same H3 H' ∧ ∃ (D : Addr), σ' = [some (.ref a), some (.int (m : Int)), some (.ref r), some (.ref n), some (.int (i : Int)), some (.ref D), z6] ∧ H' D = some (.lst (nI (blkF ds i)))) (fun X hX => ?_) ?_
  · have er4 := s4 _ _ er3
    have hT4 := s4.seqT hTi
    have one : (di.1 = .pu ∨ di.2.1 = di.2.2.1) → nI [i] = nI (blkF ds i) := fun z => by
      rw [← blk_due pt (by omega) hi (ms := [i]) (List.pairwise_singleton _ _) fun x => ⟨fun h => .inl (List.mem_singleton.mp h), fun h => by
        rcases h with h | h
        · exact List.mem_singleton.mpr h
        · exact (no_cy hdi z h).elim⟩]
    refine ⟨_, rfl, _, rfl, r, us, _, _, rfl, rfl, SqL.of er4, atI_nat eti, ti, _, _, _, rfl, rfl, hT4, rfl, rfl, _, rfl, ?_⟩
    rw [show decide (V.str di.1.wd = V.str "push") = decide (di.1 = .pu) from dec_wd di.1 .pu]
    refine ite2 (fun h => ?_) (fun h => ?_)
    rotate_left
    · refine iteF (hX _ _ ⟨s4, D, rfl, ?_⟩)
      rw [e4, one (.inl (by simpa using h))]
    have kp : di.1 ≠ .pu := by simpa using h
    refine ⟨_, rfl, _, rfl, r, us, _, _, rfl, rfl, SqL.of er4, atI_nat eti, ti, _, _, _, rfl, rfl, hT4, rfl, _, rfl, _, rfl, r, us, _, _, rfl, rfl, SqL.of er4, atI_nat eti, ti, _, _, _, rfl, rfl, hT4, rfl, rfl, _, rfl, ?_⟩
    refine ite2 (fun h => ?_) (fun h => ?_)
    rotate_left
    · refine hX _ _ ⟨s4, D, rfl, ?_⟩
      rw [e4, one (.inr (by
        have h : decide (V.int di.2.1 = V.int di.2.2.1) = true := by simpa using h
        exact V.int.inj (of_decide_eq_true h)))]
    have ne : di.2.1 ≠ di.2.2.1 := fun z => by
      have h : (!decide (V.int di.2.1 = V.int di.2.2.1)) = true := h
      rw [z] at h
      simp at h
    refine ⟨_, rfl, _, rfl, r, us, ds, m, i, di, rfl, SqL.of er4, hR3.same s4, pt, lm5, h9, hdi, kp, ne, fun l ms H5 s5 nl5 el ris mb => ?_⟩
    refine hX _ _ ⟨s4.trans s5, l, rfl, ?_⟩
    rw [el, blk_due pt (by omega) hi ris mb]
  rintro σ5 H5 ⟨s5, D, rfl, eD⟩
  have nt5 := nt.same (s3.trans s5)
  refine ⟨_, rfl, _, rfl, n, l, m, i, ds, rfl, nt5, pt, by omega, by omega, hi, fun F H6 s6 nF eF => ?_⟩
  have eD6 := s6 _ _ eD
  have eF' : H6 F = some (.lst (((blkF ds i).map fun (j : Nat) => (j : Int)).map V.int)) := by rw [eF, ← nI_map]
  have eD' : H6 D = some (.lst (((blkF ds i).map fun (j : Nat) => (j : Int)).map V.int)) := by rw [eD6, ← nI_map]
  refine ⟨_, rfl, _, rfl, rd_eqI (SqL.of eF') (SqL.of eD') ⟨_, rfl, iteF ?_⟩⟩
  refine ⟨_, rfl, .inl ⟨rfl, _, SqL.of eF⟩, _, rfl, F, _, _, rfl, rfl, eF, small1000 ?_, ?_⟩
  · rw [List.length_map]
    have : (blkF ds i).length ≤ (List.range ds.length).length := List.length_filter_le _ _
    rw [List.length_range] at this; omega
  have s7 : Same H5 (upd H6 F (.lst ((blkF ds i).map (fun (j : Nat) => V.int (j : Int)) ++ [.int (i : Int)]))) := s6.change nF
  generalize upd H6 F (.lst ((blkF ds i).map (fun (j : Nat) => V.int (j : Int)) ++ [.int (i : Int)])) = H7 at s7 ⊢
  refine ⟨_, rfl, _, rfl, n, l, m, i, ds, rfl, nt5.same s7, pt, by omega, by omega, hi, fun G H8 s8 nG eG => ?_⟩
  have eG' : H8 G = some (.lst (((blkF ds i).map fun (j : Nat) => (j : Int)).map V.int)) := by rw [eG, ← nI_map]
  have eD8 : H8 D = some (.lst (((blkF ds i).map fun (j : Nat) => (j : Int)).map V.int)) := by rw [(s7.trans s8) _ _ eD, ← nI_map]
  refine ⟨_, rfl, rd_eqI (SqL.of eG') (SqL.of eD8) ⟨_, rfl, iteF ?_⟩⟩
  exact ⟨s3.trans (s5.trans (s7.trans s8)), _, _, _, rfl⟩
end
end K71

set_option Elab.async false
set_option linter.all false
set_option maxHeartbeats 1000000
namespace Blk
open L2
abbrev insL {α : Type} (p : Nat) (x : α) (l : List α) : List α := l.take p ++ x :: l.drop p
def sh (p i : Nat) : Nat := if i < p then i else i + 1
section
variable {α : Type} {p i j : Nat} {x : α} {l : List α}
theorem ins_len (p : Nat) (x : α) (l : List α) : (insL p x l).length = l.length + 1 := by simp [insL]; omega
theorem ins_at (hp : p ≤ l.length) : (insL p x l)[p]? = some x := by
  unfold insL
  rw [List.getElem?_append_right (by rw [List.length_take]; omega), List.length_take, Nat.min_eq_left hp, Nat.sub_self]; rfl
theorem ins_sh (hp : p ≤ l.length) (i : Nat) : (insL p x l)[sh p i]? = l[i]? := by
  unfold insL sh
  by_cases h : i < p
  · rw [if_pos h, List.getElem?_append_left (by rw [List.length_take]; omega), List.getElem?_take, if_pos h]
  · rw [if_neg h, List.getElem?_append_right (by rw [List.length_take]; omega), List.length_take, Nat.min_eq_left hp, show i + 1 - p = (i - p) + 1 by omega, List.getElem?_cons_succ, List.getElem?_drop, show p + (i - p) = i by omega]
theorem sh_or (p j : Nat) : j = p ∨ ∃ i, j = sh p i := by
  unfold sh
  by_cases h : j < p
  · exact .inr ⟨j, by rw [if_pos h]⟩
  · by_cases e : j = p
    · exact .inl e
    · exact .inr ⟨j - 1, by rw [if_neg (by omega)]; omega⟩
theorem sh_inj (h : sh p i = sh p j) : i = j := by unfold sh at h; split at h <;> split at h <;> omega
theorem sh_ne : sh p i ≠ p := by unfold sh; split <;> omega
theorem ins_mem {d : α} (h : d ∈ insL p x l) : d = x ∨ d ∈ l := by
  rcases List.mem_append.mp h with z | z
  · exact .inr (List.mem_of_mem_take z)
  · rcases List.mem_cons.mp z with z | z
    · exact .inl z
    · exact .inr (List.mem_of_mem_drop z)
end
def shl (p : Nat) (l : List (Nat × Nat)) : List (Nat × Nat) := l.map fun e => (sh p e.1, e.2)
theorem shl_pts (p a : Nat) (l : List (Nat × Nat)) : pts a (shl p l) = pts a l := by unfold pts shl; rw [List.map_map]; rfl
theorem shl_rws (p : Nat) (l : List (Nat × Nat)) : rws (shl p l) = (rws l).map (sh p) := by unfold rws shl; rw [List.map_map, List.map_map]; rfl
theorem shl_mem {p : Nat} {l : List (Nat × Nat)} {i : Nat} : sh p i ∈ rws (shl p l) ↔ i ∈ rws l := by
  rw [shl_rws]
  exact ⟨fun h => by obtain ⟨k, hk, e⟩ := List.mem_map.mp h; rw [← sh_inj e]; exact hk, fun h => List.mem_map_of_mem h⟩
theorem shl_out {p : Nat} {l : List (Nat × Nat)} : p ∉ rws (shl p l) := fun h => by
  rw [shl_rws] at h
  obtain ⟨k, _, e⟩ := List.mem_map.mp h
  exact sh_ne e
section
variable {sk : List Sk} {p i j a b c : Nat} {d : Sk} {l : List (Nat × Nat)} {ms : List Int} {μ k k0 : Int}
theorem Jn.ins (hp : p ≤ sk.length) (h : Jn sk i a c) : Jn (insL p d sk) (sh p i) a c := by
  obtain ⟨k, u, v, e, r⟩ := h
  exact ⟨k, u, v, by rw [ins_sh hp]; exact e, r⟩
theorem Wk.ins (hp : p ≤ sk.length) (h : Wk sk a l b) : Wk (insL p d sk) a (shl p l) b := by
  induction h with
  | nil => exact .nil
  | cons j r ih => exact .cons (j.ins hp) ih
theorem Cy.ins (hp : p ≤ sk.length) (h : Cy sk i j) : Cy (insL p d sk) (sh p i) (sh p j) := by
  obtain ⟨a, b, l, h1, h2, h3, h4, h5, h6⟩ := h
  refine ⟨a, b, shl p l, h1.ins hp, h2.ins hp, by rw [shl_pts]; exact h3, h4, fun z => h5 (shl_mem.mp z), ?_⟩
  rcases h6 with h6 | h6
  · exact .inl (by rw [h6])
  · exact .inr (shl_mem.mpr h6)
def AA (sk : List Sk) (ms : List Int) (S : Int → Prop) : Prop := ∀ i j μ, S μ → ms[i]? = some μ → ms[j]? = some μ → i = j ∨ Cy sk i j
theorem AA.out {S : Int → Prop} (h : AA sk ms S) (e : ms.length = sk.length) (hp : p ≤ sk.length) (n : ¬ S k0) : AA (insL p d sk) (insL p k0 ms) S := fun i j μ hS hi hj => by
  have hp' : p ≤ ms.length := by omega
  rcases sh_or p i with rfl | ⟨i, rfl⟩
  · rw [ins_at hp'] at hi
    cases hi
    exact absurd hS n
  rcases sh_or p j with rfl | ⟨j, rfl⟩
  · rw [ins_at hp'] at hj
    cases hj
    exact absurd hS n
  rw [ins_sh hp'] at hi hj
  rcases h i j μ hS hi hj with z | z
  · exact .inl (by rw [z])
  · exact .inr (z.ins hp)
theorem AA.new {S : Int → Prop} (h : AA sk ms S) (e : ms.length = sk.length) (hp : p ≤ sk.length) (n : ∀ i : Nat, ms[i]? ≠ some k0) : AA (insL p d sk) (insL p k0 ms) S := fun i j μ hS hi hj => by
  have hp' : p ≤ ms.length := by omega
  rcases sh_or p i with ei | ⟨i, rfl⟩
  · rcases sh_or p j with ej | ⟨j, rfl⟩
    · exact .inl (by rw [ei, ej])
    · rw [ei, ins_at hp'] at hi
      cases hi
      rw [ins_sh hp'] at hj
      exact absurd hj (n j)
  rw [ins_sh hp'] at hi
  rcases sh_or p j with ej | ⟨j, rfl⟩
  · rw [ej, ins_at hp'] at hj
    cases hj
    exact absurd hi (n i)
  rw [ins_sh hp'] at hj
  rcases h i j μ hS hi hj with z | z
  · exact .inl (by rw [z])
  · exact .inr (z.ins hp)
structure RgW (sk : List Sk) (ms : List Int) (k0 : Int) (a : Nat) (l : List (Nat × Nat)) (b : Nat) : Prop where
  w : Wk sk a l b
  nd : (pts a l).Nodup
  mq : ∀ j : Nat, ms[j]? = some k0 ↔ j ∈ rws l
theorem RgW.zero (h : ∀ j : Nat, ms[j]? ≠ some k0) (a : Nat) : RgW sk ms k0 a [] a := ⟨.nil, by simp [pts], fun j => ⟨fun z => absurd z (h j), fun z => by cases z⟩⟩
theorem RgW.more {y : Nat} (h : RgW sk ms k0 a l b) (e : ms.length = sk.length) (hp : p ≤ sk.length) (dk : d.1 ≠ .pu) (dj : (d.2.1 = b ∧ d.2.2 = y) ∨ (d.2.2 = b ∧ d.2.1 = y)) (ny : y ∉ pts a l) : RgW (insL p d sk) (insL p k0 ms) k0 a (shl p l ++ [(p, y)]) y := by
  have hp' : p ≤ ms.length := by omega
  have w' := h.w.ins (d := d) hp
  refine ⟨w'.app (.cons ⟨d.1, d.2.1, d.2.2, ins_at hp, dk, dj⟩ .nil), ?_, fun j => ?_⟩
  · rw [pts_app' w', shl_pts, List.nodup_append]
    refine ⟨h.nd, by simp [pts], fun x hx z hz => ?_⟩
    have hz : z = y := by simpa [pts] using hz
    rw [hz]; intro q; rw [q] at hx; exact ny hx
  · rw [rws_app, List.mem_append]
    rcases sh_or p j with ej | ⟨j, rfl⟩
    · rw [ej, ins_at hp']
      exact ⟨fun _ => .inr (by simp [rws]), fun _ => rfl⟩
    · rw [ins_sh hp', h.mq j, shl_mem]
      exact ⟨.inl, fun z => z.elim id fun z => by simp [rws] at z; exact absurd z sh_ne⟩
theorem RgW.close (h : RgW sk ms k0 a l b) (e : ms.length = sk.length) (hp : p ≤ sk.length) (dk : d.1 ≠ .pu) (dj : (d.2.1 = b ∧ d.2.2 = a) ∨ (d.2.2 = b ∧ d.2.1 = a)) (ne : a ≠ b) : ∀ i j : Nat, (insL p k0 ms)[i]? = some k0 → (insL p k0 ms)[j]? = some k0 → i = j ∨ Cy (insL p d sk) i j := by
  have hp' : p ≤ ms.length := by omega
  have cy : ∀ j : Nat, (insL p k0 ms)[j]? = some k0 → Cy (insL p d sk) p j := fun j hj => by
    refine ⟨a, b, shl p l, ⟨d.1, d.2.1, d.2.2, ins_at hp, dk, dj⟩, h.w.ins hp, by rw [shl_pts]; exact h.nd, ne, shl_out, ?_⟩
    rcases sh_or p j with ej | ⟨j, rfl⟩
    · exact .inl ej
    · rw [ins_sh hp', h.mq j] at hj
      exact .inr (shl_mem.mpr hj)
  exact fun i j hi hj => .inr ((cy i hi).symm.trans (cy j hj))
theorem RgW.single {q : Nat × Nat} (h : RgW sk ms k0 a [q] b) : ∀ i j : Nat, ms[i]? = some k0 → ms[j]? = some k0 → i = j := fun i j hi hj => by
  have h1 := (h.mq i).mp hi
  have h2 := (h.mq j).mp hj
  simp [rws] at h1 h2
  rw [h1, h2]
def Rho (sk : List Sk) (ms : List Int) (k : Int) (rho : Nat → Nat) : Prop := ∀ (i : Nat) kd u v μ, sk[i]? = some (kd, u, v) → ms[i]? = some μ → kd ≠ Kd.pu → u ≠ v → if μ = k then rho u = u ∧ rho v = v else rho u = rho v
def BB (sk : List Sk) (ms : List Int) : Prop := ∀ k, ∃ rho, Rho sk ms k rho
def BX (sk : List Sk) (ms : List Int) (p0 many : Nat) (k0 : Int) : Prop := (∀ k, k ≠ k0 → ∃ rho, Rho sk ms k rho ∧ ∀ x, many ≤ x → rho x = rho p0) ∧ Rho sk ms k0 (fun x => if x < many then p0 else x)
theorem Rho.ins {rho : Nat → Nat} (h : Rho sk ms k rho) (e : ms.length = sk.length) (hp : p ≤ sk.length) (n : d.1 ≠ .pu → d.2.1 ≠ d.2.2 → if μ = k then rho d.2.1 = d.2.1 ∧ rho d.2.2 = d.2.2 else rho d.2.1 = rho d.2.2) : Rho (insL p d sk) (insL p μ ms) k rho := fun i kd u v μ' h1 h2 h3 h4 => by
  have hp' : p ≤ ms.length := by omega
  rcases sh_or p i with ei | ⟨i, rfl⟩
  · rw [ei, ins_at hp] at h1
    rw [ei, ins_at hp'] at h2
    cases h1
    cases h2
    exact n h3 h4
  · rw [ins_sh hp] at h1
    rw [ins_sh hp'] at h2
    exact h i kd u v μ' h1 h2 h3 h4
theorem BB.bx {p0 many : Nat} (h : BB sk ms) (lt : ∀ d ∈ sk, d.2.1 < many ∧ d.2.2 < many) (n : ∀ j : Nat, ms[j]? ≠ some k0) (hp : p0 < many) : BX sk ms p0 many k0 := by
  refine ⟨fun k _ => ?_, fun i kd u v μ h1 h2 _ _ => ?_⟩
  · obtain ⟨rho, hr⟩ := h k
    refine ⟨fun x => if x < many then rho x else rho p0, fun i kd u v μ h1 h2 h3 h4 => ?_, fun x hx => ?_⟩
    · have l := lt _ (List.mem_of_getElem? h1)
      have := hr i kd u v μ h1 h2 h3 h4
      have l1 : u < many := l.1
      have l2 : v < many := l.2
      simp only [if_pos l1, if_pos l2]
      exact this
    · show (if x < many then rho x else rho p0) = if p0 < many then rho p0 else rho p0
      rw [if_neg (by omega), if_pos hp]
  · have l := lt _ (List.mem_of_getElem? h1)
    have l1 : u < many := l.1
    have l2 : v < many := l.2
    rw [if_neg (fun z => n i (by rw [h2, z]))]
    simp only [if_pos l1, if_pos l2]
theorem BX.put {p0 many : Nat} (h : BX sk ms p0 many k0) (e : ms.length = sk.length) (hp : p ≤ sk.length) (h0 : p0 < many) (h1 : d.2.1 = p0 ∨ many ≤ d.2.1) (h2 : d.2.2 = p0 ∨ many ≤ d.2.2) : BX (insL p d sk) (insL p k0 ms) p0 many k0 := by
  refine ⟨fun k hk => ?_, h.2.ins e hp fun _ _ => ?_⟩
  · obtain ⟨rho, a, b⟩ := h.1 k hk
    refine ⟨rho, a.ins e hp fun _ _ => ?_, b⟩
    rw [if_neg (Ne.symm hk)]
    have q : ∀ x, (x = p0 ∨ many ≤ x) → rho x = rho p0 := fun x hx => hx.elim (fun z => by rw [z]) (b x)
    rw [q _ h1, q _ h2]
  · rw [if_pos rfl]
    have q : ∀ x, (x = p0 ∨ many ≤ x) → (if x < many then p0 else x) = x := fun x hx => by
      split
      · rcases hx with z | z
        · exact z.symm
        · omega
      · rfl
    exact ⟨q _ h1, q _ h2⟩
theorem BX.bb {p0 many : Nat} (h : BX sk ms p0 many k0) : BB sk ms := fun k => by
  by_cases c : k = k0
  · subst c; exact ⟨_, h.2⟩
  · obtain ⟨rho, a, _⟩ := h.1 k c
    exact ⟨rho, a⟩
theorem BB.zero : BB [] [] := fun k => ⟨id, fun i kd u v μ h => by simp at h⟩
theorem rho_way {rho : Nat → Nat} (h : Rho sk ms μ rho) (e : ms.length = sk.length) (rb : rho b = b) {y : Nat} (w : Wk sk y l b) : ∀ x0, (pts y l).Nodup → rho y = x0 → (y = x0 ∨ x0 ∉ pts y l) → y = x0 ∧ ∀ j ∈ rws l, ms[j]? = some μ := by
  induction w with
  | nil => exact fun x0 _ h1 _ => ⟨by rw [← h1]; exact rb.symm, fun j hj => by cases hj⟩
  | @cons y z b k l j r ih =>
    intro x0 nd h1 h2
    have nd' : (y :: pts z l).Nodup := nd
    obtain ⟨n1, n2⟩ := List.nodup_cons.mp nd'
    have zin : z ∈ pts z l := by simp [pts]
    have yz : y ≠ z := fun q => n1 (by rw [q]; exact zin)
    obtain ⟨kd, u, v, q1, q2, q3⟩ := j
    have kl : k < ms.length := by rw [e]; exact (List.getElem?_eq_some_iff.mp q1).1
    have uv : u ≠ v := fun q => yz (by omega)
    have hr := h k kd u v _ q1 (List.getElem?_eq_getElem kl) q2 uv
    by_cases c : ms[k] = μ
    · rw [if_pos c] at hr
      have hy : rho y = y ∧ rho z = z := by
        rcases q3 with ⟨rfl, rfl⟩ | ⟨rfl, rfl⟩
        · exact hr
        · exact ⟨hr.2, hr.1⟩
      refine ⟨by rw [← h1]; exact hy.1.symm, fun j hj => ?_⟩
      rcases List.mem_cons.mp hj with hj | hj
      · rw [show j = k from hj, List.getElem?_eq_getElem kl, c]
      · exact (ih rb z n2 hy.2 (.inl rfl)).2 j hj
    · rw [if_neg c] at hr
      have hz : rho z = x0 := by
        rw [← h1]
        rcases q3 with ⟨rfl, rfl⟩ | ⟨rfl, rfl⟩
        · exact hr.symm
        · exact hr
      have no : x0 ∉ pts z l := by
        rcases h2 with h2 | h2
        · rw [← h2]; exact n1
        · exact fun q => h2 (List.mem_cons_of_mem _ q)
      have := (ih rb x0 n2 hz (.inr no)).1
      exact absurd (this ▸ zin) no
theorem BB.cy (h : BB sk ms) (e : ms.length = sk.length) (hi : ms[i]? = some μ) (c : Cy sk i j) : ms[j]? = some μ := by
  obtain ⟨a, b, l, ⟨kd, u, v, q1, q2, q3⟩, w, nd, ne, ni, hj⟩ := c
  obtain ⟨rho, hr⟩ := h μ
  have r := hr i kd u v μ q1 hi q2 (fun z => ne (by omega))
  rw [if_pos rfl] at r
  have ra : rho a = a ∧ rho b = b := by
    rcases q3 with ⟨rfl, rfl⟩ | ⟨rfl, rfl⟩
    · exact ⟨r.2, r.1⟩
    · exact r
  rcases hj with rfl | hj
  · exact hi
  · exact (rho_way hr e ra.2 w a nd ra.1 (.inl rfl)).2 j hj
theorem marks_iff {m : Nat} (hm : ∀ d ∈ sk, d.2.1 < m ∧ d.2.2 < m) (m20 : m ≤ 20) (e : ms.length = sk.length) (ha : AA sk ms fun _ => True) (hb : BB sk ms) (hi : i < sk.length) (hj : j < sk.length) : mkb sk i = mkb sk j ↔ ms[i]? = ms[j]? := by
  rw [mkb_iff hm m20 hi hj]
  have gi : ms[i]? = some ms[i] := List.getElem?_eq_getElem (by omega)
  constructor
  · rintro (rfl | c)
    · rfl
    · rw [gi, hb.cy e gi c]
  · intro h
    exact ha i j _ trivial gi (by rw [← h]; exact gi)
end
end Blk

set_option Elab.async false
set_option linter.all false
set_option maxRecDepth 100000
set_option maxHeartbeats 4000000
namespace K71
open PySem L2 Shp
section
variable {P : Program} {w : World} {K : PySem.W.Frag} {mg : Str → Option Value} {base : Heap} {f g1 g2 g3 g4 g5 g6 g7 g8 : Addr} {fd gd1 gd2 gd3 gd4 gd5 gd6 gd7 gd8 : FuncData} {CX : CXT}
variable {CR : Addr} {CK : Kd → Addr} {fW fJ fT fS : Kd → Addr} {fdW fdJ fdT fdS : Kd → FuncData}
theorem Rts.take {K : PySem.W.Frag} {H : Hp} : ∀ {xs : List V} {ds : List RD} (n : Nat), Rts K H xs ds → Rts K H (xs.take n) (ds.take n)
  | _, _, 0, _ => .nil
  | _, _, _ + 1, .nil => .nil
  | _, _, n + 1, .cons h f q => .cons h f (Rts.take n q)
theorem Rts.drop {K : PySem.W.Frag} {H : Hp} : ∀ {xs : List V} {ds : List RD} (n : Nat), Rts K H xs ds → Rts K H (xs.drop n) (ds.drop n)
  | _, _, 0, h => h
  | _, _, _ + 1, .nil => .nil
  | _, _, n + 1, .cons _ _ q => Rts.drop n q
theorem at3 {r : Int} (h0 : 0 ≤ r) (h3 : r < 3) : ∃ k : Kd, k ≠ .pu ∧ atI [V.str "piece", .str "hold", .str "piece"] r = some (.str k.wd) := by
  have : r = 0 ∨ r = 1 ∨ r = 2 := by omega
  rcases this with rfl | rfl | rfl
  · exact ⟨.pc, by decide, rfl⟩
  · exact ⟨.ho, by decide, rfl⟩
  · exact ⟨.pc, by decide, rfl⟩
theorem at2w (b : Bool) : ∃ k : Kd, (b = false → k = .pu) ∧ atI [V.str "push", .str "piece"] (if b then 1 else 0) = some (.str k.wd) := by
  cases b
  · exact ⟨.pu, fun _ => rfl, rfl⟩
  · exact ⟨.pc, fun h => (by cases h), rfl⟩
@[irreducible] def spPut (K : PySem.W.Frag) : Sp := fun vs H Q _ => ∃ (r a e : Addr) (c μ i j : Int) (us : List V) (ds : List RD) (ms : List Int), vs = [.ref r, .ref a, .int c, .int μ, .ref e] ∧ r ≠ a ∧ H r = some (.lst us) ∧ H a = some (.lst (ms.map V.int)) ∧ ms.length = ds.length ∧ Rts K H us ds ∧ ds.length ≤ 60 ∧ SqT K H e [.int i, .int j] ∧
  ∀ y vs' (d : RD) H' H'', y ≤ ds.length → Same H H' → d.2.2.2 = (3, 2) → (0 ≤ μ → d.1 ≠ .pu) → (μ < 0 → d.1 = .pu ∨ i = j) → ((d.2.1 = i ∧ d.2.2.1 = j) ∨ (d.2.2.1 = i ∧ d.2.1 = j)) → H'' = upd (upd H' r (.lst vs')) a (.lst ((Blk.insL y μ ms).map V.int)) → Rts K H'' vs' (Blk.insL y d ds) → Q .non H''
abbrev sPut : Stmt := top 44
theorem scPut : FnScope ["_law_rows", "_law_marks", "_law_cell", "_law_mark", "_law_ends", "_law_word", "_law_at"] ["_law_rows", "_law_marks", "_law_cell", "_law_mark", "_law_ends"] (defScope sPut) := ⟨rfl, rfl, rfl, by decide +kernel, rfl, by decide +kernel, by decide +kernel⟩
theorem ok_put {dV : Value} (F : FunD K "_law_put" "_law_put" sPut dV f fd)
    (bi : mg "int" = none) (ml : mg "len" = none)
    (G1 : FnOk P w K mg base CX0 1 g1 gd1 ["_law_cell", "_law_turn", "_law_many"] spMix) (b1 : Binds K gd1 ["_law_cell", "_law_turn", "_law_many"] []) (k1 : PySem.W.keepIn K (.ref g1) = true) (m1 : mg "_law_mix" = some (.ref g1)) :
    FnOk P w K mg base CX 2 f fd ["_law_rows", "_law_marks", "_law_cell", "_law_mark", "_law_ends"] (spPut K) := by
  refine F.ok scPut (fun vs H Q E h => ?_) (fun cdv A outer s H vs Q E hr h => ?_)
  · unfold spPut at h
    obtain ⟨r, a, e, c, μ, i, j, us, ds, ms, rfl, ra, er, ea, lm, hR, h60, he, q⟩ := h
    rfl
  unfold spPut at h
  obtain ⟨r, a, e, c, μ, i, j, us, ds, ms, rfl, ra, er, ea, lm, hR, h60, he, q⟩ := h
  refine ⟨_, (pss_cons (ps_set (i := 5) scPut.nd rfl (Or.inl rfl) (pe_ix ix_list (pe_lst (pa_cons pe_str (pa_cons pe_str (pa_cons pe_str pa_nil)))) (pe_call G1 hr rfl m1 k1 b1 .nil pass0 (pa_cons (pv 2) (pa_cons pe_int (pa_cons pe_int pa_nil)))) (fun _ _ => rfl)))
    (pss_cons (ps_if (pt_cmpR op_lt (pv 3) pe_int (nomark _)) (pss_one (ps_set (i := 5) scPut.nd rfl (Or.inl rfl) (pe_ix ix_list (pe_lst (pa_cons pe_str (pa_cons pe_str pa_nil))) (pe_callTy call_int1 rfl bi PyProof.Rows.boot_int (pa_cons (pe_cmpR op_eq (pe_ix ix_tup (pv 4) pe_int (fun _ _ => rfl)) (pe_ix ix_tup (pv 4) pe_int (fun _ _ => rfl)) (nomark _)) pa_nil)) (fun _ _ => rfl)))) pss_nil)
    (pss_cons (ps_if (pt_cmpR op_eq (pe_call G1 hr rfl m1 k1 b1 .nil pass0 (pa_cons (pv 2) (pa_cons pe_int (pa_cons pe_int pa_nil)))) pe_int (nomark _)) (pss_one (ps_set (i := 4) scPut.nd rfl (Or.inl rfl) (pe_tup (pa_cons (pe_ix ix_tup (pv 4) pe_int (fun _ _ => rfl)) (pa_cons (pe_ix ix_tup (pv 4) pe_int (fun _ _ => rfl)) pa_nil))))) pss_nil)
    (pss_cons (ps_set (i := 6) scPut.nd rfl (Or.inl rfl) (pe_call G1 hr rfl m1 k1 b1 .nil pass0 (pa_cons (pv 2) (pa_cons pe_int (pa_cons (pe_op op_add (pe_callB call_len_seq rfl ml PySem.boot_len (pa_cons (pv 0) pa_nil)) pe_int) pa_nil)))))
    (pss_cons (ps_expr (pe_bm PySem.F.plainAttrs_list PySem.F.slot_list_insert PySem.F.type_list_insert mt_insert (pv 0) (pa_cons (pv 6) (pa_cons (pe_tup (pa_cons (pv 5) (pa_cons (pe_ix ix_tup (pv 4) pe_int (fun _ _ => rfl)) (pa_cons (pe_ix ix_tup (pv 4) pe_int (fun _ _ => rfl)) (pa_cons (pe_tup (pa_cons pe_int (pa_cons pe_int pa_nil))) pa_nil))))) pa_nil))))
    (pss_one (ps_expr (pe_bm PySem.F.plainAttrs_list PySem.F.slot_list_insert PySem.F.type_list_insert mt_insert (pv 1) (pa_cons (pv 6) (pa_cons (pv 3) pa_nil)))))))))), ?_⟩
  have lu := hR.length
  try dsimp only
  refine cut2 (fun σ' H' => Same H H' ∧ ∃ (k : Kd), σ' = [some (.ref r), some (.ref a), some (.int c), some (.int μ), some (.ref e), some (.str k.wd), none] ∧ (0 ≤ μ → k ≠ .pu) ∧ (μ < 0 → k = .pu ∨ i = j)) (fun X hX => ?_) ?_
  · refine ⟨by show 3 ≤ sizeLine; decide, fun L hL => ?_⟩
    have s1 := same_new hL (.lst [V.str "piece", .str "hold", .str "piece"])
    have e1 : upd H L (.lst [V.str "piece", .str "hold", .str "piece"]) L = some (.lst [V.str "piece", .str "hold", .str "piece"]) := upd_same
    generalize upd H L (.lst [V.str "piece", .str "hold", .str "piece"]) = H1 at s1 e1 ⊢
    refine ⟨_, rfl, c, 0, 3, rfl, by decide, by decide, by decide, fun y H2 y0 y3 s2 => ?_⟩
    obtain ⟨k, kp, ek⟩ := at3 y0 y3
    refine ⟨L, _, y, _, rfl, rfl, SqL.of (s2 _ _ e1), ek, ?_⟩
    have s12 := s1.trans s2
    refine ⟨_, rfl, _, _, rfl, rfl, _, rfl, ite2 (fun h => ?_) (fun h => ?_)⟩
    · have h : μ < 0 := by simpa using h
      refine ⟨by show 2 ≤ sizeLine; decide, fun M hM => ?_⟩
      have s3 := same_new hM (.lst [V.str "push", .str "piece"])
      have e3 : upd H2 M (.lst [V.str "push", .str "piece"]) M = some (.lst [V.str "push", .str "piece"]) := upd_same
      generalize upd H2 M (.lst [V.str "push", .str "piece"]) = H3 at s3 e3 ⊢
      have he3 := (s12.trans s3).seqT he
      refine ⟨_, rfl, e, _, _, _, rfl, rfl, he3, rfl, _, rfl, e, _, _, _, rfl, rfl, he3, rfl, rfl, .inr ⟨_, rfl, ?_⟩⟩
      obtain ⟨k', kq, ek'⟩ := at2w (decide (V.int i = V.int j))
      refine ⟨M, _, _, _, rfl, rfl, SqL.of e3, ek', ?_⟩
      refine hX _ _ ⟨s12.trans s3, k', rfl, fun z => absurd h (by omega), fun _ => ?_⟩
      by_cases hij : i = j
      · exact .inr hij
      · exact .inl (kq (decide_eq_false fun z => hij (V.int.inj z)))
    · have h : ¬ μ < 0 := by simpa using h
      exact hX _ _ ⟨s12, k, rfl, fun _ => kp, fun z => absurd z h⟩
  rintro σ1 H1 ⟨s1, k, rfl, k1', k2'⟩
  try dsimp only
  refine cut1 (fun σ' H' => Same H1 H' ∧ ∃ (e' : Addr) (i' j' : Int), σ' = [some (.ref r), some (.ref a), some (.int c), some (.int μ), some (.ref e'), some (.str k.wd), none] ∧ SqT K H' e' [.int i', .int j'] ∧ ((i' = i ∧ j' = j) ∨ (j' = i ∧ i' = j))) (fun X hX => ?_) ?_
  · refine ⟨_, rfl, c, 2, 2, rfl, by decide, by decide, by decide, fun x H2 x1 x2 s2 => ⟨rfl, _, rfl, ite2 (fun _ => ?_) (fun _ => ?_)⟩⟩
    · refine ⟨_, rfl, e, _, _, _, rfl, rfl, (s1.trans s2).seqT he, rfl, _, rfl, e, _, _, _, rfl, rfl, (s1.trans s2).seqT he, rfl, by show 2 ≤ sizeLine; decide, fun e2 he2 => ?_⟩
      have s3 := same_new he2 (.tup [.int j, .int i])
      exact hX _ _ ⟨s2.trans s3, e2, j, i, rfl, SqT.of upd_same, .inr ⟨rfl, rfl⟩⟩
    · exact hX _ _ ⟨s2, e, i, j, rfl, (s1.trans s2).seqT he, .inl ⟨rfl, rfl⟩⟩
  rintro σ2 H2 ⟨s2, e', i', j', rfl, he', hij⟩
  have s02 := s1.trans s2
  have er2 := s02 _ _ er
  refine ⟨_, rfl, _, rfl, r, us, rfl, .inl (SqL.of er2), _, _, rfl, rfl, c, 3, (us.length : Int) + 1, rfl, by decide, by decide, by omega, fun y' H3 y0 y1 s3 => ?_⟩
  obtain ⟨y, rfl⟩ : ∃ y : Nat, y' = (y : Int) := ⟨y'.toNat, by omega⟩
  have he3 := s3.seqT he'
  have er3 := s3 _ _ er2
  refine ⟨_, rfl, .inl ⟨rfl, _, SqL.of er3⟩, _, rfl, _, rfl, _, rfl, e', _, _, _, rfl, rfl, he3, rfl, _, rfl, e', _, _, _, rfl, rfl, he3, rfl, by show 2 ≤ sizeLine; decide, fun zz hzz => ?_⟩
  have s9 := same_new hzz (.tup [.int 3, .int 2])
  have f9 : Fq K (upd H3 zz (.tup [.int 3, .int 2])) zz (3, 2) := Fq.of upd_same
  generalize upd H3 zz (.tup [.int 3, .int 2]) = H9 at s9 f9 ⊢
  refine ⟨by show 4 ≤ sizeLine; decide, fun t ht => ?_⟩
  have s4 := same_new ht (.tup [.str k.wd, .int i', .int j', .ref zz])
  have e4 : SqT K (upd H9 t (.tup [.str k.wd, .int i', .int j', .ref zz])) t [.str k.wd, .int i', .int j', .ref zz] := SqT.of upd_same
  generalize upd H9 t (.tup [.str k.wd, .int i', .int j', .ref zz]) = H4 at s4 e4 ⊢
  have s04 := s02.trans (s3.trans (s9.trans s4))
  have er4 := s04 _ _ er
  have ea4 := s04 _ _ ea
  refine ⟨r, us, y, _, .ref t, rfl, rfl, rfl, by omega, er4, small1000 (by omega), ?_⟩
  have ea5 : upd H4 r (.lst (us.take y ++ .ref t :: us.drop y)) a = some (.lst (ms.map V.int)) := by rw [upd_ne (Ne.symm ra)]; exact ea4
  refine ⟨_, rfl, .inl ⟨rfl, _, SqL.of ea5⟩, _, rfl, _, rfl, a, _, y, _, .int μ, rfl, rfl, rfl, by rw [List.length_map]; omega, ea5, small1000 (by rw [List.length_map]; omega), ?_⟩
  refine q y (us.take y ++ .ref t :: us.drop y) (k, i', j', (3, 2)) H4 _ (by omega) s04 rfl k1' k2' hij ?_ ?_
  · unfold Blk.insL
    rw [List.map_append, List.map_cons, List.map_take, List.map_drop]
  · exact Rts.upd ea5 (Rts.upd er4 ((Rts.take y (hR.same s04)).app (.cons e4 (s4.fq f9) (Rts.drop y (hR.same s04)))))
end
end K71

set_option Elab.async false
set_option linter.all false
set_option maxHeartbeats 1000000
namespace Blk
open L2
section
variable {sk : List Sk} {p many k p0 j b : Nat} {d : Sk} {ms : List Int}
theorem AA.mono {S S' : Int → Prop} (h : AA sk ms S) (hs : ∀ μ, S' μ → S μ) : AA sk ms S' := fun i j μ hS => h i j μ (hs μ hS)
theorem BB.odd {μ : Int} (h : BB sk ms) (e : ms.length = sk.length) (hp : p ≤ sk.length) (h1 : d.1 = .pu ∨ d.2.1 = d.2.2) : BB (insL p d sk) (insL p μ ms) := fun k => by
  obtain ⟨rho, a⟩ := h k
  exact ⟨rho, a.ins e hp fun a b => (h1.elim a b).elim⟩
structure Ca (sk : List Sk) (ms : List Int) (many k : Nat) : Prop where
  len : ms.length = sk.length
  c5 : sk.length ≤ 5 * k
  lt : ∀ d ∈ sk, d.2.1 < many ∧ d.2.2 < many
  mr : ∀ μ ∈ ms, -(k : Int) ≤ μ ∧ μ < k
  aa : AA sk ms fun _ => True
  bb : BB sk ms
structure Cb (sk : List Sk) (ms : List Int) (many k : Nat) : Prop where
  len : ms.length = sk.length
  c5 : sk.length ≤ 5 * k + 4
  lt : ∀ d ∈ sk, d.2.1 < many ∧ d.2.2 < many
  mr : ∀ μ ∈ ms, -(k : Int) ≤ μ ∧ μ ≤ k
  aa : AA sk ms fun _ => True
  bb : BB sk ms
structure Rg (sk : List Sk) (ms : List Int) (many k p0 j b : Nat) : Prop where
  len : ms.length = sk.length
  c5 : sk.length ≤ 5 * k + j
  lt : ∀ d ∈ sk, d.2.1 < many + j ∧ d.2.2 < many + j
  mr : ∀ μ ∈ ms, -(k : Int) ≤ μ ∧ μ ≤ k
  aa : AA sk ms fun μ => μ ≠ (k : Int)
  bx : BX sk ms p0 many (k : Int)
  w : ∃ l, RgW sk ms (k : Int) p0 l b ∧ l.length = j ∧ ∀ x ∈ pts p0 l, x = p0 ∨ (many ≤ x ∧ x < many + j)
  hp : p0 < many
  hb : b = p0 ∧ j = 0 ∨ many ≤ b ∧ b + 1 = many + j
theorem Ca.zero : Ca [] [] 1 0 := ⟨rfl, Nat.le_refl _, fun d h => (by cases h), fun μ h => (by cases h), fun i j μ _ h => (by simp at h), BB.zero⟩
theorem Ca.none (h : Ca sk ms many k) (j : Nat) : ms[j]? ≠ some (k : Int) := fun e => by
  have := (h.mr _ (List.mem_of_getElem? e)).2
  omega
theorem Ca.rg (h : Ca sk ms many k) (hp : p0 < many) : Rg sk ms many k p0 0 p0 :=
  ⟨h.len, h.c5, h.lt, fun μ hm => ⟨(h.mr μ hm).1, by have := (h.mr μ hm).2; omega⟩, h.aa.mono fun _ _ => trivial, h.bb.bx h.lt h.none hp, ⟨[], RgW.zero h.none p0, rfl, fun x hx => by simp [pts] at hx; exact .inl hx⟩, hp, .inl ⟨rfl, rfl⟩⟩
theorem ins_mk {lo hi μ : Int} (h : ∀ x ∈ ms, lo ≤ x ∧ x ≤ hi) (h1 : lo ≤ μ) (h2 : μ ≤ hi) : ∀ x ∈ insL p μ ms, lo ≤ x ∧ x ≤ hi := fun x hx => by
  rcases ins_mem hx with z | z
  · rw [z]; exact ⟨h1, h2⟩
  · exact h x z
theorem ins_lt {m : Nat} (h : ∀ d ∈ sk, d.2.1 < m ∧ d.2.2 < m) (h1 : d.2.1 < m) (h2 : d.2.2 < m) : ∀ x ∈ insL p d sk, x.2.1 < m ∧ x.2.2 < m := fun x hx => by
  rcases ins_mem hx with z | z
  · rw [z]; exact ⟨h1, h2⟩
  · exact h x z
theorem Rg.b2 (h : Rg sk ms many k p0 j b) : b = p0 ∨ many ≤ b := h.hb.elim (fun z => .inl z.1) fun z => .inr z.1
theorem Rg.blt (h : Rg sk ms many k p0 j b) : b < many + j := by
  have := h.hp
  rcases h.hb with ⟨h1, h2⟩ | ⟨h1, h2⟩ <;> omega
theorem Rg.put (h : Rg sk ms many k p0 j b) (hp : p ≤ sk.length) (dk : d.1 ≠ .pu) (dj : (d.2.1 = b ∧ d.2.2 = many + j) ∨ (d.2.2 = b ∧ d.2.1 = many + j)) : Rg (insL p d sk) (insL p (k : Int) ms) many k p0 (j + 1) (many + j) := by
  have b2 := h.b2
  have bl := h.blt
  have h0 := h.hp
  obtain ⟨l, w, wl, wp⟩ := h.w
  refine ⟨by rw [ins_len, ins_len, h.len], by rw [ins_len]; have := h.c5; omega, ins_lt (fun x hx => ?_) ?_ ?_, ins_mk h.mr (by omega) (by omega), h.aa.out h.len hp (fun z => z rfl), h.bx.put h.len hp h0 ?_ ?_, ⟨_, w.more h.len hp dk dj ?_, by simp [shl, wl], fun x hx => ?_⟩, h0, .inr ⟨by omega, by omega⟩⟩
  · have := h.lt x hx; omega
  · omega
  · omega
  · rcases dj with ⟨e1, e2⟩ | ⟨e1, e2⟩ <;> rcases b2 with z | z <;> omega
  · rcases dj with ⟨e1, e2⟩ | ⟨e1, e2⟩ <;> rcases b2 with z | z <;> omega
  · intro z
    have := wp _ z
    omega
  · rw [pts_app' (w.w.ins (d := d) hp), shl_pts] at hx
    rcases List.mem_append.mp hx with z | z
    · have := wp x z; omega
    · have z : x = many + j := by simpa [pts] using z
      omega
theorem Rg.close (h : Rg sk ms many k p0 j b) (hj : 1 ≤ j) (j3 : j ≤ 3) (hp : p ≤ sk.length) (dk : d.1 ≠ .pu) (dj : (d.2.1 = b ∧ d.2.2 = p0) ∨ (d.2.2 = b ∧ d.2.1 = p0)) : Cb (insL p d sk) (insL p (k : Int) ms) (many + j) k := by
  have b2 := h.b2
  have bl := h.blt
  have h0 := h.hp
  obtain ⟨l, w, wl, wp⟩ := h.w
  have ne : p0 ≠ b := by rcases h.hb with ⟨_, z⟩ | ⟨z, _⟩ <;> omega
  refine ⟨by rw [ins_len, ins_len, h.len], by rw [ins_len]; have := h.c5; omega, ins_lt h.lt (by omega) (by omega), ins_mk h.mr (by omega) (by omega), fun i i' μ _ hi hi' => ?_, (h.bx.put h.len hp h0 ?_ ?_).bb⟩
  · by_cases e : μ = (k : Int)
    · subst e
      exact w.close h.len hp dk dj ne i i' hi hi'
    · exact h.aa.out h.len hp (fun z => z rfl) i i' μ e hi hi'
  · rcases dj with ⟨e1, e2⟩ | ⟨e1, e2⟩ <;> rcases b2 with z | z <;> omega
  · rcases dj with ⟨e1, e2⟩ | ⟨e1, e2⟩ <;> rcases b2 with z | z <;> omega
theorem Rg.one (h : Rg sk ms many k p0 1 b) : Cb sk ms (many + 1) k := by
  obtain ⟨l, w, wl, wp⟩ := h.w
  refine ⟨h.len, by have := h.c5; omega, h.lt, h.mr, fun i i' μ _ hi hi' => ?_, h.bx.bb⟩
  by_cases e : μ = (k : Int)
  · subst e
    match l, wl, w with
    | [q], _, w => exact .inl (w.single i i' hi hi')
  · exact h.aa i i' μ e hi hi'
theorem Cb.odd (h : Cb sk ms many k) (hp : p ≤ sk.length) (hd : d.1 = .pu ∨ d.2.1 = d.2.2) (h1 : d.2.1 < many) (h2 : d.2.2 < many) : Ca (insL p d sk) (insL p (-1 - (k : Int)) ms) many (k + 1) := by
  refine ⟨by rw [ins_len, ins_len, h.len], by rw [ins_len]; have := h.c5; omega, ins_lt h.lt h1 h2, fun μ hm => ?_, h.aa.new h.len hp fun i e => ?_, h.bb.odd h.len hp hd⟩
  · rcases ins_mem hm with z | z
    · omega
    · have := h.mr μ z; omega
  · have := h.mr _ (List.mem_of_getElem? e)
    omega
theorem Cb.go (h : Cb sk ms many k) : Ca sk ms many (k + 1) := ⟨h.len, by have := h.c5; omega, h.lt, fun μ hm => by have := h.mr μ hm; omega, h.aa, h.bb⟩
end
end Blk

set_option Elab.async false
set_option linter.all false
set_option maxRecDepth 100000
set_option maxHeartbeats 4000000
namespace K71
open PySem L2 Shp
section
variable {P : Program} {w : World} {K : PySem.W.Frag} {mg : Str → Option Value} {base : Heap} {f g1 g2 g3 g4 g5 g6 g7 g8 : Addr} {fd gd1 gd2 gd3 gd4 gd5 gd6 gd7 gd8 : FuncData} {CX : CXT}
variable {CR : Addr} {CK : Kd → Addr} {fW fJ fT fS : Kd → Addr} {fdW fdJ fdT fdS : Kd → FuncData}
def Rws (K : PySem.W.Frag) (H : Hp) (r a : Addr) (ds : List RD) (ms : List Int) : Prop := ∃ us, H r = some (.lst us) ∧ H a = some (.lst (ms.map V.int)) ∧ Rts K H us ds ∧ ∀ d ∈ ds, d.2.2.2 = (3, 2) ∧ 0 ≤ d.2.1 ∧ 0 ≤ d.2.2.1
theorem Rws.same {K : PySem.W.Frag} {H H' : Hp} {r a : Addr} {ds : List RD} {ms : List Int} (h : Rws K H r a ds ms) (s : Same H H') : Rws K H' r a ds ms := by
  obtain ⟨us, h1, h2, h3, h4⟩ := h
  exact ⟨us, s _ _ h1, s _ _ h2, h3.same s, h4⟩
theorem skl_ins (y : Nat) (d : RD) (ds : List RD) : skl (Blk.insL y d ds) = Blk.insL y (d.1, d.2.1.toNat, d.2.2.1.toNat) (skl ds) := by
  unfold skl Blk.insL
  rw [List.map_append, List.map_cons, List.map_take, List.map_drop]
theorem put_call {K : PySem.W.Frag} {H0 H : Hp} {r a e : Addr} {c μ i j : Int} {ds : List RD} {ms : List Int} {Q : VK} {E : XK} (ra : r ≠ a) (W : Rws K H r a ds ms) (lm : ms.length = (skl ds).length) (h60 : (skl ds).length ≤ 60) (i0 : 0 ≤ i) (j0 : 0 ≤ j) (he : SqT K H e [.int i, .int j]) (nr : H0 r = none) (na : H0 a = none) (s0 : Same H0 H)
    (q : ∀ y (d : Sk) ds' H', y ≤ (skl ds).length → Same H0 H' → skl ds' = Blk.insL y d (skl ds) → Rws K H' r a ds' (Blk.insL y μ ms) → (0 ≤ μ → d.1 ≠ .pu) → (μ < 0 → d.1 = .pu ∨ d.2.1 = d.2.2) → ((d.2.1 = i.toNat ∧ d.2.2 = j.toNat) ∨ (d.2.2 = i.toNat ∧ d.2.1 = j.toNat)) → Q .non H') : spPut K [.ref r, .ref a, .int c, .int μ, .ref e] H Q E := by
  obtain ⟨us, h1, h2, h3, h4⟩ := W
  rw [sk_len] at lm h60
  unfold spPut
  refine ⟨r, a, e, c, μ, i, j, us, ds, ms, rfl, ra, h1, h2, lm, h3, h60, he, fun y vs' d H' H'' hy s hd k1 k2 ends eH hR => ?_⟩
  refine q y (d.1, d.2.1.toNat, d.2.2.1.toNat) (Blk.insL y d ds) H'' (by rw [sk_len]; exact hy) ?_ (skl_ins y d ds) ⟨vs', ?_, ?_, hR, fun x hx => ?_⟩ k1 (fun z => ?_) ?_
  · rw [eH]; exact ((s0.trans s).change nr).change na
  · rw [eH, upd_ne ra]; exact upd_same
  · rw [eH]; exact upd_same
  · rcases Blk.ins_mem hx with z | z
    · rw [z]; exact ⟨hd, by omega, by omega⟩
    · exact h4 x z
  · rcases k2 z with z | z
    · exact .inl z
    · refine .inr ?_
      show d.2.1.toNat = d.2.2.1.toNat
      omega
  · show (d.2.1.toNat = _ ∧ d.2.2.1.toNat = _) ∨ (d.2.2.1.toNat = _ ∧ d.2.1.toNat = _)
    rcases ends with ⟨z1, z2⟩ | ⟨z1, z2⟩
    · exact .inl ⟨by rw [z1], by rw [z2]⟩
    · exact .inr ⟨by rw [z1], by rw [z2]⟩
def spRgp (K : PySem.W.Frag) : Sp := fun vs H Q _ => ∃ (a0 : Addr) (ns : List Int), vs = [.ref a0] ∧ SqL K H a0 (ns.map V.int) ∧ ns.length ≤ 63 ∧
  ∀ t r a (m k : Nat) ds ms H', Same H H' → SqT K H' t [.int (m : Int), .ref r, .ref a] → Rws K H' r a ds ms → 1 ≤ m → m ≤ 20 → k ≤ 5 → Blk.Ca (skl ds) ms m k → Q (.ref t) H'
abbrev sRgp : Stmt := top 45
theorem scRgp : FnScope ["_law_script", "_law_rows", "_law_marks", "_law_many", "_law_k", "_law_cell", "_law_size", "_law_last", "_law_first", "_law_new", "_law_j"] ["_law_script"] (defScope sRgp) := ⟨rfl, rfl, rfl, by decide +kernel, rfl, by decide +kernel, by decide +kernel⟩
theorem ok_rgp {dV : Value} (F : FunD K "_law_rings_put" "_law_rings_put" sRgp dV f fd)
    (mr : mg "range" = none) (ml : mg "len" = none) (mm : mg "min" = none) (mx : mg "max" = none)
    (G1 : FnOk P w K mg base CX0 1 g1 gd1 ["_law_cell", "_law_turn", "_law_many"] spMix) (b1 : Binds K gd1 ["_law_cell", "_law_turn", "_law_many"] []) (k1 : PySem.W.keepIn K (.ref g1) = true) (m1 : mg "_law_mix" = some (.ref g1))
    (G2 : FnOk P w K mg base CX0 1 g2 gd2 ["_law_cell", "_law_k"] spPart) (b2 : Binds K gd2 ["_law_cell", "_law_k"] []) (k2 : PySem.W.keepIn K (.ref g2) = true) (m2 : mg "_law_part" = some (.ref g2))
    (G3 : FnOk P w K mg base CX0 2 g3 gd3 ["_law_rows", "_law_marks", "_law_cell", "_law_mark", "_law_ends"] (spPut K)) (b3 : Binds K gd3 ["_law_rows", "_law_marks", "_law_cell", "_law_mark", "_law_ends"] []) (k3 : PySem.W.keepIn K (.ref g3) = true) (m3 : mg "_law_put" = some (.ref g3)) :
    FnOk P w K mg base CX 3 f fd ["_law_script"] (spRgp K) := by
  refine F.ok scRgp (fun vs H Q E h => ?_) (fun cdv A outer s H vs Q E hr h => ?_)
  · obtain ⟨a0, ns, rfl, hS, h63, q⟩ := h
    rfl
  obtain ⟨a0, ns, rfl, hS, h63, q⟩ := h
  have r1 := hr.mono (show 1 ≤ 2 by omega)
  refine ⟨_, (pss_cons (ps_set (i := 1) scRgp.nd rfl (Or.inl rfl) (pe_lst pa_nil))
    (pss_cons (ps_set (i := 2) scRgp.nd rfl (Or.inl rfl) (pe_lst pa_nil))
    (pss_cons (ps_set (i := 3) scRgp.nd rfl (Or.inl rfl) pe_int)
    (pss_cons (ps_for PassesOwn.never rfl (pi_range1 rfl mr (pa_cons (pe_callB (call_min2 rfl) rfl mm PyProof.Rows.boot_min (pa_cons pe_int (pa_cons (pe_callB (call_max2 rfl) rfl mx PyProof.Rows.boot_max (pa_cons pe_int (pa_cons (pe_op op_sub (pe_callB call_len_seq rfl ml PySem.boot_len (pa_cons (pv 0) pa_nil)) pe_int) pa_nil))) pa_nil))) pa_nil)) (pg_name (i := 4) scRgp.nd rfl (Or.inl rfl))
      (pss_cons (ps_set (i := 5) scRgp.nd rfl (Or.inl rfl) (pe_ix ix_list (pv 0) (pe_op op_add pe_int (pv 4)) (fun _ _ => rfl)))
    (pss_cons (ps_set (i := 6) scRgp.nd rfl (Or.inl rfl) (pe_op op_add pe_int (pe_call G1 r1 rfl m1 k1 b1 .nil pass0 (pa_cons (pv 5) (pa_cons pe_int (pa_cons pe_int pa_nil))))))
    (pss_cons (ps_set (i := 7) scRgp.nd rfl (Or.inl rfl) (pe_call G1 r1 rfl m1 k1 b1 .nil pass0 (pa_cons (pv 5) (pa_cons pe_int (pa_cons (pv 3) pa_nil)))))
    (pss_cons (ps_set (i := 8) scRgp.nd rfl (Or.inl rfl) (pv 7))
    (pss_cons (ps_set (i := 9) scRgp.nd rfl (Or.inl rfl) (pe_callB (call_max2 rfl) rfl mx PyProof.Rows.boot_max (pa_cons pe_int (pa_cons (pe_op op_sub (pv 6) pe_int) pa_nil))))
    (pss_cons (ps_if (pt_cmpR op_gt (pe_op op_add (pv 3) (pv 9)) pe_int (nomark _)) (pss_one ps_break) pss_nil)
    (pss_cons (ps_for PassesOwn.never rfl (pi_range1 rfl mr (pa_cons (pv 9) pa_nil)) (pg_name (i := 10) scRgp.nd rfl (Or.inl rfl))
      (pss_cons (ps_expr (pe_call G3 hr rfl m3 k3 b3 .nil pass0 (pa_cons (pv 1) (pa_cons (pv 2) (pa_cons (pe_call G2 r1 rfl m2 k2 b2 .nil pass0 (pa_cons (pv 5) (pa_cons (pv 10) pa_nil))) (pa_cons (pv 4) (pa_cons (pe_tup (pa_cons (pv 7) (pa_cons (pe_op op_add (pv 3) (pv 10)) pa_nil))) pa_nil)))))))
    (pss_one (ps_set (i := 7) scRgp.nd rfl (Or.inl rfl) (pe_op op_add (pv 3) (pv 10))))))
    (pss_cons (ps_if (pt_cmpR op_gt (pv 6) pe_int (nomark _)) (pss_one (ps_expr (pe_call G3 hr rfl m3 k3 b3 .nil pass0 (pa_cons (pv 1) (pa_cons (pv 2) (pa_cons (pe_call G2 r1 rfl m2 k2 b2 .nil pass0 (pa_cons (pv 5) (pa_cons pe_int pa_nil))) (pa_cons (pv 4) (pa_cons (pe_tup (pa_cons (pv 7) (pa_cons (pv 8) pa_nil))) pa_nil)))))))) pss_nil)
    (pss_cons (ps_if (pt_cmpR op_eq (pe_call G1 r1 rfl m1 k1 b1 .nil pass0 (pa_cons (pv 5) (pa_cons pe_int (pa_cons pe_int pa_nil)))) pe_int (nomark _)) (pss_one (ps_expr (pe_call G3 hr rfl m3 k3 b3 .nil pass0 (pa_cons (pv 1) (pa_cons (pv 2) (pa_cons (pe_call G2 r1 rfl m2 k2 b2 .nil pass0 (pa_cons (pv 5) (pa_cons pe_int pa_nil))) (pa_cons (pe_op op_sub (pe_un un_neg pe_int) (pv 4)) (pa_cons (pe_tup (pa_cons (pv 8) (pa_cons (pe_ix ix_list (pe_lst (pa_cons (pv 8) (pa_cons (pv 7) pa_nil))) (pe_call G1 r1 rfl m1 k1 b1 .nil pass0 (pa_cons (pv 5) (pa_cons pe_int (pa_cons pe_int pa_nil)))) (fun _ _ => rfl)) pa_nil))) pa_nil)))))))) pss_nil)
    (pss_one (ps_set (i := 3) scRgp.nd rfl (Or.inl rfl) (pe_op op_add (pv 3) (pv 9))))))))))))))
    (pss_one (ps_ret (pe_tup (pa_cons (pv 3) (pa_cons (pv 1) (pa_cons (pv 2) pa_nil)))))))))), ?_⟩
  refine ⟨by show 0 ≤ sizeLine; decide, fun r hr0 => ?_⟩
  have s1 := same_new hr0 (.lst [])
  have e1 : upd H r (.lst []) r = some (.lst []) := upd_same
  generalize upd H r (.lst []) = H1 at s1 e1 ⊢
  refine ⟨by show 0 ≤ sizeLine; decide, fun a ha0 => ?_⟩
  have s2 := same_new ha0 (.lst [])
  have e2 : upd H1 a (.lst []) a = some (.lst (([] : List Int).map V.int)) := upd_same
  have ra : r ≠ a := ne_of_none e1 ha0
  have na : H a = none := by
    cases h : H a with
    | none => rfl
    | some o => rw [s1 _ _ h] at ha0; cases ha0
  have e12 := s2 _ _ e1
  generalize upd H1 a (.lst []) = H2 at s2 e2 e12 ⊢
  have s02 := s1.trans s2
  have W0 : Rws K H2 r a [] [] := ⟨[], e12, e2, .nil, fun d hd => by cases hd⟩
  try dsimp only
  refine cut2 (fun σ' H' => Same H H' ∧ ∃ (m k : Nat) (ds : List RD) (ms : List Int) (z4 z5 z6 z7 z8 z9 z10 : Option V), σ' = [some (.ref a0), some (.ref r), some (.ref a), some (.int (m : Int)), z4, z5, z6, z7, z8, z9, z10] ∧ Rws K H' r a ds ms ∧ 1 ≤ m ∧ m ≤ 20 ∧ k ≤ 5 ∧ Blk.Ca (skl ds) ms m k) (fun X hX => ?_) ?_
  rotate_left
  · rintro σ3 H3 ⟨s3, m, k, ds, ms, z4, z5, z6, z7, z8, z9, z10, rfl, W, m1, m20, k5, C⟩
    refine ⟨_, rfl, _, rfl, _, rfl, by show 3 ≤ sizeLine; decide, fun t ht => ?_⟩
    have s4 := same_new ht (.tup [.int (m : Int), .ref r, .ref a])
    exact q t r a m k ds ms _ (s3.trans s4) (SqT.of upd_same) (W.same s4) m1 m20 k5 C
  have eL : ∃ n : Nat, n ≤ 5 ∧ (n = 0 ∨ n + 12 ≤ ns.length) ∧ (if (if ((ns.map V.int).length : Int) - 12 > 0 then ((ns.map V.int).length : Int) - 12 else 0) < 5 then (if ((ns.map V.int).length : Int) - 12 > 0 then ((ns.map V.int).length : Int) - 12 else 0) else 5) = (n : Int) := by
    rw [List.length_map]
    by_cases h : (ns.length : Int) - 12 > 0
    · rw [if_pos h]
      by_cases h5 : (ns.length : Int) - 12 < 5
      · rw [if_pos h5]; exact ⟨ns.length - 12, by omega, by omega, by omega⟩
      · rw [if_neg h5]; exact ⟨5, by omega, by omega, rfl⟩
    · rw [if_neg h]; exact ⟨0, by omega, .inl rfl, rfl⟩
  obtain ⟨n, n5, n12, en⟩ := eL
  refine ⟨_, rfl, a0, _, rfl, .inl (s02.seq hS), _, _, rfl, rfl, _, _, rfl, _, _, rfl, _, rfl, ?_, ?_, ?_⟩
  · rw [en]; omega
  · rw [en]; omega
  rw [en]
  refine for_range (n := (n : Int).toNat) (fun k σ H' => Same H H' ∧ ∃ (m : Nat) (ds : List RD) (ms : List Int) (z4 z5 z6 z7 z8 z9 z10 : Option V), σ = [some (.ref a0), some (.ref r), some (.ref a), some (.int (m : Int)), z4, z5, z6, z7, z8, z9, z10] ∧ Rws K H' r a ds ms ∧ 1 ≤ m ∧ m ≤ 20 ∧ Blk.Ca (skl ds) ms m k) ⟨s02, 1, [], [], none, none, none, none, none, none, none, rfl, W0, by omega, by omega, Blk.Ca.zero⟩ ?_ ?_
  rotate_left
  · rintro σ H3 ⟨s3, m, ds, ms, z4, z5, z6, z7, z8, z9, z10, rfl, W, m1, m20, C⟩
    exact hX _ _ ⟨s3, m, _, ds, ms, _, _, _, _, _, _, _, rfl, W, m1, m20, by omega, C⟩
  rintro k σ H3 hk ⟨s3, m, ds, ms, z4, z5, z6, z7, z8, z9, z10, rfl, W, m1, m20, C⟩
  have hk : k < n := by omega
  rw [Int.zero_add]
  try dsimp only
  refine cut5 (fun σ' H' => Same H3 H' ∧ ∃ (c : Int) (sz p0 nw : Nat), σ' = [some (.ref a0), some (.ref r), some (.ref a), some (.int (m : Int)), some (.int (k : Int)), some (.int c), some (.int (sz : Int)), some (.int (p0 : Int)), some (.int (p0 : Int)), some (.int (nw : Int)), z10] ∧ p0 < m ∧ 1 ≤ nw ∧ nw ≤ 3 ∧ (sz ≤ 1 → nw = 1)) (fun Y hY => ?_) ?_
  · have ex : (ns.map V.int)[12 + k]? = some (.int (ns[12 + k]'(by omega))) := by rw [List.getElem?_map, List.getElem?_eq_getElem (by omega)]; rfl
    generalize ns[12 + k]'(by omega) = c at ex
    refine ⟨_, rfl, _, rfl, _, _, rfl, rfl, a0, _, _, _, rfl, rfl, s3.seq hS, by rw [show (12 : Int) + (k : Int) = ((12 + k : Nat) : Int) by omega]; exact atI_nat ex, ?_⟩
    refine ⟨_, rfl, c, 4, 4, rfl, by decide, by decide, by decide, fun y H4 y0 y3 s4 => ⟨_, _, rfl, rfl, ?_⟩⟩
    refine ⟨_, rfl, _, rfl, c, 1, (m : Int), rfl, by decide, by decide, by omega, fun p H5 q0 q1 s5 => ?_⟩
    refine ⟨_, rfl, _, rfl, _, _, rfl, rfl, _, _, rfl, ?_⟩
    obtain ⟨y, rfl⟩ : ∃ z : Nat, y = (z : Int) := ⟨y.toNat, by omega⟩
    obtain ⟨p, rfl⟩ : ∃ z : Nat, p = (z : Int) := ⟨p.toNat, by omega⟩
    refine hY _ _ ⟨s4.trans s5, c, 1 + y, p, max 1 y, ?_, by omega, by omega, by omega, by omega⟩
    have e9 : (if 1 + (y : Int) - 1 > 1 then 1 + (y : Int) - 1 else 1) = ((max 1 y : Nat) : Int) := by
      split <;> omega
    show _ = _
    rw [← e9]
    rfl
  rintro σ4 H4 ⟨s4, c, sz, p0, nw, rfl, hp0, nw1, nw3, sz1⟩
  have s04 := s3.trans s4
  have W4 := W.same s4
  try dsimp only
  refine cut1 (fun σ' H' => H' = H4 ∧ σ' = [some (.ref a0), some (.ref r), some (.ref a), some (.int (m : Int)), some (.int (k : Int)), some (.int c), some (.int (sz : Int)), some (.int (p0 : Int)), some (.int (p0 : Int)), some (.int (nw : Int)), z10] ∧ m + nw ≤ 20) (fun Y hY => ?_) ?_
  · refine ⟨_, rfl, _, rfl, _, _, rfl, rfl, _, _, rfl, rfl, _, rfl, ite2 (fun h => ?_) (fun h => ?_)⟩
    · exact hX _ _ ⟨s04, m, k, ds, ms, _, _, _, _, _, _, _, rfl, W4, m1, m20, by omega, C⟩
    · have h : ¬ (m : Int) + (nw : Int) > 20 := by simpa using h
      exact hY _ _ ⟨rfl, rfl, by omega⟩
  rintro σ5 H5 ⟨rfl, rfl, mn⟩
  try dsimp only
  refine cut1 (fun σ' H' => Same H H' ∧ ∃ (ds : List RD) (ms : List Int) (b : Nat) (zj : Option V), σ' = [some (.ref a0), some (.ref r), some (.ref a), some (.int (m : Int)), some (.int (k : Int)), some (.int c), some (.int (sz : Int)), some (.int (b : Int)), some (.int (p0 : Int)), some (.int (nw : Int)), zj] ∧ Rws K H' r a ds ms ∧ Blk.Rg (skl ds) ms m k p0 nw b) (fun Y hY => ?_) ?_
  · refine ⟨_, rfl, _, rfl, by omega, by omega, ?_⟩
    refine for_range (n := (nw : Int).toNat) (fun j σ H' => Same H H' ∧ ∃ (ds : List RD) (ms : List Int) (b : Nat) (zj : Option V), σ = [some (.ref a0), some (.ref r), some (.ref a), some (.int (m : Int)), some (.int (k : Int)), some (.int c), some (.int (sz : Int)), some (.int (b : Int)), some (.int (p0 : Int)), some (.int (nw : Int)), zj] ∧ Rws K H' r a ds ms ∧ Blk.Rg (skl ds) ms m k p0 j b) ⟨s04, ds, ms, p0, _, rfl, W4, C.rg hp0⟩ ?_ ?_
    rotate_left
    · rintro σ H6 ⟨s6, ds, ms, b, zj, rfl, W, R⟩
      exact hY _ _ ⟨s6, ds, ms, b, _, rfl, W, R⟩
    rintro j σ H6 hj ⟨s6, ds, ms, b, zj, rfl, W, R⟩
    rw [Int.zero_add]
    have hj : j < nw := by omega
    have c5 := R.c5
    refine ⟨_, rfl, _, rfl, _, rfl, _, rfl, c, (j : Int), rfl, by omega, by omega, fun x => ?_⟩
    refine ⟨_, rfl, _, rfl, _, rfl, _, rfl, _, _, rfl, rfl, by show 2 ≤ sizeLine; decide, fun e he => ?_⟩
    have s7 := same_new he (.tup [.int (b : Int), .int ((m : Int) + (j : Int))])
    have e7 : SqT K (upd H6 e (.tup [.int (b : Int), .int ((m : Int) + (j : Int))])) e [.int (b : Int), .int ((m : Int) + (j : Int))] := SqT.of upd_same
    generalize upd H6 e (.tup [.int (b : Int), .int ((m : Int) + (j : Int))]) = H7 at s7 e7 ⊢
    refine put_call (H0 := H) ra (W.same s7) R.len (by omega) (by omega) (by omega) e7 hr0 na (s6.trans s7) fun y d ds' H8 hy s8 eds W8 k1' _ hd => ?_
    refine ⟨_, rfl, _, rfl, _, _, rfl, rfl, ?_⟩
    have R8 := R.put hy (k1' (by omega)) (d := d) (by omega)
    rw [← eds] at R8
    refine ⟨s8, ds', _, m + j, some (.int (j : Int)), ?_, W8, R8⟩
    rw [show ((m + j : Nat) : Int) = (m : Int) + (j : Int) by omega]
    rfl
  rintro σ6 H6 ⟨s6, ds, ms, b, zj, rfl, W, R⟩
  try dsimp only
  refine cut1 (fun σ' H' => Same H H' ∧ ∃ (ds : List RD) (ms : List Int), σ' = [some (.ref a0), some (.ref r), some (.ref a), some (.int (m : Int)), some (.int (k : Int)), some (.int c), some (.int (sz : Int)), some (.int (b : Int)), some (.int (p0 : Int)), some (.int (nw : Int)), zj] ∧ Rws K H' r a ds ms ∧ Blk.Cb (skl ds) ms (m + nw) k) (fun Y hY => ?_) ?_
  · refine ⟨_, rfl, _, _, rfl, rfl, _, rfl, ite2 (fun h => ?_) (fun h => ?_)⟩
    · have c5 := R.c5
      refine ⟨_, rfl, _, rfl, _, rfl, c, 4, rfl, by decide, by decide, fun x => ?_⟩
      refine ⟨_, rfl, _, rfl, _, rfl, by show 2 ≤ sizeLine; decide, fun e he => ?_⟩
      have s7 := same_new he (.tup [.int (b : Int), .int (p0 : Int)])
      have e7 : SqT K (upd H6 e (.tup [.int (b : Int), .int (p0 : Int)])) e [.int (b : Int), .int (p0 : Int)] := SqT.of upd_same
      generalize upd H6 e (.tup [.int (b : Int), .int (p0 : Int)]) = H7 at s7 e7 ⊢
      refine put_call (H0 := H) ra (W.same s7) R.len (by omega) (by omega) (by omega) e7 hr0 na (s6.trans s7) fun y d ds' H8 hy s8 eds W8 k1' _ hd => ?_
      have R8 := R.close nw1 nw3 hy (k1' (by omega)) (d := d) (by omega)
      rw [← eds] at R8
      exact hY _ _ ⟨s8, ds', _, rfl, W8, R8⟩
    · have h : ¬ (sz : Int) > 1 := by simpa using h
      have e1 := sz1 (by omega)
      rw [e1] at R
      rw [e1]
      exact hY _ _ ⟨s6, ds, ms, by rw [e1], W, by rw [e1]; exact R.one⟩
  rintro σ7 H7 ⟨s7, ds, ms, rfl, W, B⟩
  have bl := R.blt
  try dsimp only
  refine cut1 (fun σ' H' => Same H H' ∧ ∃ (ds : List RD) (ms : List Int), σ' = [some (.ref a0), some (.ref r), some (.ref a), some (.int (m : Int)), some (.int (k : Int)), some (.int c), some (.int (sz : Int)), some (.int (b : Int)), some (.int (p0 : Int)), some (.int (nw : Int)), zj] ∧ Rws K H' r a ds ms ∧ Blk.Ca (skl ds) ms (m + nw) (k + 1)) (fun Y hY => ?_) ?_
  · have c5 := B.c5
    have hp' : p0 < m + nw := by omega
    refine ⟨_, rfl, c, 5, 3, rfl, by decide, by decide, by decide, fun x HA x0 x1 sA => ⟨rfl, _, rfl, ite2 (fun _ => ?_) (fun _ => ?_)⟩⟩
    rotate_left
    · exact hY _ _ ⟨s7.trans sA, ds, ms, rfl, W.same sA, B.go⟩
    refine ⟨_, rfl, _, rfl, _, rfl, c, 5, rfl, by decide, by decide, fun x => ?_⟩
    refine ⟨_, rfl, _, rfl, _, _, rfl, rfl, _, rfl, _, rfl, _, rfl, by show 2 ≤ sizeLine; decide, fun L hL => ?_⟩
    have s8 := same_new hL (.lst [V.int (p0 : Int), .int (b : Int)])
    have e8 : upd HA L (.lst [V.int (p0 : Int), .int (b : Int)]) L = some (.lst [V.int (p0 : Int), .int (b : Int)]) := upd_same
    generalize upd HA L (.lst [V.int (p0 : Int), .int (b : Int)]) = H8 at s8 e8 ⊢
    refine ⟨_, rfl, c, 6, 2, rfl, by decide, by decide, by decide, fun y HB y0 y1 sB => ?_⟩
    obtain ⟨g, eg, hg⟩ : ∃ g : Nat, atI [V.int (p0 : Int), .int (b : Int)] y = some (.int (g : Int)) ∧ g < m + nw := by
      have : y = 0 ∨ y = 1 := by omega
      rcases this with rfl | rfl
      · exact ⟨p0, rfl, hp'⟩
      · exact ⟨b, rfl, bl⟩
    refine ⟨L, _, y, _, rfl, rfl, SqL.of (sB _ _ e8), eg, by show 2 ≤ sizeLine; decide, fun e he => ?_⟩
    have s9 := same_new he (.tup [.int (p0 : Int), .int (g : Int)])
    have e9 : SqT K (upd HB e (.tup [.int (p0 : Int), .int (g : Int)])) e [.int (p0 : Int), .int (g : Int)] := SqT.of upd_same
    generalize upd HB e (.tup [.int (p0 : Int), .int (g : Int)]) = H9 at s9 e9 ⊢
    have s79 := sA.trans (s8.trans (sB.trans s9))
    refine put_call (H0 := H) ra (W.same s79) B.len (by omega) (by omega) (by omega) e9 hr0 na (s7.trans s79) fun y d ds' H8 hy s8 eds W8 _ k2' hd => ?_
    have R8 := B.odd hy (d := d) (k2' (by omega)) (by omega) (by omega)
    rw [← eds] at R8
    exact hY _ _ ⟨s8, ds', _, rfl, W8, R8⟩
  rintro σ8 H8 ⟨s8, ds, ms, rfl, W, C8⟩
  refine ⟨_, rfl, _, rfl, _, _, rfl, rfl, ?_⟩
  exact ⟨s8, m + nw, ds, ms, _, _, _, _, _, _, _, rfl, W, by omega, mn, C8⟩
end
end K71

set_option Elab.async false
set_option linter.all false
set_option maxRecDepth 100000
set_option maxHeartbeats 4000000
namespace K71
open PySem L2 Shp
section
variable {P : Program} {w : World} {K : PySem.W.Frag} {mg : Str → Option Value} {base : Heap} {f g1 g2 g3 g4 g5 g6 g7 g8 : Addr} {fd gd1 gd2 gd3 gd4 gd5 gd6 gd7 gd8 : FuncData} {CX : CXT}
variable {CR : Addr} {CK : Kd → Addr} {fW fJ fT fS : Kd → Addr} {fdW fdJ fdT fdS : Kd → FuncData}
def spLaw (K : PySem.W.Frag) : Sp := fun vs H Q _ => ∃ (a : Addr) (ns : List Int), vs = [.ref a] ∧ SqL K H a (ns.map V.int) ∧ ns.length ≤ 63 ∧ ∀ H', Q (.bl true) H'
def mkF (ms : List Int) (n k : Nat) : List Nat := (List.range n).filter fun j => decide (ms.getD j 0 = ms.getD k 0)
theorem blk_mkF {ds : List RD} {ms : List Int} {m k q : Nat} (pt : ∀ d ∈ ds, PtOk (m : Int) d.2.1 d.2.2.1) (m20 : m ≤ 20) (C : Blk.Ca (skl ds) ms m q) (hk : k < ds.length) : blkF ds k = mkF ms ds.length k := by
  unfold blkF mkF
  refine List.filter_congr fun j hj => ?_
  have hj : j < ds.length := List.mem_range.mp hj
  have e := C.len
  have sl := sk_len ds
  have h := Blk.marks_iff (sk_lt pt) m20 e C.aa C.bb (i := j) (j := k) (by omega) (by omega)
  rw [List.getD_eq_getElem?_getD, List.getD_eq_getElem?_getD]
  rw [List.getElem?_eq_getElem (show j < ms.length by omega), List.getElem?_eq_getElem (show k < ms.length by omega)] at h ⊢
  rw [Option.some.injEq] at h
  exact decide_eq_decide.mpr h
theorem rdok_of {K : PySem.W.Frag} {H : Hp} {r a : Addr} {ds : List RD} {ms : List Int} {m q : Nat} (W : Rws K H r a ds ms) (C : Blk.Ca (skl ds) ms m q) : ∀ d ∈ ds, RdOk (m : Int) d := fun d hd => by
  obtain ⟨us, _, _, _, h4⟩ := W
  obtain ⟨e, i0, j0⟩ := h4 d hd
  have l := C.lt (d.1, d.2.1.toNat, d.2.2.1.toNat) (List.mem_map.mpr ⟨d, hd, rfl⟩)
  have l1 : d.2.1.toNat < m := l.1
  have l2 : d.2.2.1.toNat < m := l.2
  obtain ⟨k, i, j, z⟩ := d
  have e : z = (3, 2) := e
  subst e
  exact rd32 i0 (by have : i.toNat < m := l1; omega) j0 (by have : j.toNat < m := l2; omega)
theorem nd_j_marks_k : (["_law_j", "_law_marks", "_law_k"] : List Str).Nodup := by decide +kernel
abbrev sLaw : Stmt := top 46
theorem scLaw : FnScope ["_law_script", "_law_many", "_law_rows", "_law_marks", "_law_net_here", "_law_k"] ["_law_script"] (defScope sLaw) := ⟨rfl, rfl, rfl, by decide +kernel, rfl, by decide +kernel, by decide +kernel⟩
theorem ok_law {dV : Value} (F : FunD K "law" "law" sLaw dV f fd)
    {CN : Addr} (ml : mg "len" = none) (mr : mg "range" = none)
    (G1 : FnOk P w K mg base CX0 1 g1 gd1 ["_law_script", "_law_k"] (spDraw K)) (b1 : Binds K gd1 ["_law_script", "_law_k"] []) (k1 : PySem.W.keepIn K (.ref g1) = true) (m1 : mg "_law_draw" = some (.ref g1))
    (G2 : FnOk P w K mg base CX0 7 g2 gd2 ["_law_script", "_law_many"] (spAll K)) (b2 : Binds K gd2 ["_law_script", "_law_many"] []) (k2 : PySem.W.keepIn K (.ref g2) = true) (m2 : mg "_law_all_ways" = some (.ref g2))
    (G3 : FnOk P w K mg base CX0 3 g3 gd3 ["_law_script"] (spRgp K)) (b3 : Binds K gd3 ["_law_script"] []) (k3 : PySem.W.keepIn K (.ref g3) = true) (m3 : mg "_law_rings_put" = some (.ref g3))
    (G4 : FnOk P w K mg base CX0 6 g4 gd4 ["_law_many", "_law_rows"] (spNet33 CN K)) (b4 : Binds K gd4 ["_law_many", "_law_rows"] []) (k4 : PySem.W.keepIn K (.ref g4) = true) (m4 : mg "_law_net" = some (.ref g4))
    (G5 : FnOk P w K mg base CX0 6 g5 gd5 ["net", "k"] (spBlk CN K)) (b5 : Binds K gd5 ["net", "k"] []) (k5 : PySem.W.keepIn K (.ref g5) = true) (m5 : mg "block_of" = some (.ref g5)) :
    FnOk P w K mg base CX 8 f fd ["_law_script"] (spLaw K) := by
  refine F.ok scLaw (fun vs H Q E h => ?_) (fun cdv A outer s H vs Q E hr h => ?_)
  · obtain ⟨a, ns, rfl, hS, h63, q⟩ := h
    rfl
  obtain ⟨a, ns, rfl, hS, h63, q⟩ := h
  have r1 := hr.mono (show 1 ≤ 7 by omega)
  have r3 := hr.mono (show 3 ≤ 7 by omega)
  have r6 := hr.mono (show 6 ≤ 7 by omega)
  have hu := hr.units
  refine ⟨_, (pss_cons (ps_if (pt_not (pt_val (pe_call G2 hr rfl m2 k2 b2 .nil pass0 (pa_cons (pv 0) (pa_cons (pe_op op_add pe_int (pe_op op_mod (pe_call G1 r1 rfl m1 k1 b1 .nil pass0 (pa_cons (pv 0) (pa_cons pe_int pa_nil))) pe_int)) pa_nil))))) (pss_one (ps_ret pe_bl)) pss_nil)
    (pss_cons (ps_asg (pe_call G3 r3 rfl m3 k3 b3 .nil pass0 (pa_cons (pv 0) pa_nil)) (pg_tup rfl (pgs_cons (pg_name (i := 1) scLaw.nd rfl (Or.inl rfl)) (pgs_cons (pg_name (i := 2) scLaw.nd rfl (Or.inl rfl)) (pgs_cons (pg_name (i := 3) scLaw.nd rfl (Or.inr rfl)) pgs_nil)))))
    (pss_cons (ps_set (i := 4) scLaw.nd rfl (Or.inl rfl) (pe_call G4 r6 rfl m4 k4 b4 .nil pass0 (pa_cons (pv 1) (pa_cons (pv 2) pa_nil))))
    (pss_cons (ps_for PassesOwn.never rfl (pi_range1 rfl mr (pa_cons (pe_callB call_len_seq rfl ml PySem.boot_len (pa_cons (pv 2) pa_nil)) pa_nil)) (pg_name (i := 5) scLaw.nd rfl (Or.inr rfl))
      (pss_one (ps_if (pt_cmpR (op_neD hu) (pe_call G5 r6 rfl m5 k5 b5 .nil pass0 (pa_cons (pv 4) (pa_cons (pv 5) pa_nil))) (pe_comp (nl := 1) (fr := [3, 5]) (Nc := ["_law_j", "_law_marks", "_law_k"]) (cl := [("_law_marks", s.heap.objs.size + 1), ("_law_k", s.heap.objs.size + 2)]) rfl ⟨rfl, rfl, by decide +kernel, by decide +kernel, (sub_cons rfl (sub_cons rfl (sub_nil))), has_of rfl, rfl, fun i n h => match i, h with | 0, h => by cases h; exact ⟨3, rfl, rfl, rfl, rfl, .inl rfl⟩ | 1, h => by cases h; exact ⟨5, rfl, rfl, rfl, rfl, .inl rfl⟩ | k + 2, h => by rw [show 1 + (k + 2) = k + 3 by omega] at h; cases h⟩
        (pi_range1 rfl mr (pa_cons (pe_callB call_len_seq rfl ml PySem.boot_len (pa_cons (pv 2) pa_nil)) pa_nil)) (fun C s3 H3 fp pins => (pg_name (i := 0) nd_j_marks_k rfl (Or.inl rfl))) (fun C s3 H3 fp pins => (pif_one (pt_cmpR op_eq (pe_ix (ix_listK (K := K) rfl) (pv 1) (pv 0) (fun _ _ => rfl)) (pe_ix (ix_listK (K := K) rfl) (pv 1) (pv 2) (fun _ _ => rfl)) (nomark _))))
        (fun C s3 H3 fp pins => (pv 0))) (nomark _)) (pss_one (ps_ret pe_bl)) pss_nil)))
    (pss_one (ps_ret pe_bl)))))), ?_⟩
  try dsimp only
  refine cut1 (fun σ' H' => Same H H' ∧ σ' = [some (.ref a), none, none, none, none, none]) (fun X hX => ?_) ?_
  · refine ⟨_, rfl, _, rfl, a, ns, 0, 0, rfl, rfl, hS, h63, fun i H1 s1 => ⟨_, _, rfl, rfl, by show (0 : Int) < 5; decide, _, _, rfl, rfl, ?_⟩⟩
    obtain ⟨m, em, m5⟩ : ∃ m : Nat, 1 + i % 5 = (m : Int) ∧ 1 ≤ m ∧ m ≤ 5 := ⟨(1 + i % 5).toNat, by omega, by omega, by omega⟩
    refine ⟨a, ns, m, congrArg (fun z => [V.ref a, V.int z]) em, s1.seq hS, h63, m5.1, m5.2, fun H2 s2 => ⟨_, rfl, ?_⟩⟩
    exact iteF (hX _ _ ⟨s1.trans s2, rfl⟩)
  rintro σ1 H1 ⟨s1, rfl⟩
  refine ⟨_, rfl, a, ns, rfl, s1.seq hS, h63, fun t r b m q5 ds ms H2 s2 hT W m1' m20 _ C => ?_⟩
  refine ⟨t, _, rfl, hT, rfl, _, _, rfl, _, _, rfl, _, _, rfl, rfl, ?_⟩
  obtain ⟨us, er, eb, hR, _⟩ := id W
  have rk := rdok_of W C
  have c5 := C.c5
  rw [sk_len] at c5
  have lu := hR.length
  refine ⟨_, rfl, _, rfl, (m : Int), r, us, ds, rfl, by omega, by omega, SqL.of er, hR, rk, by omega, fun n l H3 s3 nl nt => ?_⟩
  have pt : ∀ d ∈ ds, PtOk (m : Int) d.2.1 d.2.2.1 := fun d hd => ⟨(rk d hd).1, (rk d hd).2.1, (rk d hd).2.2.1, (rk d hd).2.2.2.1⟩
  have er3 := s3 _ _ er
  have eb3 := s3 _ _ eb
  have lms := C.len
  rw [sk_len] at lms
  refine ⟨_, rfl, r, us, rfl, .inl (SqL.of er3), (us.length : Int), rfl, by omega, by omega, ?_⟩
  refine for_range (n := (us.length : Int).toNat) (fun i σ H' => Same H3 H' ∧ ∃ (z5 : Option V), σ = [some (.ref a), some (.int (m : Int)), some (.ref r), some (.ref b), some (.ref n), z5]) ⟨Same.refl _, _, rfl⟩ ?_ ?_
  rotate_left
  · rintro σ H4 ⟨s4, z5, rfl⟩
    exact q _
  rintro k σ H4 hk ⟨s4, z5, rfl⟩
  have hk : k < ds.length := by omega
  rw [Int.zero_add]
  refine ⟨_, rfl, _, rfl, n, l, m, k, ds, rfl, nt.same s4, pt, by omega, by omega, hk, fun F H5 s5 nF eF => ?_⟩
  have er5 := (s4.trans s5) _ _ er3
  have eb5 := (s4.trans s5) _ _ eb3
  refine ⟨_, rfl, r, us, rfl, .inl (SqL.of er5), (us.length : Int), rfl, by omega, by omega, fun D hD => ?_⟩
  have sD := same_new hD (.lst [])
  refine comp_range (n := (us.length : Int).toNat) (fun i zs H' => Same H5 H' ∧ H' D = some (.lst zs) ∧ zs = ((mkF ms i k).map fun (p : Nat) => V.int (p : Int))) ⟨sD, upd_same, rfl⟩ (fun i zs H' h => h.2.1) ?_ ?_
  · rintro i zs H6 hi ⟨s6, e6, rfl⟩ Cc hC
    have hi : i < ds.length := by omega
    have gi : ∀ j : Nat, j < ds.length → atI (ms.map V.int) (j : Int) = some (.int (ms.getD j 0)) := fun j hj => atI_nat (int_at (by omega))
    have ll : ((mkF ms i k).map fun (p : Nat) => V.int (p : Int)).length ≤ 40 := by
      rw [List.length_map]
      have := List.length_filter_le (fun j => decide (ms.getD j 0 = ms.getD k 0)) (List.range i)
      rw [List.length_range] at this
      unfold mkF
      omega
    rw [Int.zero_add]
    have eb6 := s6 _ _ eb5
    refine ⟨keep1.1, keep1.2, ?_⟩
    refine ⟨_, rfl, _, rfl, b, _, _, _, rfl, rfl, SqL.of eb6, gi i hi, _, rfl, _, rfl, b, _, _, _, rfl, rfl, SqL.of eb6, gi k hk, rfl, _, rfl, ?_⟩
    by_cases h : ms.getD i 0 = ms.getD k 0
    · refine L2.ifT (by rw [h]; simp) ⟨_, rfl, e6, small1000 (by omega), hC _ _ ⟨s6.change hD, upd_same, ?_⟩⟩
      unfold mkF
      rw [List.range_succ, List.filter_append, List.filter_cons_of_pos (p := fun j => decide (ms.getD j 0 = ms.getD k 0)) (a := i) (by exact decide_eq_true h), List.map_append]; rfl
    · refine L2.ifF (decide_eq_false fun z => h (V.int.inj z)) (hC _ _ ⟨s6, e6, ?_⟩)
      unfold mkF
      rw [List.range_succ, List.filter_append, List.filter_cons_of_neg (p := fun j => decide (ms.getD j 0 = ms.getD k 0)) (a := i) (by simpa using h)]; simp
  rintro zs H6 ⟨s6, e6, rfl⟩
  have eF' : H6 F = some (.lst (((blkF ds k).map fun (j : Nat) => (j : Int)).map V.int)) := by rw [s6 _ _ eF, ← nI_map]
  have eD' : H6 D = some (.lst (((blkF ds k).map fun (j : Nat) => (j : Int)).map V.int)) := by
    rw [e6, blk_mkF pt m20 C hk, show (us.length : Int).toNat = ds.length by omega, ← nI_map]
  refine rd_eqI (SqL.of eF') (SqL.of eD') ⟨_, rfl, iteF ?_⟩
  exact ⟨s4.trans (s5.trans s6), _, rfl⟩
end
end K71

set_option Elab.async false
set_option linter.all false
namespace L2
open PySem PySem.W
theorem walkX_of {q : Program} {loose : List Str} {XP : (Str → Option Value) → Heap → Prop} {K : Params → PySem.W.Frag} {bs : List Addr} {n t : Nat} {r : RowW} {d : DefRec} {kwd : List (Str × Expr)} {run : Value → List Value → Sem Value}
    (e : ∀ P, bs = (K P).map (·.1)) (h : WalkO q loose XP (fun w h => (K w.params).In h) r d kwd run) : WalkX q loose XP (PySem.W.X.obsZ bs) (PySem.W.X.valZ K n t) r d kwd run :=
  fun w s₀ s₁ mg mb G y a o pm cd doc dV kV h1 h2 h3 h4 h5 h6 args vals as' L => h w s₀ s₁ mg mb G (InK.keeps w _ _ (PySem.W.X.z_facts e y).2.1 L.keeps) a o pm cd doc dV kV h1 h2 h3 h4 h5 h6 args vals as'
end L2

set_option Elab.async false
set_option linter.all false
namespace L2
open PySem PySem.Spec PyProof.Rows
section
variable {K : PySem.W.Frag} {x qual : Str} {st : Stmt} {dV : Value} {f : Addr} {fd : FuncData}
theorem FunD.b1 (a : Str) (F : FunD K x qual st dV f fd) (h : ∀ (kV doc pm : Value) (an : Option Addr) (cdv ct u : Value), bindArgs (PySem.W.fnOf x qual (defArgs st) (defBody st) (defScope st) dV kV doc pm an cdv ct) ⟨[u], []⟩ = pure [(a, u)]) : Binds K fd [a] [] :=
  F.binds fun k d p n c t us hl => match us, hl with | [_], _ => h k d p n c t _
theorem FunD.b2 (a b : Str) (F : FunD K x qual st dV f fd) (h : ∀ (kV doc pm : Value) (an : Option Addr) (cdv ct u v : Value), bindArgs (PySem.W.fnOf x qual (defArgs st) (defBody st) (defScope st) dV kV doc pm an cdv ct) ⟨[u, v], []⟩ = pure [(a, u), (b, v)]) : Binds K fd [a, b] [] :=
  F.binds fun k d p n c t us hl => match us, hl with | [_, _], _ => h k d p n c t _ _
theorem FunD.b3 (a b c : Str) (F : FunD K x qual st dV f fd) (h : ∀ (kV doc pm : Value) (an : Option Addr) (cdv ct u v w : Value), bindArgs (PySem.W.fnOf x qual (defArgs st) (defBody st) (defScope st) dV kV doc pm an cdv ct) ⟨[u, v, w], []⟩ = pure [(a, u), (b, v), (c, w)]) : Binds K fd [a, b, c] [] :=
  F.binds fun k d p n c t us hl => match us, hl with | [_, _, _], _ => h k d p n c t _ _ _
theorem FunD.b4 (a b c e : Str) (F : FunD K x qual st dV f fd) (h : ∀ (kV doc pm : Value) (an : Option Addr) (cdv ct u v w z : Value), bindArgs (PySem.W.fnOf x qual (defArgs st) (defBody st) (defScope st) dV kV doc pm an cdv ct) ⟨[u, v, w, z], []⟩ = pure [(a, u), (b, v), (c, w), (e, z)]) : Binds K fd [a, b, c, e] [] :=
  F.binds fun k d p n c t us hl => match us, hl with | [_, _, _, _], _ => h k d p n c t _ _ _ _
theorem FunD.b5 (a b c e g : Str) (F : FunD K x qual st dV f fd) (h : ∀ (kV doc pm : Value) (an : Option Addr) (cdv ct u v w z y : Value), bindArgs (PySem.W.fnOf x qual (defArgs st) (defBody st) (defScope st) dV kV doc pm an cdv ct) ⟨[u, v, w, z, y], []⟩ = pure [(a, u), (b, v), (c, w), (e, z), (g, y)]) : Binds K fd [a, b, c, e, g] [] :=
  F.binds fun k d p n c t us hl => match us, hl with | [_, _, _, _, _], _ => h k d p n c t _ _ _ _ _
end
end L2

set_option Elab.async false
set_option linter.all false
set_option maxRecDepth 100000
set_option maxHeartbeats 4000000
namespace K71
open PySem L2
theorem all_mk {l : PySem.W.OpenLaw} {w : World} {K : PySem.W.Frag} {mg : Str → Option Value} {fa : Addr} (hfa : mg "law" = some (.ref fa))
    {c_Row c_Piece c_Push c_Hold c_Net f1 f2 f3 f4 f5 f6 f7 f8 f9 f10 f11 f12 f13 f14 f15 f16 f17 f18 f19 f20 f21 f22 f23 f24 f25 f26 f27 f28 f29 f30 f31 f32 f33 : Addr} {d1 d2 d3 d4 d5 d6 d7 d8 d9 d10 d11 d12 d13 d14 d15 d16 d17 d18 d19 d20 d21 d23 d24 d25 d26 d27 d28 d29 d30 d31 d32 : FuncData}
    {od22 an22 : Option Addr} {sl22 : Array (Option Value)} {oc22 kV22 dc22 pm22 cd22 ct22 : Value}
    {T22 : Addr} {oT22 : Value} {dT22 : Option Addr} {nT22 : Nat} {sT22 : Array (Option Value)}
    {od33 an33 : Option Addr} {sl33 : Array (Option Value)} {oc33 kV33 dc33 pm33 cd33 ct33 : Value}
    {aN : Addr} {dN : Option Addr} {nN : Nat} {sN : Array (Option Value)} {t0 t1 : Tok}
    {aJ : Addr} {dJ : Option Addr} {nJ : Nat} {sJ : Array (Option Value)} {tj0 tj1 : Tok}
    {tM : Tok}
    {tR : Tok}
    (mc_Row : mg "Row" = some (.ref c_Row))
    (mc_Piece : mg "Piece" = some (.ref c_Piece))
    (mc_Push : mg "Push" = some (.ref c_Push))
    (mc_Hold : mg "Hold" = some (.ref c_Hold))
    (mc_Net : mg "Net" = some (.ref c_Net))
    (m1 : mg "is_whole" = some (.ref f1))
    (F1 : FunD K "is_whole" "is_whole" sWhole .none f1 d1)
    (m2 : mg "greatest_common" = some (.ref f2))
    (F2 : FunD K "greatest_common" "greatest_common" sGc .none f2 d2)
    (m3 : mg "under" = some (.ref f3))
    (F3 : FunD K "under" "under" sUnder .none f3 d3)
    (m4 : mg "is_fraction" = some (.ref f4))
    (F4 : FunD K "is_fraction" "is_fraction" sIsF .none f4 d4)
    (a5_0 : PySem.W.findIn K (.ref c_Piece) "__init__" = some (some (.ref f5)))
    (a5_1 : PySem.W.findIn K (.ref c_Push) "__init__" = some (some (.ref f5)))
    (a5_2 : PySem.W.findIn K (.ref c_Hold) "__init__" = some (some (.ref f5)))
    (i5 : PySem.W.isFn K (.ref f5) = true)
    (F5 : FunD K "__init__" "Row.__init__" sRInit .none f5 d5)
    (a6_0 : PySem.W.findIn K (.ref c_Piece) "word" = some (some (.ref f6)))
    (i6 : PySem.W.isFn K (.ref f6) = true)
    (F6 : FunD K "word" "Piece.word" sWord_pc .none f6 d6)
    (a7_0 : PySem.W.findIn K (.ref c_Push) "word" = some (some (.ref f7)))
    (i7 : PySem.W.isFn K (.ref f7) = true)
    (F7 : FunD K "word" "Push.word" sWord_pu .none f7 d7)
    (a8_0 : PySem.W.findIn K (.ref c_Hold) "word" = some (some (.ref f8)))
    (i8 : PySem.W.isFn K (.ref f8) = true)
    (F8 : FunD K "word" "Hold.word" sWord_ho .none f8 d8)
    (a9_0 : PySem.W.findIn K (.ref c_Piece) "told" = some (some (.ref f9)))
    (a9_1 : PySem.W.findIn K (.ref c_Push) "told" = some (some (.ref f9)))
    (a9_2 : PySem.W.findIn K (.ref c_Hold) "told" = some (some (.ref f9)))
    (i9 : PySem.W.isFn K (.ref f9) = true)
    (F9 : FunD K "told" "Row.told" sRTold .none f9 d9)
    (m10 : mg "row_of" = some (.ref f10))
    (F10 : FunD K "row_of" "row_of" sRowOf .none f10 d10)
    (m11 : mg "is_piece_size" = some (.ref f11))
    (F11 : FunD K "is_piece_size" "is_piece_size" sPS .none f11 d11)
    (m12 : mg "is_number_below" = some (.ref f12))
    (F12 : FunD K "is_number_below" "is_number_below" sNB .none f12 d12)
    (m13 : mg "refuse_size" = some (.ref f13))
    (F13 : FunD K "refuse_size" "refuse_size" sRS .none f13 d13)
    (m14 : mg "refuse_points" = some (.ref f14))
    (F14 : FunD K "refuse_points" "refuse_points" sRP .none f14 d14)
    (m15 : mg "refuse_number" = some (.ref f15))
    (F15 : FunD K "refuse_number" "refuse_number" sRN .none f15 d15)
    (a16_0 : PySem.W.findIn K (.ref c_Net) "__init__" = some (some (.ref f16)))
    (i16 : PySem.W.isFn K (.ref f16) = true)
    (F16 : FunD K "__init__" "Net.__init__" sNInit .none f16 d16)
    (a17_0 : PySem.W.findIn K (.ref c_Net) "count" = some (some (.ref f17)))
    (i17 : PySem.W.isFn K (.ref f17) = true)
    (F17 : FunD K "count" "Net.count" sCount .none f17 d17)
    (a18_0 : PySem.W.findIn K (.ref c_Net) "add" = some (some (.ref f18)))
    (i18 : PySem.W.isFn K (.ref f18) = true)
    (F18 : FunD K "add" "Net.add" sAdd .none f18 d18)
    (a19_0 : PySem.W.findIn K (.ref c_Net) "rows" = some (some (.ref f19)))
    (i19 : PySem.W.isFn K (.ref f19) = true)
    (F19 : FunD K "rows" "Net.rows" sRows .none f19 d19)
    (m20 : mg "steps_from" = some (.ref f20))
    (F20 : FunD K "steps_from" "steps_from" sSteps .none f20 d20)
    (m21 : mg "way_along" = some (.ref f21))
    (F21 : FunD K "way_along" "way_along" sWay .none f21 d21)
    (m22 : mg "rings" = some (.ref f22))
    (l22 : K.lookup f22 = some ⟨oc22, od22, .func (PySem.W.fnOf "rings" "rings" (defArgs sRings) (defBody sRings) (defScope sRings) (.ref T22) kV22 dc22 pm22 an22 cd22 ct22), sl22⟩) (c22 : PySem.W.codeIn K cd22 "rings" = true) (k22 : PySem.W.keepIn K (.ref f22) = true)
    (lt22 : K.lookup T22 = some ⟨oT22, dT22, .seq #[.none] nT22, sT22⟩)
    (m23 : mg "block_of" = some (.ref f23))
    (F23 : FunD K "block_of" "block_of" sBlk .none f23 d23)
    (m24 : mg "_law_draw" = some (.ref f24))
    (F24 : FunD K "_law_draw" "_law_draw" sDraw .none f24 d24)
    (m25 : mg "_law_mix" = some (.ref f25))
    (F25 : FunD K "_law_mix" "_law_mix" sMix .none f25 d25)
    (m26 : mg "_law_part" = some (.ref f26))
    (F26 : FunD K "_law_part" "_law_part" sPart .none f26 d26)
    (m27 : mg "_law_net" = some (.ref f27))
    (F27 : FunD K "_law_net" "_law_net" sNet33 .none f27 d27)
    (m28 : mg "_law_small" = some (.ref f28))
    (F28 : FunD K "_law_small" "_law_small" sSmall .none f28 d28)
    (m29 : mg "_law_ways" = some (.ref f29))
    (F29 : FunD K "_law_ways" "_law_ways" sWays .none f29 d29)
    (m30 : mg "_law_all_ways" = some (.ref f30))
    (F30 : FunD K "_law_all_ways" "_law_all_ways" sAll .none f30 d30)
    (m31 : mg "_law_put" = some (.ref f31))
    (F31 : FunD K "_law_put" "_law_put" sPut .none f31 d31)
    (m32 : mg "_law_rings_put" = some (.ref f32))
    (F32 : FunD K "_law_rings_put" "_law_rings_put" sRgp .none f32 d32)
    (m33 : mg "law" = some (.ref f33))
    (l33 : K.lookup f33 = some ⟨oc33, od33, .func (PySem.W.fnOf "law" "law" (defArgs sLaw) (defBody sLaw) (defScope sLaw) .none kV33 dc33 pm33 an33 cd33 ct33), sl33⟩) (c33 : PySem.W.codeIn K cd33 "law" = true) (k33 : PySem.W.keepIn K (.ref f33) = true)
    (mv_NOUGHT : mg "NOUGHT" = some (.ref aN))
    (mv_JOINING_WORDS : mg "JOINING_WORDS" = some (.ref aJ))
    (mv_MOST_POINTS : mg "MOST_POINTS" = some (.int 20 tM))
    (mv_MOST_ROWS : mg "MOST_ROWS" = some (.int 40 tR))
    (lN : K.lookup aN = some ⟨.type "tuple", dN, .seq #[.int 0 t0, .int 1 t1] nN, sN⟩)
    (lJ : K.lookup aJ = some ⟨.type "tuple", dJ, .seq #[.str "piece" tj0, .str "hold" tj1] nJ, sJ⟩)
    (pg_Piece : PySem.W.plainGet K c_Piece Str.empty = true)
    (hd_Piece : PySem.W.hasDictIn K c_Piece = true)
    (po_Piece : PySem.W.plainOver K c_Piece = true)
    (sa_Piece : PySem.W.findIn K (.ref c_Piece) "__setattr__" = some (some (.builtin "object.__setattr__")))
    (mk_Piece : PySem.W.makesIn K c_Piece = true)
    (kc_Piece : PySem.W.keepIn K (.ref c_Piece) = true)
    (t1_Piece : PySem.W.findIn K (.ref c_Piece) "__class__" = some (some (.builtin "object.__class__")))
    (t4_Piece : PySem.W.mroIn K c_Piece (.type "object") = some true)
    (na_Piece_start : PySem.W.findIn K (.ref c_Piece) "start" = some none)
    (na_Piece_goal : PySem.W.findIn K (.ref c_Piece) "goal" = some none)
    (na_Piece_size : PySem.W.findIn K (.ref c_Piece) "size" = some none)
    (pg_Push : PySem.W.plainGet K c_Push Str.empty = true)
    (hd_Push : PySem.W.hasDictIn K c_Push = true)
    (po_Push : PySem.W.plainOver K c_Push = true)
    (sa_Push : PySem.W.findIn K (.ref c_Push) "__setattr__" = some (some (.builtin "object.__setattr__")))
    (mk_Push : PySem.W.makesIn K c_Push = true)
    (kc_Push : PySem.W.keepIn K (.ref c_Push) = true)
    (t1_Push : PySem.W.findIn K (.ref c_Push) "__class__" = some (some (.builtin "object.__class__")))
    (t4_Push : PySem.W.mroIn K c_Push (.type "object") = some true)
    (na_Push_start : PySem.W.findIn K (.ref c_Push) "start" = some none)
    (na_Push_goal : PySem.W.findIn K (.ref c_Push) "goal" = some none)
    (na_Push_size : PySem.W.findIn K (.ref c_Push) "size" = some none)
    (pg_Hold : PySem.W.plainGet K c_Hold Str.empty = true)
    (hd_Hold : PySem.W.hasDictIn K c_Hold = true)
    (po_Hold : PySem.W.plainOver K c_Hold = true)
    (sa_Hold : PySem.W.findIn K (.ref c_Hold) "__setattr__" = some (some (.builtin "object.__setattr__")))
    (mk_Hold : PySem.W.makesIn K c_Hold = true)
    (kc_Hold : PySem.W.keepIn K (.ref c_Hold) = true)
    (t1_Hold : PySem.W.findIn K (.ref c_Hold) "__class__" = some (some (.builtin "object.__class__")))
    (t4_Hold : PySem.W.mroIn K c_Hold (.type "object") = some true)
    (na_Hold_start : PySem.W.findIn K (.ref c_Hold) "start" = some none)
    (na_Hold_goal : PySem.W.findIn K (.ref c_Hold) "goal" = some none)
    (na_Hold_size : PySem.W.findIn K (.ref c_Hold) "size" = some none)
    (tt2 : PySem.W.specialIn K (.builtin "object.__class__") "__get__" = some (some (.builtin "getset_descriptor.__get__")))
    (tt3 : PySem.W.takesIn K (.builtin "object.__class__") = some true)
    (isR_Piece : PySem.W.kitOne K (.ref c_Piece) (.ref c_Row) = some true)
    (isR_Push : PySem.W.kitOne K (.ref c_Push) (.ref c_Row) = some true)
    (isR_Hold : PySem.W.kitOne K (.ref c_Hold) (.ref c_Row) = some true)
    (isK_Piece_Push : PySem.W.kitOne K (.ref c_Piece) (.ref c_Push) = some false)
    (isK_Piece_Hold : PySem.W.kitOne K (.ref c_Piece) (.ref c_Hold) = some false)
    (isK_Push_Piece : PySem.W.kitOne K (.ref c_Push) (.ref c_Piece) = some false)
    (isK_Push_Hold : PySem.W.kitOne K (.ref c_Push) (.ref c_Hold) = some false)
    (isK_Hold_Piece : PySem.W.kitOne K (.ref c_Hold) (.ref c_Piece) = some false)
    (isK_Hold_Push : PySem.W.kitOne K (.ref c_Hold) (.ref c_Push) = some false)
    (pg_Net : PySem.W.plainGet K c_Net Str.empty = true)
    (hd_Net : PySem.W.hasDictIn K c_Net = true)
    (po_Net : PySem.W.plainOver K c_Net = true)
    (sa_Net : PySem.W.findIn K (.ref c_Net) "__setattr__" = some (some (.builtin "object.__setattr__")))
    (mk_Net : PySem.W.makesIn K c_Net = true)
    (kc_Net : PySem.W.keepIn K (.ref c_Net) = true)
    (t1_Net : PySem.W.findIn K (.ref c_Net) "__class__" = some (some (.builtin "object.__class__")))
    (t4_Net : PySem.W.mroIn K c_Net (.type "object") = some true)
    (na_Net_point_count : PySem.W.findIn K (.ref c_Net) "point_count" = some none)
    (na_Net_kept : PySem.W.findIn K (.ref c_Net) "kept" = some none)
    (n_isinstance : mg "isinstance" = none)
    (n_int : mg "int" = none)
    (n_bool : mg "bool" = none)
    (n_abs : mg "abs" = none)
    (n_len : mg "len" = none)
    (n_range : mg "range" = none)
    (n_str : mg "str" = none)
    (n_tuple : mg "tuple" = none)
    (n_list : mg "list" = none)
    (n_all : mg "all" = none)
    (n_enumerate : mg "enumerate" = none)
    (n_min : mg "min" = none)
    (n_max : mg "max" = none)
    (n_sorted : mg "sorted" = none)
    (n_set : mg "set" = none) :
    ∃ fd : FuncData, (∀ (s : Shared) (v : Value), BindsTo s fd ⟨[v], []⟩ [("_law_script", v)]) ∧ ∀ base : Heap, K.In base → base.Ns mainGlobals mg → FnOk l.prog w K mg base CX0 8 fa fd ["_law_script"] (spLaw K) := by
  have e := hfa.symm.trans m33
  cases e
  have b1 := F1.b1 "thing" (by intros; rfl)
  have b2 := F2.b2 "one" "other" (by intros; rfl)
  have b3 := F3.b2 "one" "other" (by intros; rfl)
  have b4 := F4.b1 "thing" (by intros; rfl)
  have b5 := F5.b4 "self" "start" "goal" "size" (by intros; rfl)
  have b6 := F6.b1 "self" (by intros; rfl)
  have b7 := F7.b1 "self" (by intros; rfl)
  have b8 := F8.b1 "self" (by intros; rfl)
  have b9 := F9.b1 "self" (by intros; rfl)
  have b10 := F10.b1 "told" (by intros; rfl)
  have b11 := F11.b1 "thing" (by intros; rfl)
  have b12 := F12.b2 "thing" "bound" (by intros; rfl)
  have b13 := F13.b2 "word" "size" (by intros; rfl)
  have b14 := F14.b2 "some" "many" (by intros; rfl)
  have b15 := F15.b2 "k" "count" (by intros; rfl)
  have b16 := F16.b2 "self" "many" (by intros; rfl)
  have b17 := F17.b1 "self" (by intros; rfl)
  have b18 := F18.b2 "self" "row" (by intros; rfl)
  have b19 := F19.b1 "self" (by intros; rfl)
  have b20 := F20.b3 "rows" "numbers" "point" (by intros; rfl)
  have b21 := F21.b4 "rows" "numbers" "begin" "end" (by intros; rfl)
  have F22 := fund_mk (st := sRings) l22 c22 k22
  have b22 : Binds K _ ["net", "words"] [] := fun s us XX hl => match us, hl with | [_, _], _ => PySem.W.binds_K (fd := PySem.W.fnOf "rings" "rings" (defArgs sRings) (defBody sRings) (defScope sRings) (.ref T22) kV22 dc22 pm22 an22 cd22 ct22) XX rfl lt22 rfl rfl rfl
  have bd22 : Binds K _ ["net", "words"] [.none] := fun s us XX hl => match us, (show us.length = 1 by simp at hl; omega) with | [_], _ => PySem.W.binds_K (fd := PySem.W.fnOf "rings" "rings" (defArgs sRings) (defBody sRings) (defScope sRings) (.ref T22) kV22 dc22 pm22 an22 cd22 ct22) XX rfl lt22 rfl rfl rfl
  have b23 := F23.b2 "net" "k" (by intros; rfl)
  have b24 := F24.b2 "_law_script" "_law_k" (by intros; rfl)
  have b25 := F25.b3 "_law_cell" "_law_turn" "_law_many" (by intros; rfl)
  have b26 := F26.b2 "_law_cell" "_law_k" (by intros; rfl)
  have b27 := F27.b2 "_law_many" "_law_rows" (by intros; rfl)
  have b28 := F28.b2 "_law_script" "_law_many" (by intros; rfl)
  have b29 := F29.b2 "_law_rows" "_law_at" (by intros; rfl)
  have b30 := F30.b2 "_law_script" "_law_many" (by intros; rfl)
  have b31 := F31.b5 "_law_rows" "_law_marks" "_law_cell" "_law_mark" "_law_ends" (by intros; rfl)
  have b32 := F32.b1 "_law_script" (by intros; rfl)
  have F33 := fund_mk (st := sLaw) l33 c33 k33
  refine ⟨PySem.W.fnOf "law" "law" (defArgs sLaw) (defBody sLaw) (defScope sLaw) .none kV33 dc33 pm33 an33 cd33 ct33, fun s v => .of_eq rfl, fun base _ _ => ?_⟩
  have bl : Bl mg := ⟨n_isinstance, n_int, n_bool, n_abs⟩
  have T : RT K mg c_Row (kd3 c_Piece c_Push c_Hold) := ⟨all3 ⟨pg_Piece, hd_Piece, po_Piece, sa_Piece⟩ ⟨pg_Push, hd_Push, po_Push, sa_Push⟩ ⟨pg_Hold, hd_Hold, po_Hold, sa_Hold⟩, all3 na_Piece_start na_Push_start na_Hold_start, all3 na_Piece_goal na_Push_goal na_Hold_goal, all3 na_Piece_size na_Push_size na_Hold_size, all3 t1_Piece t1_Push t1_Hold, tt2, tt3, all3 t4_Piece t4_Push t4_Hold, all3 isR_Piece isR_Push isR_Hold, all3 (all3 (kit_self _ _) isK_Piece_Push isK_Piece_Hold) (all3 isK_Push_Piece (kit_self _ _) isK_Push_Hold) (all3 isK_Hold_Piece isK_Hold_Push (kit_self _ _)), mc_Row, all3 mc_Piece mc_Push mc_Hold⟩
  have fN : ∀ H, Fq K H aN (0, 1) := Fq.mod lN
  have fJ : ∀ H, SqT K H aJ [.str "piece", .str "hold"] := fun H => .inr ⟨_, _, _, lJ, rfl, rfl, (by show 2 ≤ sizeLine; decide), .cons ⟨_, rfl⟩ (.cons ⟨_, rfl⟩ .nil)⟩
  have NTx : NT K mg c_Net := ⟨⟨pg_Net, hd_Net, po_Net, sa_Net⟩, na_Net_point_count, na_Net_kept, t1_Net, tt2, tt3, t4_Net, mc_Net⟩
  have R1 := ok_whole (P := l.prog) (w := w) (K := K) (mg := mg) (base := base) (CX := CX0) F1 bl
  have R2 := ok_gc (P := l.prog) (w := w) (K := K) (mg := mg) (base := base) (CX := CX0) F2 bl
  have R3 := ok_under (P := l.prog) (w := w) (K := K) (mg := mg) (base := base) (CX := CX0) F3 
  have R4 := ok_isf (P := l.prog) (w := w) (K := K) (mg := mg) (base := base) (CX := CX0) F4 bl n_len n_tuple R1 b1 F1.kp m1 R2 b2 F2.kp m2
  have R5 := ok_rinit (P := l.prog) (w := w) (K := K) (mg := mg) (base := base) (CX := CX0) F5 T
  have R6 := ok_word_pc (P := l.prog) (w := w) (K := K) (mg := mg) (base := base) (CX := CX0) F6 
  have R7 := ok_word_pu (P := l.prog) (w := w) (K := K) (mg := mg) (base := base) (CX := CX0) F7 
  have R8 := ok_word_ho (P := l.prog) (w := w) (K := K) (mg := mg) (base := base) (CX := CX0) F8 
  have GW : ∀ k, FnOk l.prog w K mg base CX0 1 (kd3 f6 f7 f8 k) (kd3 _ _ _ k) ["self"] (spWord k) := all3 (R6) (R7) (R8)
  have bW : ∀ k, Binds K (kd3 _ _ _ k) ["self"] [] := all3 (b6) (b7) (b8)
  have mW : ∀ k, Meth K (kd3 c_Piece c_Push c_Hold k) "word" (kd3 f6 f7 f8 k) := all3 (⟨a6_0, i6, F6.kp⟩) (⟨a7_0, i7, F7.kp⟩) (⟨a8_0, i8, F8.kp⟩)
  have R9 := ok_rtold (P := l.prog) (w := w) (K := K) (mg := mg) (base := base) (CX := CX0) F9 T GW bW mW
  have mT : ∀ k, Meth K (kd3 c_Piece c_Push c_Hold k) "told" f9 := all3 (⟨a9_0, i9, F9.kp⟩) (⟨a9_1, i9, F9.kp⟩) (⟨a9_2, i9, F9.kp⟩)
  have MK : ∀ k, Mk K (kd3 c_Piece c_Push c_Hold k) f5 := all3 (⟨mk_Piece, a5_0, i5, kc_Piece⟩) (⟨mk_Push, a5_1, i5, kc_Push⟩) (⟨mk_Hold, a5_2, i5, kc_Hold⟩)
  have R10 := ok_rowof (P := l.prog) (w := w) (K := K) (mg := mg) (base := base) (CX := CX0) F10 T bl n_str R5 b5 MK
  have R11 := ok_ps (P := l.prog) (w := w) (K := K) (mg := mg) (base := base) (CX := CX0) F11 fN mv_NOUGHT (isf_good R4) b4 F4.kp m4 R3 b3 F3.kp m3
  have R12 := ok_nb (P := l.prog) (w := w) (K := K) (mg := mg) (base := base) (CX := CX0) F12  R1 b1 F1.kp m1
  have R13 := ok_rs (P := l.prog) (w := w) (K := K) (mg := mg) (base := base) (CX := CX0) F13 (isf_good R4) b4 F4.kp m4 R11 b11 F11.kp m11
  have R14 := ok_rp (P := l.prog) (w := w) (K := K) (mg := mg) (base := base) (CX := CX0) F14 n_all R12 b12 F12.kp m12
  have R15 := ok_rn (P := l.prog) (w := w) (K := K) (mg := mg) (base := base) (CX := CX0) F15  R12 b12 F12.kp m12
  have R16 := ok_ninit (P := l.prog) (w := w) (K := K) (mg := mg) (base := base) (CX := CX0) F16 NTx mv_MOST_POINTS R1 b1 F1.kp m1
  have R17 := ok_count (P := l.prog) (w := w) (K := K) (mg := mg) (base := base) (CX := CX0) F17 NTx n_len
  have R18 := ok_add (P := l.prog) (w := w) (K := K) (mg := mg) (base := base) (CX := CX0) F18 NTx mv_MOST_ROWS n_len T R9 b9 mT R14 b14 F14.kp m14 R13 b13 F13.kp m13
  have R19 := ok_rows (P := l.prog) (w := w) (K := K) (mg := mg) (base := base) (CX := CX0) F19 NTx R10 b10 F10.kp m10
  have MN : Mk K c_Net f16 := ⟨mk_Net, a16_0, i16, kc_Net⟩
  have R20 := ok_steps (P := l.prog) (w := w) (K := K) (mg := mg) (base := base) (CX := CX0) F20 T
  have R21 := ok_way (P := l.prog) (w := w) (K := K) (mg := mg) (base := base) (CX := CX0) F21 n_len R20 b20 F20.kp m20
  have R22 := ok_rings (P := l.prog) (w := w) (K := K) (mg := mg) (base := base) (CX := CX0) F22 NTx T n_enumerate fJ mv_JOINING_WORDS GW bW mW R19 b19 ⟨a19_0, i19, F19.kp⟩ R21 b21 F21.kp m21
  have R23 := ok_blk (P := l.prog) (w := w) (K := K) (mg := mg) (base := base) (CX := CX0) F23 n_list n_range n_enumerate NTx R17 b17 ⟨a17_0, i17, F17.kp⟩ R15 b15 F15.kp m15 R22 bd22 (.cons rfl .nil) F22.kp m22
  have R24 := ok_draw (P := l.prog) (w := w) (K := K) (mg := mg) (base := base) (CX := CX0) F24 
  have R25 := ok_mix (P := l.prog) (w := w) (K := K) (mg := mg) (base := base) (CX := CX0) F25 n_range
  have R26 := ok_part (P := l.prog) (w := w) (K := K) (mg := mg) (base := base) (CX := CX0) F26 n_range
  have R27 := ok_net33 (P := l.prog) (w := w) (K := K) (mg := mg) (base := base) (CX := CX0) F27 NTx R18 b18 ⟨a18_0, i18, F18.kp⟩ R16 b16 MN R10 b10 F10.kp m10
  have R28 := ok_small (P := l.prog) (w := w) (K := K) (mg := mg) (base := base) (CX := CX0) F28  R25 b25 F25.kp m25
  have R29 := ok_ways (P := l.prog) (w := w) (K := K) (mg := mg) (base := base) (CX := CX0) F29 n_range n_len n_sorted n_set
  have R30 := ok_all (P := l.prog) (w := w) (K := K) (mg := mg) (base := base) (CX := CX0) F30 n_range n_len R28 b28 F28.kp m28 R27 b27 F27.kp m27 R29 b29 F29.kp m29 R23 b23 F23.kp m23
  have R31 := ok_put (P := l.prog) (w := w) (K := K) (mg := mg) (base := base) (CX := CX0) F31 n_int n_len R25 b25 F25.kp m25
  have R32 := ok_rgp (P := l.prog) (w := w) (K := K) (mg := mg) (base := base) (CX := CX0) F32 n_range n_len n_min n_max R25 b25 F25.kp m25 R26 b26 F26.kp m26 R31 b31 F31.kp m31
  exact ok_law (P := l.prog) (w := w) (K := K) (mg := mg) (base := base) (CX := CX0) F33 n_len n_range R24 b24 F24.kp m24 R30 b30 F30.kp m30 R32 b32 F32.kp m32 R27 b27 F27.kp m27 R23 b23 F23.kp m23
theorem walk {l : PySem.W.OpenLaw} {q : Program} {loose : List Str} {XP : (Str → Option Value) → Heap → Prop} {YP : World → Heap → Prop} {d : DefRec} {K : Params → PySem.W.Frag} (hn : l.most = some 63) (hdf : d.params.defaults = [])
    (hY : ∀ (w : World) (h : Heap), YP w h → (K w.params).In h)
    (F : ∀ (w : World) (mg : Str → Option Value) (fa : Addr) (h : Heap), (K w.params).In h → h.Ns mainGlobals mg → mg d.name = some (.ref fa) →
      ∃ fd : FuncData, (∀ (s : Shared) (u : Value), BindsTo s fd ⟨[u], []⟩ [("_law_script", u)]) ∧ ∀ base : Heap, (K w.params).In base → base.Ns mainGlobals mg → FnOk l.prog w (K w.params) mg base CX0 8 fa fd ["_law_script"] (spLaw (K w.params))) :
    PySem.W.WalkO q loose XP YP l.row.toRowW d [] (fun f vs => PySem.call f vs) :=
  L2.walk_of (n := 63) (k := 8) (x := "_law_script") (CX := fun _ => CX0) (sp := fun w => spLaw (K w.params)) hn (by decide) hdf ⟨rfl, by decide, by decide⟩ hY F (fun _ _ a ns hl _ hS => ⟨a, ns, rfl, hS, hl, fun _ => rfl⟩) fun _ _ _ _ _ z => z
end K71
local macro_rules | `(tactic| walk_at "F9") => `(tactic| (refine' L2.fund_mk ?l9 ?c9 ?kk9; (case l9 => k_is); (case c9 => k_is); (case kk9 => show _ = _; k_is)))
namespace PySem.W.Fast
def tw270732406383685420:=0
def tw9290381620421049422:=0
def tw13491913052491354149:=0
def tw18250064164811233055:=0
def tw2364456930211857254:=0
def tw3914981232445693782:=0
def tw1872724099058707298:=0
def tw16868613582251729288:=0
def tw4600400481805826358:=0
def tw16807546835358538161:=0
def tw9419160725600452238:=0
def tw1988594389585154318:=0
def tw15569333526533502154:=0
def tw18191460195108447833:=0
def tw7332085862808310582:=0
def tw489642447919871835:=0
def tw3283304127816775051:=0
def tw14232720131566131303:=0
def tw17668612553445397646:=0
def tw11893228319009805733:=0
def tw11190981754847563317:=0
def tw9067057457067929192:=0
def tw5202228090722049930:=0
def tw6484163789545556115:=0
def tw16151304111806529731:=0
def tw18178277901847055506:=0
def tw2397212700775373055:=0
def tw9273401970516927908:=0
def tw15734285344349371843:=0
def tw10932811039412283926:=0
def tw16959615742707710210:=0
def tw16335762168580255690:=0
def tw7086969948355604768:=0
def tw14079711889351298173:=0
def tw1636103638198297226:=0
def tw267254866052120349:=0
def tw7106257241784294173:=0
def tw1915097265642600219:=0
def tw6084790958052962299:=0
def tw7583088655763828138:=0
def tw10349485330320904886:=0
def tw4653455744736746018:=0
def tw605219965327047108:=0
def tw15537088214556162269:=0
def tw13782651259527521980:=0
def tw13320078786025443599:=0
def tw7249069148544970112:=0
def tw17405125906295359922:=0
def tw13974985848521497133:=0
def tw9316383211982700132:=0
def tw11650031085650881637:=0
def tw2480048611855489015:=0
def tw11769695295697350722:=0
def tw7467009208662785480:=0
def tw7759518438652940973:=0
def tw235558365843294505:=0
def tw14639106362246450397:=0
def tw18338502094245994552:=0
def tw3477988988222355783:=0
def tw4225151430859372506:=0
def tw3403484190439126869:=0
def tw9149944422626808:=0
def tw13604133056688482350:=0
def tw16820103171460521359:=0
def tw9250919963548233792:=0
def tw8968260078200925743:=0
def tw5108391879267886082:=0
def tw14431486527048869482:=0
def tw7100793070595212842:=0
def tw14421949346254613632:=0
def tw6576062403293874636:=0
def tw12097695448055072270:=0
def tw3428356623965902633:=0
def tw15961842287663386223:=0
def tw12004157361297776573:=0
def tw4409282598055311063:=0
def tw1506103991666832568:=0
def tw7957405968691710:=0
def tw7481232553837849473:=0
def tw17642022590949342857:=0
def tw4051977599378199190:=0
def tw8099051155267268954:=0
def tw14841129922132340438:=0
def tw2735717272495098173:=0
def tw7020522385042883111:=0
def tw2755997466692089483:=0
def tw12861875487737907625:=0
def tw7079435612715429521:=0
def tw5575319067402015686:=0
def tw1149831594744811172:=0
def tw1572349897747663135:=0
def tw9139996756947396229:=0
def tw9854968205236568947:=0
def tw16563507449582365818:=0
def tw4324167987746657630:=0
def tw11553410366257655533:=0
def tw12430354799097204495:=0
def tw9872656321822989890:=0
def tw13127507362321663891:=0
def tw2559068975277982399:=0
def tw3557203371245435950:=0
def tw15179261073322353408:=0
def tw13687373220944487467:=0
def tw10404251402273949901:=0
def tw1850454309123297294:=0
def tw3162220127541440752:=0
def tw10690614292680567110:=0
def tw18046140624076501606:=0
def tw8931382721476275645:=0
def tw3492041469636670635:=0
def tw11491045498040493320:=0
def tw8210582989383902884:=0
def tw5887902450793771859:=0
def tw11032263487038599419:=0
def tw9626456785078856603:=0
def tw16853848401267528527:=0
def tw6964585376237467869:=0
def tw14327843538724681876:=0
def tw12633674971917713460:=0
def tw16727310066901852349:=0
def tw2740293244075640023:=0
def tw9127488294704535488:=0
def tw1754331666881972527:=0
def tw8545222618244417227:=0
def tw14034217206724777320:=0
def tw2727705735243946194:=0
def tw6905102379879627658:=0
def tw18259068838273325194:=0
def tw8051460624000569949:=0
def tw16407310160864682500:=0
def tw14453295757542959506:=0
def tw5773169383070823518:=0
def tw5918091568970078568:=0
def tw9245043496647089632:=0
def tw16378713200187075219:=0
def tw8431329762140378955:=0
def tw10825899701050104647:=0
def tw2870209689820645108:=0
def tw8213798809324495128:=0
def tw4531653903764872355:=0
def tw12465934823247567605:=0
def tw13907401363009764209:=0
def tw181241348594176435:=0
def tw6317664268598116290:=0
def tw5768626673474197579:=0
def tw12282520325140015584:=0
def tw10905927220269310361:=0
def tw128344634780805288:=0
def tw9552483190165058127:=0
def tw17144075880594750075:=0
def tw4825129133221703637:=0
def tw17988276520265107986:=0
def tw4106004861905010817:=0
def tw9793577771898780686:=0
def tw6126999054077944418:=0
def tw491433653664167208:=0
def tw17201778379425315825:=0
def tw18301126954493060094:=0
def tw9653949506335558624:=0
def tw14528612766576143999:=0
def tw134440491748851238:=0
def tw15343504022599031204:=0
def tw4092447920839929715:=0
def tw2134892628044411647:=0
def tw5215484100415022788:=0
def tw5422646232220400826:=0
def tw3496242249063482453:=0
def tw15610012987476362269:=0
def tw1746036425455973285:=0
def tw17319519289194683024:=0
def tw17206234276665878870:=0
def tw1202870881187764821:=0
def tw8011092762044007842:=0
def tw8745710979293369355:=0
def tw16220945621920180248:=0
def tw7744801009047329121:=0
def tw18378616717832390560:=0
def tw17146404821825702190:=0
def tw4496888063645897353:=0
def tw5296674452056719408:=0
def tw18262231706343822681:=0
def tw4904576743506978851:=0
def tw2272705004566125666:=0
def tw11828224597397955223:=0
def tw12249258780210602667:=0
def tw3670589329971957588:=0
def tw4603333008725968087:=0
def tw15147144050162242577:=0
def tw15052888622272008794:=0
def tw3611584270619787058:=0
def tw6326933251958979454:=0
def tw5295413696792290777:=0
def tw1371943622196813979:=0
def tw7184620348316158086:=0
def tw11689641579978875698:=0
def tw11165846846225158247:=0
def tw4209190427601424201:=0
def tw8337855368234936899:=0
def tw3965155830526207185:=0
def tw4567160995449318755:=0
def tw2849124094251712138:=0
def tw3946667480992601391:=0
def tw7608006593041866373:=0
def tw7316419646831986491:=0
def tw13288129682156233092:=0
def tw1163639509960033729:=0
def tw11758109373425748130:=0
def tw9432843143132927673:=0
def tw17633740698823783698:=0
def tw16028978384683257522:=0
def tw14742623448033760822:=0
def tw9040055658373464399:=0
def tw8230515734151776631:=0
def tw16078973011282249323:=0
def tw10806037401800899744:=0
def tw15577479733212710523:=0
def tw8072019351108933820:=0
def tw196642611179783148:=0
def tw13712791837221271361:=0
def tw15466264697732489799:=0
def tw7025165479260063329:=0
def tw14409416752101677719:=0
def tw1539092111333776686:=0
def tw2212411653678648358:=0
def tw6620326201719978452:=0
def tw14219178746517752778:=0
def tw1075087387660911030:=0
def tw9948203686012456184:=0
def tw14205214973399597316:=0
def tw17815792068845175402:=0
def tw14094079003039903761:=0
def tw4474097913621408137:=0
def tw11996016956979962584:=0
def tw8869010061962195344:=0
def tw12083226706905226422:=0
def tw16808647977370584680:=0
def tw11880339234885530323:=0
def tw9506865761373128968:=0
def tw11976148509302181180:=0
def tw17701614894182058202:=0
def tw4363256367150827578:=0
def tw16030216771861831181:=0
def tw12135945906289850382:=0
def tw11902701026564809261:=0
def tw4307321710212571970:=0
def tw7998944108999746632:=0
def tw707201868699383349:=0
def tw14665032713489685634:=0
def tw14157055119531780039:=0
def tw14631239530051937308:=0
def tw14127588464090423096:=0
def tw880485454475095020:=0
def tw4850450766427107547:=0
def tw6118787553966073001:=0
def tw12653502749278709344:=0
def tw6811443076877389174:=0
def tw535988648586741905:=0
def tw7484703601186800999:=0
def tw8408948335107731253:=0
def tw7104898177214187486:=0
def tw16607656670715843007:=0
def tw9051358215829114040:=0
def tw15987047691603051329:=0
def tw14006054551004944981:=0
def tw14878806768899493405:=0
def tw7629614774898168026:=0
def tw5651324740765262381:=0
def tw1596148093079295206:=0
def tw17298570865071614362:=0
def tw1064497765445891634:=0
def tw11461277801115120428:=0
def tw18310454012931758236:=0
def tw3642757264698666090:=0
def tw14238809345670143283:=0
def tw11840529163766653429:=0
def tw15189247902342875542:=0
def tw14290456759829219087:=0
def tw16602833959874685879:=0
def tw4601255843825961447:=0
def tw17773024620175588753:=0
def tw4816744019420189803:=0
def tw18189811792291462167:=0
def tw2109667270941362903:=0
def tw15557180492639600459:=0
def tw5917970842810569983:=0
def tw12904929967051838959:=0
def tw3792247855127683571:=0
def tw8233748736903560358:=0
def tw6913233635646908928:=0
def tw6622390198204183438:=0
def tw16726104702220426425:=0
def tw11200161080113400991:=0
def tw15457759649333854307:=0
def tw17104766214363758658:=0
def tw12828558305803761771:=0
def tw5267585924616866269:=0
def tw650352318649930916:=0
def tw7081466897074000329:=0
def tw2960502385831707213:=0
def tw7325394771233870388:=0
def tw9708451522222498285:=0
def tw17546849962471931180:=0
def tw8118883082325831665:=0
def tw16272245348507852042:=0
def tw4622065896572901264:=0
def tw10014156330268421627:=0
def tw6269538197871642667:=0
def tw9921105078067997908:=0
def tw11713653396021584162:=0
def tw3610935202954273410:=0
def tw10301911849055619628:=0
def tw8238265778444626800:=0
def tw12400446230438398658:=0
def tw5816616940417867716:=0
def tw11855307999624048450:=0
def tw8736028287677660979:=0
def tw15638035937173839528:=0
def tw14167601453947858104:=0
def tw13961585328621401957:=0
def tw14212040297510666121:=0
def tw8360625188899860002:=0
def tw8993700158097801591:=0
def tw12829050794941096097:=0
def tw18390780950865162488:=0
def tw9952207037454461828:=0
def tw9586827320708859291:=0
def tw2837481061140195000:=0
def tw2625425682137414772:=0
def tw6506901828325339871:=0
def tw12848032790059318682:=0
def tw5855488421116209197:=0
def tw2354415164772089449:=0
def tw5852866427333804554:=0
def tw13188322599774864532:=0
def tw1577348094405140677:=0
def tw14892549983667488452:=0
def tw16376192935751219073:=0
def tw4907009300979028470:=0
def tw17336534046114327545:=0
def tw7908065455592100252:=0
def tw10880029741130950982:=0
def tw10193123061511549329:=0
def tw2924364458422072310:=0
def tw6368440427897457848:=0
def tw13605241745052461350:=0
def tw8319577810115973345:=0
def tw6388788420001104368:=0
def tw3724066603946595931:=0
def tw8617432931769774947:=0
def tw8133303242428136697:=0
def tw11506703129878946272:=0
def tw1772883690218373104:=0
def tw15443493947758140159:=0
def tw10336635142497325380:=0
def tw286090034318510301:=0
def tw38336841795997084:=0
def tw3684871498198001527:=0
def tw8539189015893838694:=0
def tw8728395472900267039:=0
def tw13766082462216363918:=0
def tw5517416899319288774:=0
def tw1999499675032414519:=0
def tw6021781000492353688:=0
def tw246176595530389112:=0
def tw9672311924669503443:=0
def tw12777821542481802169:=0
def tw13765725935828873940:=0
def tw11326082243686175152:=0
def tw10978874965738302441:=0
def tw7176136725061112855:=0
def tw4322340952939772129:=0
def tw10424238592013937257:=0
def tw6789908219522873827:=0
def tw6661755591485249423:=0
def tw9043267124486533037:=0
def tw16569720197907971160:=0
def tw6867277389726823233:=0
def tw8726263646085326839:=0
def tw2579512216324415104:=0
def tw16083426972551896793:=0
def tw14445384461193125601:=0
def tw5486406018617679178:=0
def tw10821398124824373379:=0
def tw2797953177943480044:=0
def tw8346189016295436351:=0
def tw11408329413271264136:=0
def tw17701238704741431576:=0
def tw4854054860911782745:=0
def tw16061679794734342943:=0
def tw16312506881615440290:=0
def tw16065294960762863520:=0
def tw17470671740962623270:=0
def tw6157409651808276311:=0
def tw3518222215788936021:=0
def tw5145394171659485051:=0
def tw9859084566944181550:=0
def tw10584576122205764875:=0
def tw8401686549265491283:=0
def tw1959329962473924005:=0
def tw8100814927317779222:=0
def tw5830327841448868322:=0
def tw16143437689406012761:=0
def tw1940499512336771256:=0
def tw17160092276714136076:=0
def tw10467094415102253351:=0
def tw9432371751348271617:=0
def tw12457849220250203124:=0
def tw4093660350416369200:=0
def tw17952801106354564445:=0
def tw12864085331436765803:=0
def tw5159324671203170319:=0
def tw8090060557356613423:=0
def tw9922001472838756375:=0
def tw10173197623418931551:=0
def tw7589376906351736557:=0
def tw7753411500392199077:=0
def tw16384168246147675066:=0
def tw15910942277724622280:=0
def tw3134536720948993122:=0
def tw16332975895013431092:=0
def tw2160905197178218629:=0
def tw8173888933767295695:=0
def tw4824046249153047022:=0
def tw6450676039218672445:=0
def tw11972532782455609684:=0
def tw10313456574349494202:=0
def tw6748085704552005504:=0
def tw3187275569542110192:=0
def tw3323283465370188366:=0
def tw10361224021430211672:=0
def tw1271909532280094343:=0
def tw12369940596257061467:=0
def tw13782791443267266684:=0
def tw18027187152402631514:=0
def tw17507431220103645195:=0
def tw7424300638534802953:=0
def tw1361565491914022640:=0
def tw16733315925730719029:=0
def tw14242375997081809877:=0
def tw17000632351544604081:=0
def tw676571039929120726:=0
def tw7974508970772001565:=0
def tw18218671932517945105:=0
def tw6061775398340328133:=0
def tw4382171754134730630:=0
def tw10569040018442239583:=0
def tw18051394880058696248:=0
def tw8162334873798708364:=0
def tw17801841182305066961:=0
def tw12428156353885835256:=0
def tw8124494786101366787:=0
def tw7688332849408340202:=0
def tw11187666644869945676:=0
def tw2544405230922474417:=0
def tw8795419489095342319:=0
def tw11270131430266979514:=0
def tw16440837812307153508:=0
def tw6352553059146680324:=0
def tw3020431261858733612:=0
def tw8835742876119654384:=0
def tw15565982963299622754:=0
def tw6877272377972406094:=0
def tw12862139448208481589:=0
def tw16515015567344509993:=0
def tw10197100713398951854:=0
def tw15664334838410308316:=0
def tw9479265252133008441:=0
def tw18166479695540696807:=0
def tw17067529956362441599:=0
def tw7673019511961846482:=0
end PySem.W.Fast
open PySem PySem.W PyProof.Rows
set_option maxRecDepth 100000 in
set_option maxHeartbeats 0 in
theorem PySem.Challenge.cw_ohmyard_k71_blocks_holds : PySem.Challenge.rw_ohmyard_k71_blocks.Holds := by
  w_on; o_law; z_head; (case hw => w_witness2)
  k_fill
  refine L2.walkX_of (fun _ => by kernel_rfl) (K71.walk (l := PySem.Challenge.rw_ohmyard_k71_blocks) rfl rfl (fun w h Y => Y) ?F)
  case F =>
    intro w mg fa h KX G hmg
    refine' K71.all_mk hmg (mg_of KX G ?y_Row) (mg_of KX G ?y_Piece) (mg_of KX G ?y_Push) (mg_of KX G ?y_Hold) (mg_of KX G ?y_Net) (mg_of KX G ?a1) ?F1 (mg_of KX G ?a2) ?F2 (mg_of KX G ?a3) ?F3 (mg_of KX G ?a4) ?F4 ?a5_0 ?a5_1 ?a5_2 ?i5 ?F5 ?a6_0 ?i6 ?F6 ?a7_0 ?i7 ?F7 ?a8_0 ?i8 ?F8 ?a9_0 ?a9_1 ?a9_2 ?i9 ?F9 (mg_of KX G ?a10) ?F10 (mg_of KX G ?a11) ?F11 (mg_of KX G ?a12) ?F12 (mg_of KX G ?a13) ?F13 (mg_of KX G ?a14) ?F14 (mg_of KX G ?a15) ?F15 ?a16_0 ?i16 ?F16 ?a17_0 ?i17 ?F17 ?a18_0 ?i18 ?F18 ?a19_0 ?i19 ?F19 (mg_of KX G ?a20) ?F20 (mg_of KX G ?a21) ?F21 (mg_of KX G ?a22) ?l22 ?c22 ?k22 ?lt22 (mg_of KX G ?a23) ?F23 (mg_of KX G ?a24) ?F24 (mg_of KX G ?a25) ?F25 (mg_of KX G ?a26) ?F26 (mg_of KX G ?a27) ?F27 (mg_of KX G ?a28) ?F28 (mg_of KX G ?a29) ?F29 (mg_of KX G ?a30) ?F30 (mg_of KX G ?a31) ?F31 (mg_of KX G ?a32) ?F32 (mg_of KX G ?a33) ?l33 ?c33 ?k33 (mg_of KX G ?v_NOUGHT) (mg_of KX G ?v_JOINING_WORDS) (mg_of KX G ?v_MOST_POINTS) (mg_of KX G ?v_MOST_ROWS) ?lN ?lJ ?pg_Piece ?hd_Piece ?po_Piece ?sa_Piece ?mk_Piece ?kc_Piece ?t1_Piece ?t4_Piece ?na_Piece_start ?na_Piece_goal ?na_Piece_size ?pg_Push ?hd_Push ?po_Push ?sa_Push ?mk_Push ?kc_Push ?t1_Push ?t4_Push ?na_Push_start ?na_Push_goal ?na_Push_size ?pg_Hold ?hd_Hold ?po_Hold ?sa_Hold ?mk_Hold ?kc_Hold ?t1_Hold ?t4_Hold ?na_Hold_start ?na_Hold_goal ?na_Hold_size ?tt2 ?tt3 ?isR_Piece ?isR_Push ?isR_Hold ?isK_Piece_Push ?isK_Piece_Hold ?isK_Push_Piece ?isK_Push_Hold ?isK_Hold_Piece ?isK_Hold_Push ?pg_Net ?hd_Net ?po_Net ?sa_Net ?mk_Net ?kc_Net ?t1_Net ?t4_Net ?na_Net_point_count ?na_Net_kept (mg_none_of KX G ?z1) (mg_none_of KX G ?z2) (mg_none_of KX G ?z3) (mg_none_of KX G ?z4) (mg_none_of KX G ?z5) (mg_none_of KX G ?z6) (mg_none_of KX G ?z7) (mg_none_of KX G ?z8) (mg_none_of KX G ?z9) (mg_none_of KX G ?z10) (mg_none_of KX G ?z11) (mg_none_of KX G ?z12) (mg_none_of KX G ?z13) (mg_none_of KX G ?z14) (mg_none_of KX G ?z15)
    (case y_Row => k_is)
    (case y_Piece => k_is)
    (case y_Push => k_is)
    (case y_Hold => k_is)
    (case y_Net => k_is)
    (case a1 => k_is)
    (case F1 => walk_at "F9")
    (case a2 => k_is)
    (case F2 => walk_at "F9")
    (case a3 => k_is)
    (case F3 => walk_at "F9")
    (case a4 => k_is)
    (case F4 => walk_at "F9")
    (case a5_0 => k_is)
    (case a5_1 => k_is)
    (case a5_2 => k_is)
    (case i5 => k_is)
    (case F5 => walk_at "F9")
    (case a6_0 => k_is)
    (case i6 => k_is)
    (case F6 => walk_at "F9")
    (case a7_0 => k_is)
    (case i7 => k_is)
    (case F7 => walk_at "F9")
    (case a8_0 => k_is)
    (case i8 => k_is)
    (case F8 => walk_at "F9")
    (case a9_0 => k_is)
    (case a9_1 => k_is)
    (case a9_2 => k_is)
    (case i9 => k_is)
    (case F9 => walk_at "F9")
    (case a10 => k_is)
    (case F10 => walk_at "F9")
    (case a11 => k_is)
    (case F11 => walk_at "F9")
    (case a12 => k_is)
    (case F12 => walk_at "F9")
    (case a13 => k_is)
    (case F13 => walk_at "F9")
    (case a14 => k_is)
    (case F14 => walk_at "F9")
    (case a15 => k_is)
    (case F15 => walk_at "F9")
    (case a16_0 => k_is)
    (case i16 => k_is)
    (case F16 => walk_at "F9")
    (case a17_0 => k_is)
    (case i17 => k_is)
    (case F17 => walk_at "F9")
    (case a18_0 => k_is)
    (case i18 => k_is)
    (case F18 => walk_at "F9")
    (case a19_0 => k_is)
    (case i19 => k_is)
    (case F19 => walk_at "F9")
    (case a20 => k_is)
    (case F20 => walk_at "F9")
    (case a21 => k_is)
    (case F21 => walk_at "F9")
    (case a22 => k_is)
    (case l22 => k_is)
    (case c22 => k_is)
    (case k22 => k_is)
    (case lt22 => k_is)
    (case a23 => k_is)
    (case F23 => walk_at "F9")
    (case a24 => k_is)
    (case F24 => walk_at "F9")
    (case a25 => k_is)
    (case F25 => walk_at "F9")
    (case a26 => k_is)
    (case F26 => walk_at "F9")
    (case a27 => k_is)
    (case F27 => walk_at "F9")
    (case a28 => k_is)
    (case F28 => walk_at "F9")
    (case a29 => k_is)
    (case F29 => walk_at "F9")
    (case a30 => k_is)
    (case F30 => walk_at "F9")
    (case a31 => k_is)
    (case F31 => walk_at "F9")
    (case a32 => k_is)
    (case F32 => walk_at "F9")
    (case a33 => k_is)
    (case l33 => k_is)
    (case c33 => k_is)
    (case k33 => k_is)
    (case v_NOUGHT => k_is)
    (case v_JOINING_WORDS => k_is)
    (case v_MOST_POINTS => k_is)
    (case v_MOST_ROWS => k_is)
    (case lN => k_is)
    (case lJ => k_is)
    (case pg_Piece => k_is)
    (case hd_Piece => k_is)
    (case po_Piece => k_is)
    (case sa_Piece => k_is)
    (case mk_Piece => k_is)
    (case kc_Piece => k_is)
    (case t1_Piece => k_is)
    (case t4_Piece => k_is)
    (case na_Piece_start => k_is)
    (case na_Piece_goal => k_is)
    (case na_Piece_size => k_is)
    (case pg_Push => k_is)
    (case hd_Push => k_is)
    (case po_Push => k_is)
    (case sa_Push => k_is)
    (case mk_Push => k_is)
    (case kc_Push => k_is)
    (case t1_Push => k_is)
    (case t4_Push => k_is)
    (case na_Push_start => k_is)
    (case na_Push_goal => k_is)
    (case na_Push_size => k_is)
    (case pg_Hold => k_is)
    (case hd_Hold => k_is)
    (case po_Hold => k_is)
    (case sa_Hold => k_is)
    (case mk_Hold => k_is)
    (case kc_Hold => k_is)
    (case t1_Hold => k_is)
    (case t4_Hold => k_is)
    (case na_Hold_start => k_is)
    (case na_Hold_goal => k_is)
    (case na_Hold_size => k_is)
    (case tt2 => k_is)
    (case tt3 => k_is)
    (case isR_Piece => kit_is)
    (case isR_Push => kit_is)
    (case isR_Hold => kit_is)
    (case isK_Piece_Push => kit_is)
    (case isK_Piece_Hold => kit_is)
    (case isK_Push_Piece => kit_is)
    (case isK_Push_Hold => kit_is)
    (case isK_Hold_Piece => kit_is)
    (case isK_Hold_Push => kit_is)
    (case pg_Net => k_is)
    (case hd_Net => k_is)
    (case po_Net => k_is)
    (case sa_Net => k_is)
    (case mk_Net => k_is)
    (case kc_Net => k_is)
    (case t1_Net => k_is)
    (case t4_Net => k_is)
    (case na_Net_point_count => k_is)
    (case na_Net_kept => k_is)
    (case z1 => k_is)
    (case z2 => k_is)
    (case z3 => k_is)
    (case z4 => k_is)
    (case z5 => k_is)
    (case z6 => k_is)
    (case z7 => k_is)
    (case z8 => k_is)
    (case z9 => k_is)
    (case z10 => k_is)
    (case z11 => k_is)
    (case z12 => k_is)
    (case z13 => k_is)
    (case z14 => k_is)
    (case z15 => k_is)
