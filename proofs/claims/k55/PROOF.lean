import PyProof.Rows.All
import Wide.All
import OpenK.AllK
import Wide.FinOn
import Lean
import PyProof.EqAt
import PyProof.EqKinds
import PyProof.TupleCall
import PyProof.Cells
import PyProof.SumWalkG
import PyProof.EnumStmt
import PyProof.EnumMake
import PyProof.InstStoreFacts
import PyProof.Rows.SeqMore2
import PySem.Challenge.RW_ohmyard_k55_ends_taken_away
set_option Elab.async false
set_option linter.all false
set_option maxRecDepth 100000
namespace L2
open PySem PySem.Spec PyProof.Rows

abbrev Key := Sum Int Str
def keyIs : Key → Value → Bool
  | .inl k, v => Value.isInt k v
  | .inr x, v => Value.isStrOf x v
def keyH (w : World) : Key → Int
  | .inl k => hashInt k
  | .inr x => hashStr w x
theorem keyIs_shape : ∀ {k : Key} {v : Value}, keyIs k v = true → (∃ i t, k = Sum.inl i ∧ v = Value.int i t) ∨ (∃ x t, k = Sum.inr x ∧ v = Value.str x t)
  | .inl i, v, h => by
    obtain ⟨t, e⟩ := Value.isInt_shape (k := i) (v := v) h
    exact .inl ⟨i, t, rfl, e⟩
  | .inr x, v, h => by
    obtain ⟨t, e⟩ := Value.isStrOf_shape (x := x) (v := v) h
    exact .inr ⟨x, t, rfl, e⟩
theorem keyIs_int (i : Int) (t : Tok) : keyIs (.inl i) (.int i t) = true := by simp [keyIs, Value.isInt]
theorem keyIs_str (x : Str) (t : Tok) : keyIs (.inr x) (.str x t) = true := by simp [keyIs, Value.isStrOf]
theorem key_ll (a b : Int) : decide ((Sum.inl a : Key) = Sum.inl b) = (a == b) := by
  by_cases e : a = b
  · subst e; simp
  · have h : ¬ (Sum.inl a : Key) = Sum.inl b := fun q => e (Sum.inl.inj q)
    rw [decide_eq_false h]
    exact (beq_eq_false_iff_ne.mpr e).symm
theorem key_rr (a b : Str) : decide ((Sum.inr a : Key) = Sum.inr b) = decide (a = b) := by
  by_cases e : a = b
  · subst e; simp
  · have h : ¬ (Sum.inr a : Key) = Sum.inr b := fun q => e (Sum.inr.inj q)
    rw [decide_eq_false h, decide_eq_false e]
theorem key_lr (a : Int) (b : Str) : decide ((Sum.inl a : Key) = Sum.inr b) = false := decide_eq_false (fun q => nomatch q)
theorem key_rl (a : Str) (b : Int) : decide ((Sum.inr a : Key) = Sum.inl b) = false := decide_eq_false (fun q => nomatch q)

def mixKind (prog : Program) (w : World) : PySem.KeyKind prog w Key where
  is := keyIs
  hash := keyH w
  inj := fun v a b ha hb => by
    rcases keyIs_shape ha with ⟨i, t, rfl, rfl⟩ | ⟨x, t, rfl, rfl⟩
    · rcases keyIs_shape hb with ⟨j, u, rfl, e⟩ | ⟨y, u, rfl, e⟩
      · injection e with e1 _; rw [e1]
      · exact nomatch e
    · rcases keyIs_shape hb with ⟨j, u, rfl, e⟩ | ⟨y, u, rfl, e⟩
      · exact nomatch e
      · injection e with e1 _; rw [e1]
  byValue := fun k v h => by
    rcases keyIs_shape h with ⟨i, t, rfl, rfl⟩ | ⟨x, t, rfl, rfl⟩ <;> rfl
  pyHash := fun hv h => by
    rcases keyIs_shape hv with ⟨i, t, rfl, rfl⟩ | ⟨x, t, rfl, rfl⟩
    · exact wpAny_pyHash_int h
    · exact wpAny_pyHash_str h
  eqBool := fun hu hv h => by
    rcases keyIs_shape hu with ⟨i, t, rfl, rfl⟩ | ⟨x, t, rfl, rfl⟩
    · rcases keyIs_shape hv with ⟨j, u, rfl, rfl⟩ | ⟨y, u, rfl, rfl⟩
      · rw [key_ll] at h; exact wpAny_eqBool_int h
      · rw [key_lr] at h; exact SeqAt.EqAt.int_str i t y u _ _ _ _ h
    · rcases keyIs_shape hv with ⟨j, u, rfl, rfl⟩ | ⟨y, u, rfl, rfl⟩
      · rw [key_rl] at h; exact SeqAt.EqAt.str_int x t j u _ _ _ _ h
      · rw [key_rr] at h; exact wpAny_eqBool_str h
  «strs» := fun k x t v h => by
    rcases keyIs_shape h with ⟨i, u, rfl, e⟩ | ⟨y, u, rfl, e⟩
    · exact nomatch e
    · injection e with e1 _
      subst e1
      cases v <;> rfl

theorem mixKind_int (prog : Program) (w : World) (i : Int) (t : Tok) : (mixKind prog w).is (.inl i) (.int i t) = true := keyIs_int i t
theorem mixKind_str (prog : Program) (w : World) (x : Str) (t : Tok) : (mixKind prog w).is (.inr x) (.str x t) = true := keyIs_str x t
end L2

namespace L2
open PySem PySem.Spec PyProof.Rows

inductive V where
  | non | bl (b : Bool) | int (i : Int) | str (x : Str) | byt (b : Array UInt8) | flt (b : UInt64) | ref (a : Addr) | ty (n : String)
  deriving DecidableEq

def RelV : V → Value → Prop
  | .non, u => u = Value.none
  | .bl b, u => u = Value.bool b
  | .int i, u => ∃ t, u = Value.int i t
  | .str x, u => ∃ t, u = Value.str x t
  | .byt b, u => ∃ t, u = Value.bytes b t
  | .flt b, u => ∃ t, u = Value.float b t
  | .ref a, u => u = Value.ref a
  | .ty n, u => u = Value.type n

abbrev Vals : List V → List Value → Prop := Paired RelV
theorem Vals.length {xs : List V} {us : List Value} (r : Vals xs us) : xs.length = us.length := Paired.length r
theorem Vals.get : ∀ {xs : List V} {us : List Value} {i : Nat} {x : V}, Vals xs us → xs[i]? = some x → ∃ u, us[i]? = some u ∧ RelV x u
  | _, _, _, _, .nil, e => by simp at e
  | _, _, 0, _, .cons r _, e => by simp at e; subst e; exact ⟨_, rfl, r⟩
  | _, _, i + 1, x, .cons _ t, e => by
    obtain ⟨u, h1, h2⟩ := Vals.get (i := i) (x := x) t (by simpa using e)
    exact ⟨u, by simpa using h1, h2⟩
theorem Vals.set {x : V} {u : Value} (r : RelV x u) : ∀ {xs : List V} {us : List Value} (i : Nat), Vals xs us → Vals (xs.set i x) (us.set i u)
  | _, _, _, .nil => .nil
  | _, _, 0, .cons _ t => .cons r t
  | _, _, i + 1, .cons q t => .cons q (Vals.set r i t)
theorem Vals.append : ∀ {xs ys : List V} {us ws : List Value}, Vals xs us → Vals ys ws → Vals (xs ++ ys) (us ++ ws)
  | _, _, _, _, .nil, s => s
  | _, _, _, _, .cons r t, s => .cons r (Vals.append t s)
theorem Vals.take : ∀ {xs : List V} {us : List Value} (n : Nat), Vals xs us → Vals (xs.take n) (us.take n)
  | _, _, 0, _ => .nil
  | _, _, _ + 1, .nil => .nil
  | _, _, n + 1, .cons r t => .cons r (Vals.take n t)
theorem Vals.drop : ∀ {xs : List V} {us : List Value} (n : Nat), Vals xs us → Vals (xs.drop n) (us.drop n)
  | _, _, 0, r => r
  | _, _, _ + 1, .nil => .nil
  | _, _, n + 1, .cons _ t => Vals.drop n t
def RelO : Option V → Option Value → Prop
  | some v, some u => RelV v u
  | none, none => True
  | _, _ => False
def KV {κ : Type} : List (κ × V) → List (κ × Value) → Prop := Paired fun (p : κ × V) (q : κ × Value) => p.1 = q.1 ∧ RelV p.2 q.2

def kV : Key → V
  | .inl i => .int i
  | .inr x => .str x

inductive HO where
  | lst (xs : List V)
  | tup (xs : List V)
  | dK (kvs : List (Key × V)) | dT (kvs : List (List Key × V))
  | set (S : Int → Bool) (n : Nat)
  | ins (C dx : Addr) (fs : List (Str × V))
  | own (x : Addr)
  | xd (fs : List (Str × V))
  | met (f x : Addr)
  | rng (lo hi : Int)
  | frz (o : Obj) (u : HO)
  | tbl (ps : Array Value)
  | ext (φ : Heap → Prop)

abbrev Hp := Addr → Option HO
def upd (H : Hp) (a : Addr) (o : HO) : Hp := fun b => if b = a then some o else H b
theorem upd_same {H : Hp} {a : Addr} {o : HO} : upd H a o a = some o := by unfold upd; rw [if_pos rfl]
theorem upd_ne {H : Hp} {a b : Addr} {o : HO} (h : b ≠ a) : upd H a o b = H b := by unfold upd; rw [if_neg h]
theorem ne_of {H : Hp} {a b : Addr} {o u : HO} (h : H a = some o) (h' : H b = some u) (d : o ≠ u) : a ≠ b := by
  intro e; subst e; rw [h] at h'; exact d (Option.some.inj h')
theorem ne_of_none {H : Hp} {a b : Addr} {o : HO} (h : H a = some o) (h' : H b = none) : a ≠ b := by
  intro e; subst e; rw [h] at h'; cases h'

section
variable (P : Program) (w : World)
def ObjOk (H : Hp) (h : Heap) (a : Addr) : HO → Prop
  | .lst xs => xs.length ≤ sizeLine ∧ ∃ (its : List Value) (n : Nat), Vals xs its ∧ h.get? a = some { cls := .type "list", data := .seq its.toArray n }
  | .tup xs => xs.length ≤ sizeLine ∧ ∃ its : List Value, Vals xs its ∧ IsTup h a its.toArray
  | .dK kvs => kvs.length ≤ sizeLine ∧ (a == sysModules) = false ∧ ∃ vs, KV kvs vs ∧ h.DictOf (mixKind P w) a vs
  | .dT kvs => kvs.length ≤ sizeLine ∧ (a == sysModules) = false ∧ ∃ xs : List (List Key × Addr × Value),
      Paired (fun (p : List Key × V) (q : List Key × Addr × Value) => p.1 = q.1 ∧ H q.2.1 = some (.tup (p.1.map kV)) ∧ RelV p.2 q.2.2) kvs xs ∧
      ∃ o es ep, h.get? a = some o ∧ o.ExactDict ∧ o.data = .dict es ep ∧ es.toList = xs.map (entryOfKey (tupleKind (mixKind P w))) ∧ (xs.map (·.1)).Nodup
  | .set S n => h.SetOf (intKind P w) a S n
  | .ins C dx fs => H dx = some (.own a) ∧ fs.length ≤ 1000 ∧ dx ≠ a ∧ h.get? a = some (PySem.W.instObj C dx) ∧
      ∃ mA, h.Ns1 dx mA ∧ (∀ f, RelO (fs.lookup f) (mA f)) ∧ PySem.Within mA (fs.map (·.1))
  | .own _ => ∃ o, h.get? a = some o
  | .xd fs => ∃ mA, h.Ns1 a mA ∧ ∀ f, RelO (fs.lookup f) (mA f)
  | .rng lo hi => ∃ t u v, h.get? a = some { cls := .type "range", data := .fields #[.int lo t, .int hi u, .int 1 v] }
  | .frz o u => h.get? a = some o ∧ ObjOk H h a u
  | .tbl ps => h.get? a = some { cls := .none, data := .fields ps }
  | .met f x => h.get? a = some (PySem.W.methodObj (.ref f) (.ref x))
  | .ext φ => φ h ∧ (∃ o, h.get? a = some o) ∧ ∀ h1 h2 : Heap, φ h1 → (∀ o, h1.get? a = some o → h2.get? a = some o) → φ h2
def HOk (H : Hp) (h : Heap) : Prop := ∀ a o, H a = some o → ObjOk P w H h a o
end

section
variable {P : Program} {w : World} {H H' : Hp} {h h' : Heap} {a : Addr} {o : HO}
theorem ObjOk.lt (x : ObjOk P w H h a o) : a < h.objs.size := by
  cases o with
  | lst xs => obtain ⟨_, _, _, _, e⟩ := x; exact Heap.lt_size e
  | tup xs => obtain ⟨_, _, _, p⟩ := x; exact p.lt
  | dK kvs => obtain ⟨_, _, _, _, o, _, _, e, _⟩ := x; exact Heap.lt_size e
  | dT kvs => obtain ⟨_, _, _, _, o, _, _, e, _⟩ := x; exact Heap.lt_size e
  | set S n => obtain ⟨o, _, _, _, e, _⟩ := x; exact Heap.lt_size e
  | ins C dx fs => obtain ⟨_, _, _, e, _⟩ := x; exact Heap.lt_size e
  | own y => obtain ⟨_, e⟩ := x; exact Heap.lt_size e
  | xd fs => obtain ⟨_, ⟨_, _, _, e, _⟩, _⟩ := x; exact Heap.lt_size e
  | rng lo hi => obtain ⟨_, _, _, e⟩ := x; exact Heap.lt_size e
  | frz ob u => obtain ⟨e, _⟩ := x; exact Heap.lt_size e
  | tbl ps => exact Heap.lt_size (show h.get? a = some _ from x)
  | met f y => exact Heap.lt_size (show h.get? a = some _ from x)
  | ext φ => obtain ⟨_, ⟨_, e⟩, _⟩ := x; exact Heap.lt_size e
theorem Paired.mapP {α β : Type} {F G : α → β → Prop} : ∀ {l₁ : List α} {l₂ : List β}, Paired F l₁ l₂ → (∀ a b, F a b → G a b) → Paired G l₁ l₂
  | _, _, .nil, _ => .nil
  | _, _, .cons r t, f => .cons (f _ _ r) (Paired.mapP t f)
theorem ObjOk.stay (x : ObjOk P w H h a o) (k : ∀ b u, (b = a ∨ H b = some (.own a)) → h.get? b = some u → h'.get? b = some u)
    (ho : ∀ b, H b = some (.own a) → H' b = some (.own a)) (ht : ∀ b xs, H b = some (.tup xs) → H' b = some (.tup xs)) : ObjOk P w H' h' a o := by
  induction o with
  | lst xs => obtain ⟨z, its, n, r, e⟩ := x; exact ⟨z, its, n, r, k _ _ (.inl rfl) e⟩
  | tup xs => obtain ⟨z, its, r, ob, e, c⟩ := x; exact ⟨z, its, r, ob, k _ _ (.inl rfl) e, c⟩
  | dK kvs => obtain ⟨z, y, vs, r, ob, es, ep, e, c⟩ := x; exact ⟨z, y, vs, r, ob, es, ep, k _ _ (.inl rfl) e, c⟩
  | dT kvs =>
    obtain ⟨z, y, xs, r, ob, es, ep, e, c⟩ := x
    exact ⟨z, y, xs, Paired.mapP r fun p q z => ⟨z.1, ht _ _ z.2.1, z.2.2⟩, ob, es, ep, k _ _ (.inl rfl) e, c⟩
  | set S n => obtain ⟨ob, es, ep, t, e, c⟩ := x; exact ⟨ob, es, ep, t, k _ _ (.inl rfl) e, c⟩
  | ins C dx fs =>
    obtain ⟨d, z, ne, e, mA, ⟨od, es, ep, e2, c⟩, r⟩ := x
    exact ⟨ho _ d, z, ne, k _ _ (.inl rfl) e, mA, ⟨od, es, ep, k _ _ (.inr d) e2, c⟩, r⟩
  | own y => obtain ⟨ob, e⟩ := x; exact ⟨ob, k _ _ (.inl rfl) e⟩
  | xd fs => obtain ⟨mA, ⟨od, es, ep, e, c⟩, r⟩ := x; exact ⟨mA, ⟨od, es, ep, k _ _ (.inl rfl) e, c⟩, r⟩
  | rng lo hi => obtain ⟨t, u, v, e⟩ := x; exact ⟨t, u, v, k _ _ (.inl rfl) e⟩
  | frz ob u ih => obtain ⟨e, q⟩ := x; exact ⟨k _ _ (.inl rfl) e, ih q⟩
  | tbl ps =>
    have e : h.get? a = some { cls := .none, data := .fields ps } := x
    show h'.get? a = some { cls := .none, data := .fields ps }
    exact k a _ (.inl rfl) e
  | met f y =>
    have e : h.get? a = some (PySem.W.methodObj (.ref f) (.ref y)) := x
    show h'.get? a = some (PySem.W.methodObj (.ref f) (.ref y))
    exact k a _ (.inl rfl) e
  | ext φ => obtain ⟨p, ⟨o, e⟩, st⟩ := x; exact ⟨st _ _ p fun o q => k _ _ (.inl rfl) q, ⟨o, k _ _ (.inl rfl) e⟩, st⟩
theorem HOk.lt (x : HOk P w H h) (e : H a = some o) : a < h.objs.size := (x a o e).lt
theorem HOk.fresh (x : HOk P w H h) (e : h.objs.size ≤ a) : H a = none := by
  cases q : H a with
  | none => rfl
  | some u => exact absurd (Nat.lt_of_lt_of_le (x.lt q) e) (Nat.lt_irrefl _)
theorem HOk.kept (x : HOk P w H h) (k : ∀ b u, h.get? b = some u → h'.get? b = some u) : HOk P w H h' := fun a o e =>
  (x a o e).stay (fun b u _ q => k b u q) (fun _ q => q) fun _ _ q => q
theorem HOk.laid (x : HOk P w H h) (k : ∀ b u, h.get? b = some u → h'.get? b = some u) (hp : h.objs.size ≤ a) (new : ObjOk P w (upd H a o) h' a o) : HOk P w (upd H a o) h' := fun b u e => by
  have hn := x.fresh hp
  by_cases hb : b = a
  · subst hb; rw [upd_same] at e; cases e; exact new
  · rw [upd_ne hb] at e
    exact (x b u e).stay (fun c v _ q => k c v q) (fun c q => by rw [upd_ne (ne_of_none q hn)]; exact q) fun c xs q => by rw [upd_ne (ne_of_none q hn)]; exact q
end

def Rd (H : Hp) (a : Addr) (u : HO) : Prop := H a = some u ∨ ∃ o, H a = some (.frz o u)
theorem Rd.ok {P : Program} {w : World} {H : Hp} {h : Heap} {a : Addr} {u : HO} (r : Rd H a u) (x : HOk P w H h) : ObjOk P w H h a u := by
  rcases r with r | ⟨o, r⟩
  · exact x a u r
  · obtain ⟨_, q⟩ := x a _ r
    exact q
def Mut : Option HO → Prop
  | some (.lst _) => True
  | some (.dK _) => True
  | some (.dT _) => True
  | some (.set _ _) => True
  | some (.ins _ _ _) => True
  | some (.ext _) => True
  | _ => False
section
variable {P : Program} {w : World} {H : Hp} {h h' : Heap} {x e : Addr} {o' : HO}
theorem HOk.write (ok : HOk P w H h) (mu : Mut (H x)) (he : e = x ∨ H e = some (.own x)) (k : ∀ b u, b ≠ e → h.get? b = some u → h'.get? b = some u) (heo : ∃ u, h'.get? e = some u)
    (new : ObjOk P w (upd H x o') h' x o') : HOk P w (upd H x o') h' := fun b u q => by
  have nown : ∀ c y, H c = some (.own y) → c ≠ x := fun c y r z => by subst z; rw [r] at mu; exact mu
  have ntup : ∀ c xs, H c = some (.tup xs) → c ≠ x := fun c xs r z => by subst z; rw [r] at mu; exact mu
  by_cases hb : b = x
  · subst hb; rw [upd_same] at q; cases q; exact new
  · rw [upd_ne hb] at q
    by_cases hbe : b = e
    · have q' : H b = some (.own x) := by
        rcases he with z | z
        · exact absurd (hbe.trans z) hb
        · rw [hbe]; exact z
      rw [q] at q'; cases q'
      obtain ⟨v, hv⟩ := heo
      exact ⟨v, by rw [hbe]; exact hv⟩
    · refine (ok b u q).stay (fun c v hc r => k c v ?_ r) (fun c r => by rw [upd_ne (nown c b r)]; exact r) fun c xs r => by rw [upd_ne (ntup c xs r)]; exact r
      rcases hc with rfl | hc
      · exact hbe
      · rintro rfl
        rcases he with z | z
        · exact nown c b hc z
        · rw [hc] at z; cases z; exact hb rfl
end

structure Un (fs ex : List Addr) (H H' : Hp) (h h' : Heap) : Prop where
  keep : ∀ b o, h.get? b = some o → H b = none → b ∉ fs → b ∉ ex → h'.get? b = some o
  slot : ∀ b o, h.get? b = some o → H b = none → b ∈ fs → b ∉ ex → ∃ sl, h'.get? b = some { o with slots := sl }
  free : ∀ b o, h.get? b = some o → H b = none → b ∉ ex → H' b = none
  there : ∀ b o, h.get? b = some o → b ∉ ex → ∃ o', h'.get? b = some o'
  tups : ∀ b xs, H b = some (.tup xs) → H' b = some (.tup xs)
  frzs : ∀ b o u, H b = some (.frz o u) → H' b = some (.frz o u)
  tbls : ∀ b ps, H b = some (.tbl ps) → ∃ more, H' b = some (.tbl (ps ++ more))
section
variable {fs fs' ex ex' : List Addr} {H H1 H2 : Hp} {h h1 h2 h' : Heap} {a x e : Addr} {o : HO}
theorem Un.any (u : Un fs ex H H1 h h1) {b : Addr} {ob : Obj} (q : h.get? b = some ob) (n : H b = none) (hx : b ∉ ex) : ∃ sl, h1.get? b = some { ob with slots := sl } := by
  by_cases hb : b ∈ fs
  · exact u.slot b ob q n hb hx
  · exact ⟨ob.slots, u.keep b ob q n hb hx⟩
theorem Un.kept (k : ∀ b u, h.get? b = some u → h'.get? b = some u) : Un fs ex H H h h' :=
  ⟨fun b ob q _ _ _ => k b ob q, fun b ob q _ _ _ => ⟨ob.slots, k b ob q⟩, fun _ _ _ n _ => n, fun b ob q _ => ⟨ob, k b ob q⟩, fun _ _ q => q, fun _ _ _ q => q, fun _ ps q => ⟨#[], by rw [q]; simp⟩⟩
theorem Un.refl : Un fs ex H H h h := Un.kept fun _ _ q => q
theorem Un.laid (k : ∀ b u, h.get? b = some u → h'.get? b = some u) (hp : h.objs.size ≤ a) (hn : H a = none) : Un fs ex H (upd H a o) h h' where
  keep := fun b u q _ _ _ => k b u q
  slot := fun b u q _ _ _ => ⟨u.slots, k b u q⟩
  free := fun b u q n _ => by rw [upd_ne (Nat.ne_of_lt (Nat.lt_of_lt_of_le (Heap.lt_size q) hp))]; exact n
  there := fun b u q _ => ⟨u, k b u q⟩
  tups := fun b xs q => by rw [upd_ne (ne_of_none q hn)]; exact q
  frzs := fun b u xs q => by rw [upd_ne (ne_of_none q hn)]; exact q
  tbls := fun b ps q => ⟨#[], by rw [upd_ne (ne_of_none q hn), q]; simp⟩
theorem Un.write (mu : Mut (H x)) (he : e = x ∨ H e = some (.own x)) (k : ∀ b u, b ≠ e → h.get? b = some u → h'.get? b = some u) (heo : ∃ u, h'.get? e = some u) : Un fs ex H (upd H x o) h h' := by
  have hx : ∀ b, H b = none → b ≠ x := fun b n z => by subst z; rw [n] at mu; exact mu
  have hb : ∀ b, H b = none → b ≠ e := fun b n z => by
    subst z
    rcases he with r | r
    · exact hx b n r
    · rw [n] at r; cases r
  have hm : ∀ b u, H b = some u → ¬ Mut (some u) → b ≠ x := fun b u q nm z => by subst z; rw [q] at mu; exact nm mu
  refine ⟨fun b u q n _ _ => k b u (hb b n) q, fun b u q n _ _ => ⟨u.slots, k b u (hb b n) q⟩, fun b u q n _ => by rw [upd_ne (hx b n)]; exact n, fun b u q _ => ?_,
    fun b xs q => by rw [upd_ne (hm b _ q fun z => z)]; exact q, fun b u xs q => by rw [upd_ne (hm b _ q fun z => z)]; exact q, fun b ps q => ⟨#[], by rw [upd_ne (hm b _ q fun z => z), q]; simp⟩⟩
  by_cases hbe : b = e
  · subst hbe; exact heo
  · exact ⟨u, k b u hbe q⟩
end

def trk (h : Heap) (H : Hp) : List Addr := (List.range h.objs.size).filter fun a => (H a).isSome
def hidT (h : Heap) (H : Hp) : Heap := PySem.W.hideAll h (trk h H)
theorem hidT_size (h : Heap) (H : Hp) : (hidT h H).objs.size = h.objs.size := PySem.W.hideAll_size _ _
theorem hidT_get {h : Heap} {H : Hp} {b : Addr} {o : Obj} (e : h.get? b = some o) (n : H b = none) : (hidT h H).get? b = some o :=
  PySem.W.hideAll_get _ e fun hm => by
    have q : (H b).isSome = true := (List.mem_filter.mp hm).2
    rw [n] at q; simp at q
theorem of_hidT {h : Heap} {H : Hp} {b : Addr} {o : Obj} (e : (hidT h H).get? b = some o) : h.get? b = some o ∧ H b = none := by
  have e' : h.get? b = some o := PySem.W.of_hideAll (trk h H) e
  refine ⟨e', ?_⟩
  cases q : H b with
  | none => rfl
  | some x =>
    have hm : b ∈ trk h H := List.mem_filter.mpr ⟨List.mem_range.mpr (Heap.lt_size e'), by simp [q]⟩
    have z : (hidT h H).get? b = none := PySem.W.hideAll_none (trk h H) hm
    rw [z] at e; cases e

end L2

namespace L2
open PySem PySem.Spec PyProof.Rows

structure Mod (K : PySem.W.Frag) (mg : Str → Option Value) (base : Heap) : Prop where
  kin : K.In base
  glob : base.Ns mainGlobals mg
  blt : ∃ mb, base.Ns builtinsNs mb ∧ ∀ x : Str, x ≠ "__name__" → mb x = bootBuiltins x
  nolimit : base.NoLimit

structure Cx where
  prog : Program
  w : World
  K : PySem.W.Frag
  mg : Str → Option Value
  base : Heap
  A : Around
  N : List Str
  s₀ : Shared
  H₀ : Hp
  env : Env
  outer : List Env
  stack : List Env
  ex : List Addr
  fn : Str → Bool
  calm : Bool
  pn : List (Addr × Obj)
  xe : Value → Shared → Prop
def frs (l : List Env) : List Addr := l.filterMap (·.frame)
abbrev Cx.fs (X : Cx) : List Addr := frs X.outer

def Vis (sc : Scope) (x : Str) : Prop := sc.names.lookup x = some .local ∨ sc.names.lookup x = some .cell ∨ sc.names.lookup x = some .free
def Loc (sc : Scope) (x : Str) : Prop := sc.names.lookup x = some .local ∨ sc.names.lookup x = some .cell
def Look (env : Env) (h : Heap) (m : Str → Option Value) (x : Str) (u : Value) : Prop :=
  (env.kindOf x = some .local ∧ m x = some u) ∨ ((env.kindOf x = some .cell ∨ env.kindOf x = some .free) ∧ ∃ c, env.cells.lookup x = some c ∧ h.IsCell c (some u))

structure Cx.Ok (X : Cx) : Prop where
  mod : Mod X.K X.mg X.base
  kind : X.env.scope.kind = .function
  glob : X.env.globals = mainGlobals
  blt : X.env.builtins = builtinsNs
  above : X.s₀.heap.objs.size ≤ X.env.locals
  inj : ∀ x y c, X.env.cells.lookup x = some c → X.env.cells.lookup y = some c → x = y
  has : ∀ x, (X.env.kindOf x = some .cell ∨ X.env.kindOf x = some .free) → ∃ c, X.env.cells.lookup x = some c
  cab : ∀ x c, X.fn x = true → X.env.cells.lookup x = some c → X.s₀.heap.objs.size ≤ c
  hd : X.calm = true → X.A.handled = none
  frames : X.A.frames = some X.stack
  stk : X.stack = X.outer ∨ (X.stack = X.env :: X.outer ∧ X.env.frame = some X.env.locals)
  exf : ∀ b ∈ X.ex, b ≠ X.env.locals ∧ ∀ x c, X.env.cells.lookup x = some c → c ≠ b
  bs : ∀ b o, X.base.get? b = some o → X.s₀.heap.get? b = some o ∧ X.H₀ b = none
  bsz : X.base.objs.size ≤ X.s₀.heap.objs.size
  noex : ∀ b o, X.base.get? b = some o → b ∉ X.ex
  exfs : ∀ b ∈ X.ex, b ∉ X.fs
  funs : X.s₀.heap.FunFrames X.base X.outer
  frf : ∀ b ∈ X.fs, X.H₀ b = none

structure Inv (X : Cx) (pins : List (Addr × Obj)) (σ : List (Option V)) (H : Hp) (s : Shared) : Prop where
  ok : X.Ok
  os : s.os = X.s₀.os
  bare : AllBare s.gens
  base : Un X.fs X.ex X.H₀ H X.s₀.heap s.heap
  loc : ∃ m, s.heap.Ns X.env.locals m ∧ ∀ (i : Nat) (x : Str) (v : V), X.N[i]? = some x → σ[i]? = some (some v) → Vis X.env.scope x → ∃ u, RelV v u ∧ Look X.env s.heap m x u
  cell : ∀ x c, X.env.cells.lookup x = some c → ∃ v, s.heap.IsCell c v
  free : H X.env.locals = none
  freeC : ∀ x c, X.env.cells.lookup x = some c → H c = none
  pin : ∀ p ∈ X.pn ++ pins, s.heap.get? p.1 = some p.2 ∧ H p.1 = none ∧ p.1 ≠ X.env.locals ∧ p.1 ∉ X.fs ∧ ∀ v, p.2.data ≠ .cell v
  hok : HOk X.prog X.w H s.heap
  len : σ.length = X.N.length

section
variable {X : Cx} {pins : List (Addr × Obj)} {σ : List (Option V)} {H H' : Hp} {s : Shared} {h' : Heap}

theorem Cx.Ok.nofr (ok : X.Ok) {b : Addr} {o : Obj} (e : X.base.get? b = some o) : b ∉ X.fs := fun hb => by
  have := (ok.funs.mem hb).1
  rw [e] at this; cases this
theorem Inv.bs (I : Inv X pins σ H s) : ∀ b o, X.base.get? b = some o → s.heap.get? b = some o ∧ H b = none := fun b o e =>
  ⟨I.base.keep b o (I.ok.bs b o e).1 (I.ok.bs b o e).2 (I.ok.nofr e) (I.ok.noex b o e), I.base.free b o (I.ok.bs b o e).1 (I.ok.bs b o e).2 (I.ok.noex b o e)⟩
theorem Inv.bk (I : Inv X pins σ H s) : ∀ b o, X.base.get? b = some o → s.heap.get? b = some o := fun b o e => (I.bs b o e).1
theorem Inv.mod (I : Inv X pins σ H s) : Mod X.K X.mg X.base := I.ok.mod
theorem Inv.kIn (I : Inv X pins σ H s) : X.K.In s.heap := I.ok.mod.kin.keeps I.bk
theorem Inv.lt (I : Inv X pins σ H s) : X.env.locals < s.heap.objs.size := let ⟨_, hn, _⟩ := I.loc; hn.lt
theorem Inv.sz (I : Inv X pins σ H s) : X.s₀.heap.objs.size ≤ s.heap.objs.size := Nat.le_trans I.ok.above (Nat.le_of_lt I.lt)
theorem Inv.nofs (I : Inv X pins σ H s) {a : Addr} (h : s.heap.objs.size ≤ a) : a ∉ X.fs := fun hb => by
  obtain ⟨_, o, ho, _⟩ := I.ok.funs.mem hb
  exact absurd (Nat.lt_of_lt_of_le (Heap.lt_size ho) (Nat.le_trans I.sz h)) (Nat.lt_irrefl _)
theorem Inv.cne (I : Inv X pins σ H s) : ∀ x c, X.env.cells.lookup x = some c → c ≠ X.env.locals := fun x c e z => by
  obtain ⟨v, o, ho, hd⟩ := I.cell x c e
  obtain ⟨m, ⟨o', es, ep, ho', hd', _⟩, _⟩ := I.loc
  rw [z, ho'] at ho; cases ho; rw [hd'] at hd; cases hd
theorem Inv.funs (I : Inv X pins σ H s) : s.heap.FunFrames X.base X.outer := by
  have all : ∀ (l : List Env), (∀ b ∈ frs l, b ∈ X.fs) → X.s₀.heap.FunFrames X.base l → s.heap.FunFrames X.base l := by
    intro l
    induction l with
    | nil => intro _ _; trivial
    | cons env r ih =>
      intro hs hl
      obtain ⟨hk, ⟨L, o, hf, hn, ho, hd⟩, hr⟩ := hl
      have hL : L ∈ X.fs := hs L (by unfold frs; rw [List.filterMap_cons, hf]; exact List.mem_cons_self)
      obtain ⟨sl, e⟩ := I.base.slot L o ho (I.ok.frf L hL) hL fun z => I.ok.exfs L z hL
      exact ⟨hk, ⟨L, _, hf, hn, e, hd⟩, ih (fun b hb => hs b (by unfold frs; rw [List.filterMap_cons, hf]; exact List.mem_cons_of_mem _ hb)) hr⟩
  exact all X.outer (fun _ hb => hb) I.ok.funs

theorem Inv.stack (I : Inv X pins σ H s) : s.heap.FunFrames X.base X.stack := by
  rcases I.ok.stk with e | ⟨e, hf⟩
  · rw [e]; exact I.funs
  · rw [e]
    obtain ⟨m, hn, _⟩ := I.loc
    refine .cons (by rw [I.ok.kind]; decide) hf hn ?_ I.funs
    exact Heap.get?_none_of_le (Nat.le_trans I.ok.bsz I.ok.above)
theorem Inv.stkSub (I : Inv X pins σ H s) : ∀ b ∈ frs X.stack, b ∈ X.env.locals :: X.fs := fun b hb => by
  rcases I.ok.stk with e | ⟨e, hf⟩
  · rw [e] at hb; exact List.mem_cons_of_mem _ hb
  · rw [e] at hb
    unfold frs at hb
    rw [List.filterMap_cons, hf] at hb
    exact hb
theorem Inv.stkFree (I : Inv X pins σ H s) : ∀ b ∈ frs X.stack, H b = none := fun b hb => by
  rcases List.mem_cons.mp (I.stkSub b hb) with e | hb
  · rw [e]; exact I.free
  · obtain ⟨_, o, ho, _⟩ := I.ok.funs.mem hb
    exact I.base.free b o ho (I.ok.frf b hb) fun z => I.ok.exfs b z hb

theorem Inv.step {g' : Array GenState} {t' : Nat} {d' : Drawn} {ch : List Addr} (I : Inv X pins σ H s)
    (hch : ∀ b ∈ ch, (b ∈ X.ex ∨ X.s₀.heap.objs.size ≤ b) ∧ b ≠ X.env.locals ∧ (∀ x c, X.env.cells.lookup x = some c → c ≠ b) ∧ ∀ p ∈ X.pn ++ pins, p.1 ≠ b)
    (keep : ∀ b o, b ≠ X.env.locals → b ∉ X.fs → b ∉ ch → s.heap.get? b = some o → H b = none → h'.get? b = some o)
    (slot : ∀ b o, b ≠ X.env.locals → b ∈ X.fs → b ∉ ch → s.heap.get? b = some o → H b = none → ∃ sl, h'.get? b = some { o with slots := sl }) (free : ∀ b o, b ∉ ch → s.heap.get? b = some o → H b = none → H' b = none)
    (there : ∀ b o, b ∉ ch → s.heap.get? b = some o → ∃ o', h'.get? b = some o')
    (tups : ∀ b xs, H b = some (.tup xs) → H' b = some (.tup xs)) (frzs : ∀ b o u, H b = some (.frz o u) → H' b = some (.frz o u)) (tbls : ∀ b ps, H b = some (.tbl ps) → ∃ more, H' b = some (.tbl (ps ++ more)))
    (ns : ∀ m, s.heap.Ns X.env.locals m → h'.Ns X.env.locals m) (hok : HOk X.prog X.w H' h') (hg : AllBare g') :
    Inv X pins σ H' { s with heap := h', gens := g', drawn := d', toks := t' } := by
  have neL : ∀ b o, X.s₀.heap.get? b = some o → b ≠ X.env.locals := fun b o e => Nat.ne_of_lt (Nat.lt_of_lt_of_le (Heap.lt_size e) I.ok.above)
  have neC : ∀ b o, X.s₀.heap.get? b = some o → b ∉ X.ex → b ∉ ch := fun b o e hx hb => by
    rcases (hch b hb).1 with z | z
    · exact hx z
    · exact absurd (Nat.lt_of_lt_of_le (Heap.lt_size e) z) (Nat.lt_irrefl _)
  have cellK : ∀ x c, X.env.cells.lookup x = some c → ∀ v, s.heap.IsCell c v → h'.IsCell c v := fun x c e v ⟨o, ho, hd⟩ => by
    have nch : c ∉ ch := fun z => (hch c z).2.2.1 x c e rfl
    by_cases hc : c ∈ X.fs
    · obtain ⟨sl, q⟩ := slot c o (I.cne x c e) hc nch ho (I.freeC x c e)
      exact ⟨_, q, hd⟩
    · exact ⟨o, keep c o (I.cne x c e) hc nch ho (I.freeC x c e), hd⟩
  refine ⟨I.ok, I.os, hg, ⟨fun b o e n hb hx => ?_, fun b o e n hb hx => ?_, fun b o e n hx => ?_, fun b o e hx => ?_, fun b xs e => tups b xs (I.base.tups b xs e), fun b o xs e => frzs b o xs (I.base.frzs b o xs e), fun b ps e => ?_⟩, ?_, fun x c e => ?_, ?_, fun x c e => ?_, fun p hp => ?_, hok, I.len⟩
  · exact keep b o (neL b o e) hb (neC b o e hx) (I.base.keep b o e n hb hx) (I.base.free b o e n hx)
  · obtain ⟨sl, e1⟩ := I.base.slot b o e n hb hx
    obtain ⟨sl', e2⟩ := slot b _ (neL b o e) hb (neC b o e hx) e1 (I.base.free b o e n hx)
    exact ⟨sl', e2⟩
  · obtain ⟨o', e1⟩ := I.base.there b o e hx
    exact free b o' (neC b o e hx) e1 (I.base.free b o e n hx)
  · obtain ⟨o', e1⟩ := I.base.there b o e hx
    exact there b o' (neC b o e hx) e1
  · obtain ⟨m1, e1⟩ := I.base.tbls b ps e
    obtain ⟨m2, e2⟩ := tbls b _ e1
    exact ⟨m1 ++ m2, by rw [e2, Array.append_assoc]⟩
  · obtain ⟨m, hn, hl⟩ := I.loc
    refine ⟨m, ns m hn, fun i x v e1 e2 e3 => ?_⟩
    obtain ⟨u, r, l⟩ := hl i x v e1 e2 e3
    refine ⟨u, r, ?_⟩
    rcases l with l | ⟨k, c, e, z⟩
    · exact .inl l
    · exact .inr ⟨k, c, e, cellK x c e _ z⟩
  · obtain ⟨v, z⟩ := I.cell x c e
    exact ⟨v, cellK x c e v z⟩
  · obtain ⟨m, ⟨o, _, _, ho, _⟩, _⟩ := I.loc
    exact free _ o (fun z => (hch _ z).2.1 rfl) ho I.free
  · obtain ⟨v, o, ho, hd⟩ := I.cell x c e
    exact free c o (fun z => (hch c z).2.2.1 x c e rfl) ho (I.freeC x c e)
  · obtain ⟨e, n, ne, nf, d⟩ := I.pin p hp
    have nch : p.1 ∉ ch := fun z => (hch p.1 z).2.2.2 p hp rfl
    exact ⟨keep p.1 p.2 ne nf nch e n, free p.1 p.2 nch e n, ne, nf, d⟩
theorem Inv.un {t' : Nat} (I : Inv X pins σ H s) (u : Un X.fs [] H H' s.heap h') (hok : HOk X.prog X.w H' h') : Inv X pins σ H' { s with heap := h', toks := t' } := by
  obtain ⟨m, ⟨o, es, ep, ho, r⟩, _⟩ := id I.loc
  obtain ⟨sl, hL⟩ := u.any ho I.free (by simp)
  exact I.step (g' := s.gens) (d' := s.drawn) (ch := []) (fun _ z => nomatch z) (fun b o _ hb _ e n => u.keep b o e n hb (by simp)) (fun b o _ hb _ e n => u.slot b o e n hb (by simp)) (fun b o _ e n => u.free b o e n (by simp)) (fun b o _ e => u.there b o e (by simp)) u.tups u.frzs u.tbls (fun m' hm => by
    obtain ⟨o', es', ep', ho', r'⟩ := hm
    rw [ho] at ho'; cases ho'
    exact ⟨_, es', ep', hL, r'⟩) hok I.bare
theorem Inv.call {g' : Array GenState} {t' : Nat} {d' : Drawn} {ch : List Addr} (I : Inv X pins σ H s) (u : Un (frs X.stack) ch H H' s.heap h') (hok : HOk X.prog X.w H' h') (hg : AllBare g')
    (hch : ∀ b ∈ ch, (b ∈ X.ex ∨ X.s₀.heap.objs.size ≤ b) ∧ b ≠ X.env.locals ∧ (∀ x c, X.env.cells.lookup x = some c → c ≠ b) ∧ ∀ p ∈ X.pn ++ pins, p.1 ≠ b) :
    Inv X pins σ H' { s with heap := h', gens := g', drawn := d', toks := t' } := by
  obtain ⟨m, ⟨o, es, ep, ho, r⟩, _⟩ := id I.loc
  obtain ⟨sl, hL⟩ := u.any ho I.free fun z => (hch _ z).2.1 rfl
  exact I.step (ch := ch) hch (fun b o hL hb hc e n => u.keep b o e n (fun z => (List.mem_cons.mp (I.stkSub b z)).elim hL hb) hc) (fun b o _ _ hc e n => u.any e n hc) (fun b o hc e n => u.free b o e n hc) (fun b o hc e => u.there b o e hc) u.tups u.frzs u.tbls (fun m' hm => by
    obtain ⟨o', es', ep', ho', r'⟩ := hm
    rw [ho] at ho'; cases ho'
    exact ⟨_, es', ep', hL, r'⟩) hok hg
theorem Inv.turned {t' : Nat} {it : Addr} (I : Inv X pins σ H s) (k : ∀ b o, b ≠ it → s.heap.get? b = some o → h'.get? b = some o) (hn : H it = none) (hL : it ≠ X.env.locals)
    (h1 : it ∈ X.ex ∨ X.s₀.heap.objs.size ≤ it) (h2 : ∀ x c, X.env.cells.lookup x = some c → c ≠ it) (h3 : ∀ p ∈ X.pn ++ pins, p.1 ≠ it) : Inv X pins σ H { s with heap := h', toks := t' } := by
  have nit : ∀ b u, H b = some u → b ≠ it := fun b u e z => by rw [z, hn] at e; cases e
  refine I.step (g' := s.gens) (d' := s.drawn) (ch := [it]) (fun b hb => ?_) (fun b o _ _ hc e _ => k b o (fun z => hc (by simp [z])) e) (fun b o _ _ hc e _ => ⟨o.slots, k b o (fun z => hc (by simp [z])) e⟩) (fun _ _ _ _ n => n)
    (fun b o hc e => ⟨o, k b o (fun z => hc (by simp [z])) e⟩) (fun _ _ e => e) (fun _ _ _ e => e) (fun b ps e => ⟨#[], by rw [e]; simp⟩) (fun m hm => ?_) (fun b u e => ?_) I.bare
  · have e : b = it := by simpa using hb
    subst e
    exact ⟨h1, hL, h2, h3⟩
  · obtain ⟨o, es, ep, ho, r⟩ := hm
    exact ⟨o, es, ep, k _ o (Ne.symm hL) ho, r⟩
  · refine (I.hok b u e).stay (fun c v hc q => k c v ?_ q) (fun _ q => q) fun _ _ q => q
    rcases hc with z | z
    · rw [z]; exact nit b u e
    · exact nit c _ z
theorem Inv.tok (I : Inv X pins σ H s) (t : Nat) : Inv X pins σ H { s with toks := t } := I.un (h' := s.heap) (t' := t) Un.refl I.hok
theorem Inv.kept {t' : Nat} (I : Inv X pins σ H s) (k : ∀ b u, s.heap.get? b = some u → h'.get? b = some u) : Inv X pins σ H { s with heap := h', toks := t' } := I.un (Un.kept k) (I.hok.kept k)
theorem Inv.laid {a : Addr} {o : HO} {t' : Nat} (I : Inv X pins σ H s) (k : ∀ b u, s.heap.get? b = some u → h'.get? b = some u) (hp : s.heap.objs.size ≤ a) (new : ObjOk X.prog X.w (upd H a o) h' a o) :
    Inv X pins σ (upd H a o) { s with heap := h', toks := t' } := I.un (Un.laid k hp (I.hok.fresh hp)) (I.hok.laid k hp new)
theorem Inv.write {x e : Addr} {o : HO} {t' : Nat} (I : Inv X pins σ H s) (mu : Mut (H x)) (he : e = x ∨ H e = some (.own x)) (k : ∀ b u, b ≠ e → s.heap.get? b = some u → h'.get? b = some u) (heo : ∃ u, h'.get? e = some u)
    (new : ObjOk X.prog X.w (upd H x o) h' x o) : Inv X pins σ (upd H x o) { s with heap := h', toks := t' } := I.un (Un.write mu he k heo) (I.hok.write mu he k heo new)
theorem Inv.weak {σ' : List (Option V)} (I : Inv X pins σ H s) (hl : σ'.length = σ.length) (w : ∀ (i : Nat) v, σ'[i]? = some (some v) → σ[i]? = some (some v)) : Inv X pins σ' H s :=
  ⟨I.ok, I.os, I.bare, I.base, let ⟨m, hn, hl'⟩ := I.loc; ⟨m, hn, fun i x v e1 e2 e3 => hl' i x v e1 (w i v e2) e3⟩, I.cell, I.free, I.freeC, I.pin, I.hok, hl.trans I.len⟩
theorem Inv.pins_of {pins' : List (Addr × Obj)} (I : Inv X pins σ H s) (h : ∀ p ∈ pins', s.heap.get? p.1 = some p.2 ∧ H p.1 = none ∧ p.1 ≠ X.env.locals ∧ p.1 ∉ X.fs ∧ ∀ v, p.2.data ≠ .cell v) : Inv X pins' σ H s :=
  ⟨I.ok, I.os, I.bare, I.base, I.loc, I.cell, I.free, I.freeC, fun p hp => (List.mem_append.mp hp).elim (fun z => I.pin p (List.mem_append_left _ z)) (h p), I.hok, I.len⟩

theorem nodup_ix {N : List Str} (hN : N.Nodup) {i j : Nat} {x : Str} (a : N[i]? = some x) (b : N[j]? = some x) : i = j := by
  obtain ⟨h1, e1⟩ := List.getElem?_eq_some_iff.mp a
  obtain ⟨h2, e2⟩ := List.getElem?_eq_some_iff.mp b
  exact (List.getElem_inj hN).mp (e1.trans e2.symm)

theorem store_ok2 {M : Model} {A : Around} {E : Value → Shared → Prop} {i : Nat} {x : Str} {v : V} {u : Value} {Q : Unit → Shared → Prop} (I : Inv X pins σ H s) (hN : X.N.Nodup) (hi : X.N[i]? = some x) (hx : Loc X.env.scope x) (r : RelV v u)
    (h : ∀ s', Inv X pins (σ.set i (some v)) H s' → (∃ a, Heap.SameBut a s.heap s'.heap ∧ (a = X.env.locals ∨ X.env.cells.lookup x = some a)) → Q () s') (hf : X.fn x = true ∨ X.env.scope.names.lookup x = some .local := by first | exact .inl rfl | exact .inr rfl | assumption) : wpAny M A (storeName X.env x u) Q E s := by
  obtain ⟨m, hn, hl⟩ := id I.loc
  have hcls : (X.env.scope.kind == .class || (X.env.scope.kind == .module && X.env.locals != X.env.globals)) = false := by rw [I.ok.kind]; rfl
  have hiσ : i < σ.length := by rw [I.len]; exact (List.getElem?_eq_some_iff.mp hi).1
  have cne := I.cne
  have tracked : ∀ {a : Addr} {h' : Heap}, (∃ o, s.heap.get? a = some o ∧ H a = none) → Heap.SameBut a s.heap h' → HOk X.prog X.w H h' := fun {a h'} ha hs b ob e => by
    obtain ⟨_, _, hfree⟩ := ha
    refine (I.hok b ob e).stay (fun c w' hc q => (hs.2 c ?_).trans q) (fun _ q => q) fun _ _ q => q
    rintro rfl
    rcases hc with rfl | hc
    · rw [hfree] at e; cases e
    · rw [hfree] at hc; cases hc
  rcases hx with hk | hk
  · refine wpAny_storeName_local hk hn (fun h' hn' hs => ?_) hcls
    obtain ⟨oL, _, _, hoL, _⟩ := id hn
    refine h _ ⟨I.ok, I.os, I.bare, ⟨fun b o e n hb hx => ?_, fun b o e n hb hx => ?_, I.base.free, fun b o e hx => ?_, I.base.tups, I.base.frzs, I.base.tbls⟩, ⟨_, hn', fun j y v' e1 e2 e3 => ?_⟩, fun y c e => ?_, I.free, I.freeC, fun p hp => ?_, tracked ⟨oL, hoL, I.free⟩ hs, by simpa using I.len⟩ ⟨_, hs, .inl rfl⟩
    · exact (hs.2 b (Nat.ne_of_lt (Nat.lt_of_lt_of_le (Heap.lt_size e) I.ok.above))).trans (I.base.keep b o e n hb hx)
    · obtain ⟨sl, e1⟩ := I.base.slot b o e n hb hx
      exact ⟨sl, (hs.2 b (Nat.ne_of_lt (Nat.lt_of_lt_of_le (Heap.lt_size e) I.ok.above))).trans e1⟩
    · obtain ⟨o', e1⟩ := I.base.there b o e hx
      exact ⟨o', (hs.2 b (Nat.ne_of_lt (Nat.lt_of_lt_of_le (Heap.lt_size e) I.ok.above))).trans e1⟩
    · by_cases hj : j = i
      · subst hj
        rw [hi] at e1; cases e1
        rw [List.getElem?_set_self hiσ] at e2
        cases e2
        exact ⟨u, r, .inl ⟨hk, by simp⟩⟩
      · rw [List.getElem?_set_ne (Ne.symm hj)] at e2
        obtain ⟨u', r', q⟩ := hl j y v' e1 e2 e3
        refine ⟨u', r', ?_⟩
        rcases q with ⟨k, e⟩ | ⟨k, c, e, z⟩
        · refine .inl ⟨k, ?_⟩
          have : y ≠ x := fun e => hj (nodup_ix hN e1 (e ▸ hi))
          simp [this, e]
        · exact .inr ⟨k, c, e, z.sameBut hs (cne y c e)⟩
    · obtain ⟨w', z⟩ := I.cell y c e
      exact ⟨w', z.sameBut hs (cne y c e)⟩
    · obtain ⟨e, n, ne, nf, d⟩ := I.pin p hp
      exact ⟨(hs.2 p.1 ne).trans e, n, ne, nf, d⟩
  · have hfn : X.fn x = true := by
      rcases hf with z | z
      · exact z
      · rw [z] at hk; cases hk
    obtain ⟨c, hc⟩ := I.ok.has x (.inl hk)
    obtain ⟨w', z⟩ := I.cell x c hc
    refine wpAny_storeName_cell I.ok.kind hk hc z (fun h' hc' hs => ?_)
    obtain ⟨oc, hoc, hocd⟩ := id z
    refine h { s with heap := h' } ⟨I.ok, I.os, I.bare, ⟨fun b o e n hb hx => ?_, fun b o e n hb hx => ?_, I.base.free, fun b o e hx => ?_, I.base.tups, I.base.frzs, I.base.tbls⟩, ⟨m, hn.sameBut hs (Ne.symm (cne x c hc)), fun j y v' e1 e2 e3 => ?_⟩, fun y c' e => ?_, I.free, I.freeC, fun p hp => ?_, tracked ⟨oc, hoc, I.freeC x c hc⟩ hs, by simpa using I.len⟩ ⟨c, hs, .inr hc⟩
    · exact (hs.2 b (Nat.ne_of_lt (Nat.lt_of_lt_of_le (Heap.lt_size e) (I.ok.cab x c hfn hc)))).trans (I.base.keep b o e n hb hx)
    · obtain ⟨sl, e1⟩ := I.base.slot b o e n hb hx
      exact ⟨sl, (hs.2 b (Nat.ne_of_lt (Nat.lt_of_lt_of_le (Heap.lt_size e) (I.ok.cab x c hfn hc)))).trans e1⟩
    · obtain ⟨o', e1⟩ := I.base.there b o e hx
      exact ⟨o', (hs.2 b (Nat.ne_of_lt (Nat.lt_of_lt_of_le (Heap.lt_size e) (I.ok.cab x c hfn hc)))).trans e1⟩
    · by_cases hj : j = i
      · subst hj
        rw [hi] at e1; cases e1
        rw [List.getElem?_set_self hiσ] at e2
        cases e2
        exact ⟨u, r, .inr ⟨.inl hk, c, hc, hc'⟩⟩
      · rw [List.getElem?_set_ne (Ne.symm hj)] at e2
        obtain ⟨u', r', q⟩ := hl j y v' e1 e2 e3
        refine ⟨u', r', ?_⟩
        rcases q with q | ⟨k, c', e, z'⟩
        · exact .inl q
        · refine .inr ⟨k, c', e, z'.sameBut hs ?_⟩
          rintro rfl
          exact hj (nodup_ix hN e1 (I.ok.inj _ _ _ e hc ▸ hi))
    · by_cases hcc : c' = c
      · subst hcc; exact ⟨_, hc'⟩
      · obtain ⟨w2, z2⟩ := I.cell y c' e
        exact ⟨w2, z2.sameBut hs hcc⟩
    · obtain ⟨e, n, ne, nf, d⟩ := I.pin p hp
      refine ⟨(hs.2 p.1 ?_).trans e, n, ne, nf, d⟩
      intro q
      rw [q, hoc] at e
      have q' : oc = p.2 := Option.some.inj e
      exact d w' (by rw [← q']; exact hocd)
theorem store_ok {M : Model} {A : Around} {E : Value → Shared → Prop} {i : Nat} {x : Str} {v : V} {u : Value} {Q : Unit → Shared → Prop} (I : Inv X pins σ H s) (hN : X.N.Nodup) (hi : X.N[i]? = some x) (hx : Loc X.env.scope x) (r : RelV v u)
    (h : ∀ s', Inv X pins (σ.set i (some v)) H s' → Q () s') (hf : X.fn x = true ∨ X.env.scope.names.lookup x = some .local := by first | exact .inl rfl | exact .inr rfl | assumption) : wpAny M A (storeName X.env x u) Q E s :=
  store_ok2 I hN hi hx r (fun s' I' _ => h s' I') hf
theorem Inv.call' {s' : Shared} {ch : List Addr} (I : Inv X pins σ H s) (ho : s'.os = s.os) (u : Un (frs X.stack) ch H H' s.heap s'.heap) (hok : HOk X.prog X.w H' s'.heap) (hg : AllBare s'.gens)
    (hch : ∀ b ∈ ch, (b ∈ X.ex ∨ X.s₀.heap.objs.size ≤ b) ∧ b ≠ X.env.locals ∧ (∀ x c, X.env.cells.lookup x = some c → c ≠ b) ∧ ∀ p ∈ X.pn ++ pins, p.1 ≠ b) : Inv X pins σ H' s' := by
  obtain ⟨h', g', d', t', o'⟩ := s'
  have e : o' = s.os := ho
  subst e
  exact I.call (g' := g') (t' := t') (d' := d') u hok hg hch
end

abbrev XK := Value → Option Addr → Hp → Prop
abbrev St := List (Option V)
abbrev VK := V → Hp → Prop
abbrev TE := St → Hp → VK → Prop
abbrev TT := St → Hp → (Bool → Hp → Prop) → Prop
abbrev TA := St → Hp → (List V → Hp → Prop) → Prop
structure Ends where
  nx : St → Hp → Prop
  rt : VK
  bk : St → Hp → Prop := fun _ _ => False
  ct : St → Hp → Prop := fun _ _ => False
abbrev TS := Ends → St → Hp → Prop

def EP (X : Cx) (pins : List (Addr × Obj)) (σ : St) (Q : VK) (u : Value) (s' : Shared) : Prop := ∃ v H', Inv X pins σ H' s' ∧ RelV v u ∧ Q v H'
def TP (X : Cx) (pins : List (Addr × Obj)) (σ : St) (Q : Bool → Hp → Prop) (b : Bool) (s' : Shared) : Prop := ∃ H', Inv X pins σ H' s' ∧ Q b H'
def AP (X : Cx) (pins : List (Addr × Obj)) (σ : St) (Q : List V → Hp → Prop) (us : List Value) (s' : Shared) : Prop := ∃ vs H', Inv X pins σ H' s' ∧ Vals vs us ∧ Q vs H'
def SP (X : Cx) (pins : List (Addr × Obj)) (D : Ends) (f : Flow) (s' : Shared) : Prop :=
  match f with
  | .next => ∃ σ' H', Inv X pins σ' H' s' ∧ D.nx σ' H'
  | .brk => ∃ σ' H', Inv X pins σ' H' s' ∧ D.bk σ' H'
  | .cont => ∃ σ' H', Inv X pins σ' H' s' ∧ D.ct σ' H'
  | .ret u => ∃ v σ' H', Inv X pins σ' H' s' ∧ RelV v u ∧ D.rt v H'

def PE (X : Cx) (e : Expr) (t : TE) : Prop :=
  ∀ (pins : List (Addr × Obj)) (s : Shared) (σ : St) (H : Hp) (Q : VK), Inv X pins σ H s → t σ H Q → wpAny (model X.prog X.w) X.A (eval e X.env) (EP X pins σ Q) X.xe s
def PT (X : Cx) (e : Expr) (t : TT) : Prop :=
  ∀ (pins : List (Addr × Obj)) (s : Shared) (σ : St) (H : Hp) (Q : Bool → Hp → Prop), Inv X pins σ H s → t σ H Q → wpAny (model X.prog X.w) X.A (isTrue e X.env (eval e X.env)) (TP X pins σ Q) X.xe s
def PW (X : Cx) (e : Expr) (t : TT) : Prop :=
  ∀ (whole : Sem Value) (pins : List (Addr × Obj)) (s : Shared) (σ : St) (H : Hp) (Q : Bool → Hp → Prop), Inv X pins σ H s → t σ H Q → wpAny (model X.prog X.w) X.A (isTrue e X.env whole) (TP X pins σ Q) X.xe s
theorem PW.pt {X : Cx} {e : Expr} {t : TT} (h : PW X e t) : PT X e t := h _
def PA (X : Cx) (es : List Expr) (t : TA) : Prop :=
  ∀ (pos : Pos) (pins : List (Addr × Obj)) (s : Shared) (σ : St) (H : Hp) (Q : List V → Hp → Prop), Inv X pins σ H s → t σ H Q → wpAny (model X.prog X.w) X.A (spliced (backTo pos (starEach es X.env))) (AP X pins σ Q) X.xe s
def PS (X : Cx) (st : Stmt) (t : TS) : Prop :=
  ∀ (pins : List (Addr × Obj)) (s : Shared) (σ : St) (H : Hp) (D : Ends), Inv X pins σ H s → t D σ H → wpAny (model X.prog X.w) X.A (exec st X.env) (SP X pins D) X.xe s
def PSs (X : Cx) (st : List Stmt) (t : TS) : Prop :=
  ∀ (pins : List (Addr × Obj)) (s : Shared) (σ : St) (H : Hp) (D : Ends), Inv X pins σ H s → t D σ H → wpAny (model X.prog X.w) X.A (execs st X.env) (SP X pins D) X.xe s
theorem thn {α : Type} {t : Sem α} {Q Q' : α → Shared → Prop} {M : Model} {A : Around} {E : Value → Shared → Prop} {s : Shared} (h : wpAny M A t Q E s) (hQ : ∀ a s, Q a s → Q' a s) : wpAny M A t Q' E s := wpAny_mono h hQ fun _ _ x => x
end L2

namespace L2
open PySem PySem.Spec PyProof.Rows
section
variable {X : Cx}

def tVar (i : Nat) : TE := fun σ H Q => ∃ v, σ[i]? = some (some v) ∧ Q v H
def tC (v : V) : TE := fun _ H Q => Q v H
theorem pe_var {i : Nat} {x : Str} {pos : Pos} (hN : X.N[i]? = some x) (hv : Vis X.env.scope x) (hd : (x == ("__debug__" : Str)) = false := by decide) (hcd : (x == ("__classdict__" : Str)) = false := by decide) : PE X (.Name x pos) (tVar i) := by
  intro pins s σ H Q I h
  obtain ⟨v, e, h⟩ := h
  obtain ⟨m, hn, hl⟩ := I.loc
  obtain ⟨u, r, l⟩ := hl i x v hN e hv
  have fin : EP X pins σ Q u s := ⟨v, H, I, r, h⟩
  rcases l with ⟨hk, hm⟩ | ⟨hk, c, hc, hcell⟩
  · exact wpAny_Name (wpAny_loadName_local I.ok.kind hk hn hm fin) hd
  · rcases hk with hk | hk
    · exact wpAny_Name (wpAny_loadName_cell I.ok.kind hk hc hcell fin) hd
    · exact wpAny_Name (wpAny_loadName_free I.ok.kind hk hc hcell fin hcd) hd
theorem pe_int {i j pos} : PE X (.Constant (.int i) j pos) (tC (.int i)) := fun _ _ _ H _ I h => wpAny_Constant_int ⟨.int i, H, I.tok _, ⟨_, rfl⟩, h⟩
theorem pe_bl {b j pos} : PE X (.Constant (.bool b) j pos) (tC (.bl b)) := fun _ _ _ H _ I h => Constant_bool ⟨.bl b, H, I, rfl, h⟩
theorem pe_non {j pos} : PE X (.Constant .none j pos) (tC .non) := fun _ _ _ H _ I h => Constant_none ⟨.non, H, I, rfl, h⟩
theorem pe_str {x j pos} : PE X (.Constant (.str x) j pos) (tC (.str x)) := fun _ _ _ H _ I h => Calls.Constant_str ⟨.str x, H, I.tok _, ⟨_, rfl⟩, h⟩

def Gl (X : Cx) (x : Str) : Prop := X.env.kindOf x = some .globalImplicit
theorem ld_glob {E : Value → Shared → Prop} {pins : List (Addr × Obj)} {s : Shared} {σ : St} {H : Hp} {x : Str} {u : Value} {pos : Pos} {Q : Value → Shared → Prop} (I : Inv X pins σ H s) (hg : Gl X x) (hm : X.mg x = some u) (h : Q u s)
    (hd : (x == ("__debug__" : Str)) = false := by decide) : wpAny (model X.prog X.w) X.A (eval (.Name x pos) X.env) Q E s :=
  Calls.Name_function_global I.ok.kind hg (Calls.loadGlobal_global (by rw [I.ok.glob]; exact I.mod.glob.keeps I.bk) hm h) hd
theorem ld_blt {E : Value → Shared → Prop} {pins : List (Addr × Obj)} {s : Shared} {σ : St} {H : Hp} {x : Str} {u : Value} {pos : Pos} {Q : Value → Shared → Prop} (I : Inv X pins σ H s) (hg : Gl X x) (hm : X.mg x = none) (hv : bootBuiltins x = some u) (h : Q u s)
    (hn : x ≠ "__name__" := by decide) (hd : (x == ("__debug__" : Str)) = false := by decide) : wpAny (model X.prog X.w) X.A (eval (.Name x pos) X.env) Q E s := by
  obtain ⟨mb, h1, h2⟩ := I.mod.blt
  exact Calls.Name_function_global I.ok.kind hg (Calls.loadGlobal_builtin (by rw [I.ok.glob]; exact I.mod.glob.keeps I.bk) hm (by rw [I.ok.blt]; exact h1.keeps I.bk) ((h2 x hn).trans hv) h) hd
theorem pe_glob {x : Str} {v : V} {u : Value} {pos : Pos} (hg : Gl X x) (hm : X.mg x = some u) (r : RelV v u) (hd : (x == ("__debug__" : Str)) = false := by decide) : PE X (.Name x pos) (tC v) :=
  fun _ _ _ H _ I h => ld_glob I hg hm ⟨v, H, I, r, h⟩ hd
theorem pe_bltn {x : Str} {v : V} {u : Value} {pos : Pos} (hg : Gl X x) (hm : X.mg x = none) (hv : bootBuiltins x = some u) (r : RelV v u) (hn : x ≠ "__name__" := by decide) (hd : (x == ("__debug__" : Str)) = false := by decide) : PE X (.Name x pos) (tC v) :=
  fun _ _ _ H _ I h => ld_blt I hg hm hv ⟨v, H, I, r, h⟩ hn hd

variable {a b : Expr} {ta tb : TE} {pos : Pos}
def PC (X : Cx) (op : CmpOp) (a b : Expr) (t : TE) : Prop :=
  ∀ (pins : List (Addr × Obj)) (s : Shared) (σ : St) (H : Hp) (Q : VK), Inv X pins σ H s → t σ H Q →
    wpAny (model X.prog X.w) X.A (eval a X.env) (fun v s₁ => wpAny (model X.prog X.w) X.A (eval b X.env) (fun u s₂ => wpAny (model X.prog X.w) X.A (compareOp op v u) (EP X pins σ Q) X.xe s₂) X.xe s₁) X.xe s
theorem nobehind (b : Expr) {op : CmpOp} (h : op ≠ .In) (h2 : op ≠ .NotIn) : behindInMarks op b = false := by
  have e1 : (op == CmpOp.In) = false := by cases op <;> first | rfl | exact absurd rfl h
  have e2 : (op == CmpOp.NotIn) = false := by cases op <;> first | rfl | exact absurd rfl h2
  cases b <;> simp [behindInMarks, e1, e2]
def tIsN (ta : TE) : TE := fun σ H Q => ta σ H fun x H1 => Q (.bl (decide (x = .non))) H1
theorem RelV.none_iff {x : V} {v : Value} (r : RelV x v) : (v == Value.none) = decide (x = .non) := by
  cases x with
  | non => cases r; rfl
  | bl _ => cases r; rfl
  | int _ => obtain ⟨t, rfl⟩ := r; rfl
  | str _ => obtain ⟨t, rfl⟩ := r; rfl
  | byt _ => obtain ⟨t, rfl⟩ := r; rfl
  | flt _ => obtain ⟨t, rfl⟩ := r; rfl
  | ref _ => cases r; rfl
  | ty _ => cases r; rfl
theorem pc_isN {j pos'} (ha : PE X a ta) : PC X .Is a (.Constant .none j pos') (tIsN ta) := by
  intro pins s σ H Q I h
  refine thn (ha pins s σ H _ I h) fun v s1 ⟨x, H1, I1, r1, q1⟩ => ?_
  exact Constant_none (is_none_gen ⟨.bl _, H1, I1, by rw [r1.none_iff]; rfl, q1⟩)
def tB (t : TE) : TT := fun σ H Q => t σ H fun x H1 => ∃ c, x = .bl c ∧ Q c H1
theorem pt_cmp {op : CmpOp} {t : TE} (h : PC X op a b t) (h1 : behindInMarks op b = false := by first | exact nobehind _ (by decide) (by decide) | rfl) : PT X (.Compare a [op] [b] pos) (tB t) := by
  intro pins s σ H Q I hw
  refine wpAny_isTrue_Compare1 (thn (h pins s σ H _ I hw) fun v s1 h1 => thn h1 fun u s2 h2 => thn h2 fun c s3 ⟨x, H1, I1, r1, q1⟩ => ?_) h1
  obtain ⟨d, rfl, q⟩ := q1
  cases r1
  exact wpAny_truthy_bool ⟨H1, I1, q⟩
theorem pt_val {e : Expr} {t : TE} (h : PE X e t) (he : ∀ whole, isTrue e X.env whole = (do let v ← whole; standAt e.pos; holding [v] (truthy v)) := by intro _; rfl) : PT X e (tB t) := by
  intro pins s σ H Q I hw
  refine isTrue_plain (thn (h pins s σ H _ I hw) fun v s1 ⟨x, H1, I1, r1, q1⟩ => ?_) (he _)
  obtain ⟨d, rfl, q⟩ := q1
  cases r1
  exact wpAny_truthy_bool ⟨H1, I1, q⟩

variable {tA tB' : TT} {rest : List Expr}
def tOr (t u : TT) : TT := fun σ H Q => t σ H fun c H1 => if c = true then Q true H1 else u σ H1 Q
def tNot (t : TT) : TT := fun σ H Q => t σ H fun c H1 => Q (!c) H1
theorem pw_or1 (ha : PT X a tA) : PW X (.BoolOp .Or [a] pos) tA := by
  intro wh pins s σ H Q I h
  refine isTrue_or (thn (ha pins s σ H Q I h) fun c s1 e => ?_)
  cases c with
  | false => exact isTrue_or_nil e
  | true => exact e
theorem pw_or (ha : PT X a tA) (hb : PW X (.BoolOp .Or (b :: rest) pos) tB') : PW X (.BoolOp .Or (a :: b :: rest) pos) (tOr tA tB') := by
  intro wh pins s σ H Q I h
  refine isTrue_or (thn (ha pins s σ H _ I h) fun c s1 ⟨H1, I1, q1⟩ => ?_)
  cases c with
  | true => exact ⟨H1, I1, q1⟩
  | false => exact hb wh pins s1 σ H1 Q I1 q1
theorem pt_not (ha : PT X a tA) : PT X (.UnaryOp .Not a pos) (tNot tA) := by
  intro pins s σ H Q I h
  exact isTrue_not (ha pins s σ H (fun c H1 => Q (!c) H1) I h)
def tAndV (ta tb : TE) : TE := fun σ H Q => ta σ H fun x H1 => ∃ c, x = .bl c ∧ if c = true then tb σ H1 Q else Q (.bl false) H1
def tNotV (ta : TE) : TE := fun σ H Q => ta σ H fun x H1 => ∃ c, x = .bl c ∧ Q (.bl (!c)) H1
theorem pe_one {op} {t : TE} (h : PE X a t) : PE X (.BoolOp op [a] pos) t := fun pins s σ H Q I hw => BoolOp_one (h pins s σ H Q I hw)
theorem pe_and (ha : PE X a ta) (hb : PE X (.BoolOp .And (b :: rest) pos) tb) : PE X (.BoolOp .And (a :: b :: rest) pos) (tAndV ta tb) := by
  intro pins s σ H Q I h
  refine BoolOp_and (thn (ha pins s σ H _ I h) fun v s1 ⟨x, H1, I1, r1, q1⟩ => ?_)
  obtain ⟨c, rfl, q1⟩ := q1
  cases r1
  refine wpAny_truthy_bool ?_
  cases c with
  | true => exact hb pins s1 σ H1 Q I1 q1
  | false => exact ⟨.bl false, H1, I1, rfl, q1⟩
theorem pe_not (ha : PE X a ta) : PE X (.UnaryOp .Not a pos) (tNotV ta) := by
  intro pins s σ H Q I h
  refine UnaryOp_ (thn (ha pins s σ H _ I h) fun v s1 ⟨x, H1, I1, r1, q1⟩ => ?_)
  obtain ⟨c, rfl, q1⟩ := q1
  cases r1
  exact not_of (wpAny_truthy_bool ⟨.bl (!c), H1, I1, rfl, q1⟩)
def tIf (t : TT) (ta tb : TE) : TE := fun σ H Q => t σ H fun c H1 => if c = true then ta σ H1 Q else tb σ H1 Q
theorem pe_ifExp {c : Expr} (hc : PT X c tA) (ha : PE X a ta) (hb : PE X b tb) : PE X (.IfExp c a b pos) (tIf tA ta tb) := by
  intro pins s σ H Q I h
  refine wpAny_IfExp (thn (hc pins s σ H _ I h) fun d s1 ⟨H1, I1, q1⟩ => ?_)
  cases d with
  | true => exact ha pins s1 σ H1 Q I1 q1
  | false => exact hb pins s1 σ H1 Q I1 q1
end
end L2

namespace L2
open PySem PySem.Spec PyProof.Rows

def SqL (K : PySem.W.Frag) (H : Hp) (a : Addr) (xs : List V) : Prop :=
  Rd H a (.lst xs) ∨
    ∃ (o : Obj) (its : Array Value) (n : Nat), K.lookup a = some o ∧ o.cls = .type "list" ∧ o.dict = none ∧ o.data = .seq its n ∧ its.size ≤ sizeLine ∧ Vals xs its.toList
def SqT (K : PySem.W.Frag) (H : Hp) (a : Addr) (xs : List V) : Prop :=
  Rd H a (.tup xs) ∨
    ∃ (o : Obj) (its : Array Value) (n : Nat), K.lookup a = some o ∧ o.cls = .type "tuple" ∧ o.data = .seq its n ∧ its.size ≤ sizeLine ∧ Vals xs its.toList
def absV : Value → Option V
  | .none => some .non
  | .bool b => some (.bl b)
  | .int i _ => some (.int i)
  | .str x _ => some (.str x)
  | .bytes b _ => some (.byt b)
  | .float b _ => some (.flt b)
  | .ref a => some (.ref a)
  | .type n => some (.ty n)
  | _ => none
theorem RelV.abs {x : V} {u : Value} (r : RelV x u) : absV u = some x := by
  cases x with
  | non => cases r; rfl
  | bl _ => cases r; rfl
  | int _ => obtain ⟨t, rfl⟩ := r; rfl
  | str _ => obtain ⟨t, rfl⟩ := r; rfl
  | byt _ => obtain ⟨t, rfl⟩ := r; rfl
  | flt _ => obtain ⟨t, rfl⟩ := r; rfl
  | ref _ => cases r; rfl
  | ty _ => cases r; rfl
theorem RelV.inj {x y : V} {u : Value} (r : RelV x u) (q : RelV y u) : x = y := Option.some.inj (r.abs.symm.trans q.abs)
theorem Vals.inj : ∀ {xs ys : List V} {us : List Value}, Vals xs us → Vals ys us → xs = ys
  | _, _, _, .nil, .nil => rfl
  | _, _, _, .cons r t, .cons r' t' => by rw [r.inj r', Vals.inj t t']
section
variable {X : Cx} {pins : List (Addr × Obj)} {σ : St} {H : Hp} {s : Shared} {a : Addr} {xs ys : List V}
theorem SqL.of {K : PySem.W.Frag} (h : H a = some (.lst xs)) : SqL K H a xs := .inl (.inl h)
theorem SqT.of {K : PySem.W.Frag} (h : H a = some (.tup xs)) : SqT K H a xs := .inl (.inl h)
theorem Inv.list (I : Inv X pins σ H s) (h : SqL X.K H a xs) : ∃ its : List Value, Vals xs its ∧ PlainL s.heap a its.toArray ∧ xs.length ≤ sizeLine := by
  rcases h with h | ⟨o, its, n, hk, hc, hd, hs, hz, r⟩
  · obtain ⟨z, its, n, r, e⟩ := h.ok I.hok
    exact ⟨its, r, ⟨_, n, e, rfl, rfl, rfl⟩, z⟩
  · refine ⟨its.toList, r, ⟨o, n, I.kIn a o hk, hc, hd, by simpa using hs⟩, ?_⟩
    have e := r.length
    simp only [Array.length_toList] at e
    omega
theorem Inv.tuple (I : Inv X pins σ H s) (h : SqT X.K H a xs) : ∃ its : List Value, Vals xs its ∧ IsTup s.heap a its.toArray ∧ xs.length ≤ sizeLine := by
  rcases h with h | ⟨o, its, n, hk, hc, hs, hz, r⟩
  · obtain ⟨z, its, r, p⟩ := h.ok I.hok
    exact ⟨its, r, p, z⟩
  · refine ⟨its.toList, r, ⟨o, I.kIn a o hk, hc, n, by simpa using hs⟩, ?_⟩
    have e := r.length
    simp only [Array.length_toList] at e
    omega
theorem Inv.list_inj (I : Inv X pins σ H s) (h : SqL X.K H a xs) (h' : SqL X.K H a ys) : xs = ys := by
  obtain ⟨its, r, ⟨o, n, e, _, _, d⟩, _⟩ := I.list h
  obtain ⟨its', r', ⟨o', n', e', _, _, d'⟩, _⟩ := I.list h'
  rw [e] at e'; cases e'
  rw [d] at d'
  injection d' with d1 _
  have : its = its' := by simpa using congrArg Array.toList d1
  subst this
  exact r.inj r'
theorem Inv.tuple_inj (I : Inv X pins σ H s) (h : SqT X.K H a xs) (h' : SqT X.K H a ys) : xs = ys := by
  obtain ⟨its, r, ⟨o, e, _, n, d⟩, _⟩ := I.tuple h
  obtain ⟨its', r', ⟨o', e', _, n', d'⟩, _⟩ := I.tuple h'
  rw [e] at e'; cases e'
  rw [d] at d'
  injection d' with d1 _
  have : its = its' := by simpa using congrArg Array.toList d1
  subst this
  exact r.inj r'
end

abbrev Cx.wish (X : Cx) (E : Value → Shared → Prop) : Cx := { X with xe := E }
abbrev Cx.nox (X : Cx) : Cx := X.wish fun _ _ => False
theorem Cx.Ok.wish {X : Cx} (ok : X.Ok) (E : Value → Shared → Prop) : (X.wish E).Ok :=
  ⟨ok.mod, ok.kind, ok.glob, ok.blt, ok.above, ok.inj, ok.has, ok.cab, ok.hd, ok.frames, ok.stk, ok.exf, ok.bs, ok.bsz, ok.noex, ok.exfs, ok.funs, ok.frf⟩
theorem Cx.Ok.unwish {X : Cx} {E : Value → Shared → Prop} (ok : (X.wish E).Ok) : X.Ok :=
  ⟨ok.mod, ok.kind, ok.glob, ok.blt, ok.above, ok.inj, ok.has, ok.cab, ok.hd, ok.frames, ok.stk, ok.exf, ok.bs, ok.bsz, ok.noex, ok.exfs, ok.funs, ok.frf⟩
section
variable {X : Cx} {pins : List (Addr × Obj)} {σ : St} {H : Hp} {s : Shared} {E : Value → Shared → Prop}
theorem Inv.wish (I : Inv X pins σ H s) (E : Value → Shared → Prop) : Inv (X.wish E) pins σ H s := ⟨I.ok.wish E, I.os, I.bare, I.base, I.loc, I.cell, I.free, I.freeC, I.pin, I.hok, I.len⟩
theorem Inv.unwish (I : Inv (X.wish E) pins σ H s) : Inv X pins σ H s := ⟨I.ok.unwish, I.os, I.bare, I.base, I.loc, I.cell, I.free, I.freeC, I.pin, I.hok, I.len⟩
theorem SP.unwish {D : Ends} {f : Flow} {s' : Shared} (h : SP (X.wish E) pins D f s') : SP X pins D f s' := by
  cases f with
  | next => obtain ⟨σ', H', I, q⟩ := h; exact ⟨σ', H', I.unwish, q⟩
  | brk => obtain ⟨σ', H', I, q⟩ := h; exact ⟨σ', H', I.unwish, q⟩
  | cont => obtain ⟨σ', H', I, q⟩ := h; exact ⟨σ', H', I.unwish, q⟩
  | ret u => obtain ⟨v, σ', H', I, r, q⟩ := h; exact ⟨v, σ', H', I.unwish, r, q⟩
theorem PSs.nox {st : List Stmt} {t : TS} (h : PSs X.nox st t) : PSs X st t := fun pins s σ H D I hw =>
  wpAny_mono (h pins s σ H D (I.wish _) hw) (fun _ _ q => q.unwish) fun _ _ z => False.elim z
end

section
variable {X : Cx} {st : Stmt} {rest : List Stmt} {t u : TS} {e : Expr} {te : TE} {pos : Pos}
def tNext : TS := fun D σ H => D.nx σ H
def tSeq (t u : TS) : TS := fun D σ H => t { D with nx := u D } σ H
theorem pss_nil : PSs X [] tNext := fun _ _ σ H _ I h => wpAny_execs_nil ⟨σ, H, I, h⟩
theorem pss_cons (h1 : PS X st t) (h2 : PSs X rest u) : PSs X (st :: rest) (tSeq t u) := by
  intro pins s σ H D I h
  refine wpAny_execs_cons (thn (h1 pins s σ H { D with nx := u D } I h) fun f s1 q => ?_)
  cases f with
  | next =>
    obtain ⟨σ', H', I', q⟩ := q
    exact h2 pins s1 σ' H' D I' q
  | ret v => exact q
  | brk => exact q
  | cont => exact q
theorem pss_one (h1 : PS X st t) : PSs X [st] t := by
  intro pins s σ H D I h
  refine wpAny_execs_cons (thn (h1 pins s σ H D I h) fun f s1 q => ?_)
  cases f with
  | next => exact wpAny_execs_nil q
  | ret v => exact q
  | brk => exact q
  | cont => exact q
def tCont : TS := fun D σ H => D.ct σ H
theorem ps_continue : PS X (.Continue pos) tCont := fun _ _ σ H _ I h => wpAny_Continue ⟨σ, H, I, h⟩
theorem Inv.quiet {pins : List (Addr × Obj)} {σ : St} {H : Hp} {s : Shared} (I : Inv X pins σ H s) : interactive X.env = false := by simp [interactive, I.ok.kind]
def tDrop (te : TE) : TS := fun D σ H => te σ H fun _ H1 => D.nx σ H1
theorem ps_expr (he : PE X e te) (hs : swapsWith e none pos.line X.env = pure false := by rfl) : PS X (.Expr e pos) (tDrop te) := by
  intro pins s σ H D I h
  exact wpAny_Expr_any (thn (he pins s σ H _ I h) fun v s1 ⟨x, H1, I1, r1, q1⟩ => ⟨σ, H1, I1, q1⟩) I.quiet hs
def tRet (te : TE) : TS := fun D σ H => te σ H D.rt
theorem ps_ret (he : PE X e te) : PS X (.Return (some e) pos) (tRet te) := by
  intro pins s σ H D I h
  exact wpAny_Return_some (thn (he pins s σ H _ I h) fun v s1 ⟨x, H1, I1, r1, q1⟩ => ⟨x, σ, H1, I1, r1, q1⟩)
def tIfS (c : TT) (t u : TS) : TS := fun D σ H => c σ H fun b H1 => if b = true then t D σ H1 else u D σ H1
theorem ps_if {c : Expr} {a b : List Stmt} {tc : TT} (hc : PT X c tc) (ha : PSs X a t) (hb : PSs X b u) : PS X (.If c a b pos) (tIfS tc t u) := by
  intro pins s σ H D I h
  refine wpAny_If (thn (hc pins s σ H _ I h) fun d s1 ⟨H1, I1, q1⟩ => ?_)
  cases d with
  | true => exact ha pins s1 σ H1 D I1 q1
  | false => exact hb pins s1 σ H1 D I1 q1
def tNever : TS := fun _ _ _ => False
theorem pss_never {sts : List Stmt} : PSs X sts tNever := fun _ _ _ _ _ _ h => h.elim
end

abbrev TG := V → St → Hp → (St → Hp → Prop) → Prop
abbrev TGs := List V → St → Hp → (St → Hp → Prop) → Prop
def PG (X : Cx) (target : Expr) (t : TG) : Prop :=
  ∀ (pins : List (Addr × Obj)) (s : Shared) (σ : St) (H : Hp) (v : V) (u : Value) (Q : St → Hp → Prop), Inv X pins σ H s → RelV v u → t v σ H Q →
    wpAny (model X.prog X.w) X.A (assign target X.env u) (fun _ s' => ∃ σ' H', Inv X pins σ' H' s' ∧ Q σ' H') X.xe s
def PGs (X : Cx) (ts : List Expr) (t : TGs) : Prop :=
  ∀ (pins : List (Addr × Obj)) (s : Shared) (σ : St) (H : Hp) (vs : List V) (us : List Value) (Q : St → Hp → Prop), Inv X pins σ H s → Vals vs us → t vs σ H Q →
    wpAny (model X.prog X.w) X.A (assignInOrder ((assignEach ts X.env).map (·.2)) us) (fun _ s' => ∃ σ' H', Inv X pins σ' H' s' ∧ Q σ' H') X.xe s
abbrev TSet := V → V → V → Hp → (Hp → Prop) → Prop
def PSet (X : Cx) (t : TSet) : Prop :=
  ∀ (pins : List (Addr × Obj)) (s : Shared) (σ : St) (H : Hp) (o i v : V) (ov iv u : Value) (Q : Hp → Prop), Inv X pins σ H s → RelV o ov → RelV i iv → RelV v u → t o i v H Q →
    wpAny (model X.prog X.w) X.A (setItem ov iv u) (fun _ s' => ∃ H', Inv X pins σ H' s' ∧ Q H') X.xe s
abbrev TIp := V → V → Hp → VK → Prop
def PIp (X : Cx) (op : Operator) (t : TIp) : Prop :=
  ∀ (pins : List (Addr × Obj)) (s : Shared) (σ : St) (H : Hp) (x y : V) (v u : Value) (Q : VK), Inv X pins σ H s → RelV x v → RelV y u → t x y H Q →
    wpAny (model X.prog X.w) X.A (inplaceOp op v u) (EP X pins σ Q) X.xe s
section
variable {X : Cx} {pos : Pos}
def gName (i : Nat) : TG := fun v σ H Q => Q (σ.set i (some v)) H
theorem pg_name {i : Nat} {x : Str} (hN : X.N.Nodup) (hi : X.N[i]? = some x) (hx : Loc X.env.scope x) (hf : X.fn x = true ∨ X.env.scope.names.lookup x = some .local := by first | exact .inl rfl | exact .inr rfl | assumption) : PG X (.Name x pos) (gName i) := by
  intro pins s σ H v u Q I r h
  exact wpAny_assign_Name (store_ok I hN hi hx r (fun s' I' => ⟨_, H, I', h⟩) hf)
def gNil : TGs := fun vs σ H Q => vs = [] ∧ Q σ H
def gCons (t : TG) (u : TGs) : TGs := fun vs σ H Q => ∃ v r, vs = v :: r ∧ t v σ H fun σ' H' => u r σ' H' Q
theorem pgs_nil : PGs X [] gNil := by
  intro pins s σ H vs us Q I r h
  obtain ⟨e, h⟩ := h
  subst e
  cases r
  exact assignInOrder_nil ⟨σ, H, I, h⟩
theorem pgs_cons {e : Expr} {es : List Expr} {t : TG} {u : TGs} (h1 : PG X e t) (h2 : PGs X es u)
    (hs : (assignEach (e :: es) X.env).map (·.2) = assign e X.env :: (assignEach es X.env).map (·.2) := by rfl) : PGs X (e :: es) (gCons t u) := by
  intro pins s σ H vs us Q I r h
  obtain ⟨v, vr, e1, h⟩ := h
  subst e1
  cases r with
  | cons r rr =>
    rw [hs]
    refine assignInOrder_cons (thn (h1 pins s σ H _ _ _ I r h) fun _ s1 ⟨σ1, H1, I1, q1⟩ => ?_)
    exact h2 pins s1 σ1 H1 _ _ Q I1 rr q1
def gTup (K : PySem.W.Frag) (n : Nat) (t : TGs) : TG := fun v σ H Q => ∃ a xs, v = .ref a ∧ SqT K H a xs ∧ xs.length = n ∧ t xs σ H Q
theorem pg_tup {es : List Expr} {k : Nat} {t : TGs} {n : Nat} (hc : X.calm = true) (h : PGs X es t)
    (hn : (assignEach es X.env).length = n := by rfl) (hst : (assignEach es X.env).findIdx? (·.1) = none := by rfl) : PG X (.Tuple es k pos) (gTup X.K n t) := by
  intro pins s σ H v u Q I r hw
  obtain ⟨a, xs, e1, hq, hl, hw⟩ := hw
  subst e1
  cases r
  obtain ⟨its, rv, ht, hz⟩ := I.tuple hq
  refine assign_Tuple_tuple (I.ok.hd hc) ht (by simp [hn, ← hl, rv.length]) hst fun h' hx => ?_
  have I1 : Inv X pins σ H { s with heap := h' } := I.kept (t' := s.toks) fun b o e => hx b o (Nat.ne_of_lt (Heap.lt_size e)) e
  exact h pins _ σ H xs _ Q I1 (by simpa using rv) hw
def gSub (to ti : TE) (t : TSet) : TG := fun v σ H Q => to σ H fun o H1 => ti σ H1 fun i H2 => t o i v H2 fun H3 => Q σ H3
theorem pg_sub {o i : Expr} {to ti : TE} {t : TSet} (ho : PE X o to) (hi : PE X i ti) (hs : PSet X t)
    (ha : ∀ v, assign (.Subscript o i pos) X.env v = (do
      let ov ← holding [v] (eval o X.env)
      let iv ← holding [v, ov] (eval i X.env)
      standAt pos
      holding [v, ov, iv] (setItem ov iv v)
      release [v, ov, iv] []) := by intro _; rfl) : PG X (.Subscript o i pos) (gSub to ti t) := by
  intro pins s σ H v u Q I r h
  rw [ha]
  refine wpAny_bind (wpAny_holding (thn (ho pins s σ H _ I h) fun ov s1 ⟨x, H1, I1, r1, q1⟩ => ?_))
  refine wpAny_bind (wpAny_holding (thn (hi pins s1 σ H1 _ I1 q1) fun iv s2 ⟨y, H2, I2, r2, q2⟩ => ?_))
  refine wpAny_bind (wpAny_standAt (wpAny_bind (wpAny_holding (thn (hs pins s2 σ H2 x y v ov iv u _ I2 r1 r2 r q2) fun _ s3 ⟨H3, I3, q3⟩ => ?_))))
  exact wpAny_release ⟨σ, H3, I3, q3⟩
def tAsg (te : TE) (g : TG) : TS := fun D σ H => te σ H fun x H1 => g x σ H1 D.nx
theorem ps_asg {tg e : Expr} {te : TE} {g : TG} (he : PE X e te) (hg : PG X tg g) (hs : swapsWithSole [tg] e pos.line X.env = pure false := by rfl) (hw : swappedStores [tg] e X.env = pure none := by rfl)
    (h1 : (assignEach [tg] X.env).map (·.2) = [assign tg X.env] := by rfl) : PS X (.Assign [tg] e pos) (tAsg te g) := by
  intro pins s σ H D I h
  refine wpAny_Assign_stores (thn (he pins s σ H _ I h) fun v s1 ⟨x, H1, I1, r1, q1⟩ => ?_) hs hw
  rw [h1]
  exact thn (hg pins s1 σ H1 x v _ I1 r1 q1) fun _ s2 q => q
theorem ps_set {i : Nat} {x : Str} {e : Expr} {te : TE} {pos' : Pos} (hN : X.N.Nodup) (hi : X.N[i]? = some x) (hx : Loc X.env.scope x) (he : PE X e te) (hs : swapsWith e (some (.Name x pos')) pos.line X.env = pure false := by rfl) (hf : X.fn x = true ∨ X.env.scope.names.lookup x = some .local := by first | exact .inl rfl | exact .inr rfl | assumption) :
    PS X (.Assign [.Name x pos'] e pos) (tAsg te (gName i)) := by
  intro pins s σ H D I h
  refine wpAny_Assign_Name (thn (he pins s σ H _ I h) fun v s1 ⟨y, H1, I1, r1, q1⟩ => ?_) hs
  exact store_ok I1 hN hi hx r1 (fun s2 I2 => ⟨_, H1, I2, q1⟩) hf
def tPar (i j : Nat) (ta : TA) : TS := fun D σ H => ta σ H fun vs H1 => ∃ v w, vs = [v, w] ∧ D.nx ((σ.set i (some v)).set j (some w)) H1
theorem ps_par {i j : Nat} {x y : Str} {a b : Expr} {ta : TA} {px py pt : Pos} {kt k2 pt2} (hc : X.calm = true) (hN : X.N.Nodup) (hi : X.N[i]? = some x) (hj : X.N[j]? = some y) (hij : i ≠ j)
    (hx : X.env.scope.names.lookup x = some .local) (hy : X.env.scope.names.lookup y = some .local) (ha : PA X [a, b] ta)
    (hw : swappedStores [.Tuple [.Name x px, .Name y py] kt pt] (.Tuple [a, b] k2 pt2) X.env = pure (some [x, y]))
    (hs : swapsWithSole [.Tuple [.Name x px, .Name y py] kt pt] (.Tuple [a, b] k2 pt2) pos.line X.env = pure false := by rfl) :
    PS X (.Assign [.Tuple [.Name x px, .Name y py] kt pt] (.Tuple [a, b] k2 pt2) pos) (tPar i j ta) := by
  intro pins s σ H D I h
  rw [exec_Assign_arm]
  refine wpAny_bind (wpAny_standAt ?_)
  rw [hs]
  refine wpAny_bind (wpAny_pure ?_)
  rw [if_neg (by decide)]
  refine wpAny_bind (Tuple_ (thn (ha _ pins s σ H _ I h) fun us s1 ⟨vs, H1, I1, r1, q1⟩ => ?_))
  obtain ⟨v, w, e1, q1⟩ := q1
  subst e1
  obtain ⟨u1, u2, rfl, rv, rw'⟩ : ∃ u1 u2, us = [u1, u2] ∧ RelV v u1 ∧ RelV w u2 := by
    cases r1 with
    | cons p q =>
      cases q with
      | cons p' q' =>
        cases q'
        exact ⟨_, _, rfl, p, p'⟩
  refine wpAny_newObj_type ?_ (by show 2 ≤ sizeLine; decide)
  have I2 : Inv X pins σ H1 { s1 with heap := s1.heap.push { cls := .type "tuple", data := .seq [u1, u2].toArray } } := I1.kept (t' := s1.toks) fun b o e => Heap.get?_push_of_some _ e
  rw [hw]
  refine wpAny_bind (wpAny_pure ?_)
  show wpAny (model X.prog X.w) X.A (do rule "assign.swapped-stores"; let items ← unpackItems (.ref s1.heap.objs.size) 2 none; assignInOrder [fun v => bindName X.env y v, fun v => bindName X.env x v] items.reverse; pure Flow.next) _ _ _
  refine wpAny_bind (wpAny_rule (wpAny_bind (unpackItems_tuple (items := #[u1, u2]) (I.ok.hd hc) (IsTup.new s1.heap _) fun h' hx' => ?_)))
  have I3 := I2.kept (h' := h') (t' := s1.toks) fun b o e => hx' b o (Nat.ne_of_lt (Heap.lt_size e)) e
  show wpAny _ _ (assignInOrder [fun v => bindName X.env y v, fun v => bindName X.env x v] [u2, u1] >>= fun _ => pure Flow.next) _ _ _
  refine wpAny_bind (assignInOrder_cons (wpAny_bindName (store_ok I3 hN hj (.inl hy) rw' (fun s2 I4 => ?_) (.inr hy))))
  refine assignInOrder_cons (wpAny_bindName (store_ok I4 hN hi (.inl hx) rv (fun s3 I5 => assignInOrder_nil (wpAny_pure ?_)) (.inr hx)))
  rw [List.set_comm _ _ (Ne.symm hij)] at I5
  exact ⟨_, H1, I5, q1⟩
def tAug (i : Nat) (te : TE) (ti : TIp) : TS := fun D σ H => ∃ x, σ[i]? = some (some x) ∧ te σ H fun y H1 => ti x y H1 fun z H2 => D.nx (σ.set i (some z)) H2
theorem ps_aug {i : Nat} {x : Str} {e : Expr} {te : TE} {op : Operator} {ti : TIp} {pos' : Pos} (hN : X.N.Nodup) (hi : X.N[i]? = some x) (hx : Loc X.env.scope x) (he : PE X e te) (ho : PIp X op ti) (hf : X.fn x = true ∨ X.env.scope.names.lookup x = some .local := by first | exact .inl rfl | exact .inr rfl | assumption) :
    PS X (.AugAssign (.Name x pos') op e pos) (tAug i te ti) := by
  intro pins s σ H D I h
  obtain ⟨v, e1, h⟩ := h
  obtain ⟨m, hn, hl⟩ := I.loc
  have vis : Vis X.env.scope x := by rcases hx with k | k; exact .inl k; exact .inr (.inl k)
  obtain ⟨u, r, l⟩ := hl i x v hi e1 vis
  refine wpAny_AugAssign_Name ?_
  have go : wpAny (model X.prog X.w) X.A (eval e X.env) (fun w s₂ => wpAny (model X.prog X.w) X.A (inplaceOp op u w) (fun r s₃ => wpAny (model X.prog X.w) X.A (storeName X.env x r) (fun _ => SP X pins D .next) X.xe s₃) X.xe s₂) X.xe s := by
    refine thn (he pins s σ H _ I h) fun w s1 ⟨y, H1, I1, r1, q1⟩ => ?_
    refine thn (ho pins s1 σ H1 v y u w _ I1 r r1 q1) fun z s2 ⟨zv, H2, I2, r2, q2⟩ => ?_
    exact store_ok I2 hN hi hx r2 (fun s3 I3 => ⟨_, H2, I3, q2⟩) hf
  rcases l with ⟨hk, hm⟩ | ⟨hk, c, hc, hcell⟩
  · exact wpAny_loadName_local I.ok.kind hk hn hm go
  · rcases hk with hk | hk
    · exact wpAny_loadName_cell I.ok.kind hk hc hcell go
    · rcases hx with k | k
      · have : X.env.scope.names.lookup x = some .free := hk
        rw [k] at this; cases this
      · have : X.env.scope.names.lookup x = some .free := hk
        rw [k] at this; cases this
def ipI (f : Int → Int → Int) : TIp := fun x y H Q => ∃ i j, x = .int i ∧ y = .int j ∧ Q (.int (f i j)) H
theorem ip_add : PIp X .Add (ipI fun i j => i + j) := by
  intro pins s σ H x y v u Q I r1 r2 h
  obtain ⟨i, j, e1, e2, q⟩ := h
  subst e1; subst e2
  obtain ⟨t, rfl⟩ := r1
  obtain ⟨t', rfl⟩ := r2
  exact iadd_int ⟨.int _, H, I.tok _, ⟨_, rfl⟩, q⟩
end

section
variable {X : Cx} {pos : Pos}
def tWhile (c : TT) (tb : TS) : TS := fun D σ H => ∃ W : Nat → St → Hp → Prop, (∃ m, W m σ H) ∧ ∀ m σ H, W m σ H →
  c σ H fun b H1 => if b = true then ∃ N : St → Hp → Prop, (∀ σ' H', N σ' H' → ∃ m', m' < m ∧ W m' σ' H') ∧ tb { D with nx := N, ct := N, bk := D.nx } σ H1 else D.nx σ H1
theorem ps_while {c : Expr} {body : List Stmt} {tc : TT} {tb : TS} (hp : PassesOwn (model X.prog X.w) X.A X.env X.xe) (hc : PT X c tc) (hb : PSs X body tb) : PS X (.While c body [] pos) (tWhile tc tb) := by
  intro pins s σ H D I h
  obtain ⟨W, ⟨m0, w0⟩, turn⟩ := h
  refine wpAny_While (codeAny_whileLoop (fun n s' => ∃ σ' H', Inv X pins σ' H' s' ∧ W n σ' H') ?_ m0 ⟨σ, H, I, w0⟩)
  rintro n s1 ⟨σ1, H1, I1, w1⟩
  refine wpAny_passesOwn hp (thn (hc pins s1 σ1 H1 _ I1 (turn n σ1 H1 w1)) fun b s2 ⟨H2, I2, q2⟩ => ?_)
  cases b with
  | true =>
    obtain ⟨N, hN, q2⟩ := q2
    rw [if_pos rfl]
    refine wpAny_passesOwn hp (thn (hb pins s2 σ1 H2 _ I2 q2) fun f s3 q3 => ?_)
    cases f with
    | next =>
      obtain ⟨σ3, H3, I3, n3⟩ := q3
      obtain ⟨m', hm, w3⟩ := hN σ3 H3 n3
      exact ⟨m', hm, σ3, H3, I3, w3⟩
    | cont =>
      obtain ⟨σ3, H3, I3, n3⟩ := q3
      obtain ⟨m', hm, w3⟩ := hN σ3 H3 n3
      exact ⟨m', hm, σ3, H3, I3, w3⟩
    | brk => exact q3
    | ret v => exact q3
  | false =>
    rw [if_neg Bool.false_ne_true]
    exact wpAny_execs_nil ⟨σ1, H2, I2, q2⟩
end

structure It where
  go : Nat → Hp → Prop
  yld : Nat → Hp → V → Hp → Prop
  stop : Nat → Hp → Prop
def FpOk (X : Cx) (pins : List (Addr × Obj)) (H : Hp) (b : Addr) : Prop :=
  H b = none ∧ b ≠ X.env.locals ∧ b ∉ X.fs ∧ (b ∈ X.ex ∨ X.s₀.heap.objs.size ≤ b) ∧ (∀ x c, X.env.cells.lookup x = some c → c ≠ b) ∧ ∀ p ∈ X.pn ++ pins, p.1 ≠ b
theorem Inv.fpOk {X : Cx} {pins : List (Addr × Obj)} {σ : St} {H H' : Hp} {s : Shared} {b : Addr} (I : Inv X pins σ H s) (hb : s.heap.objs.size ≤ b) (hn : H' b = none) : FpOk X pins H' b := by
  refine ⟨hn, Nat.ne_of_gt (Nat.lt_of_lt_of_le I.lt hb), I.nofs hb, .inr (Nat.le_trans I.sz hb), fun x c e z => ?_, fun p hp z => ?_⟩
  · obtain ⟨v, q⟩ := I.cell x c e
    exact absurd (Nat.lt_of_lt_of_le q.lt (by rw [z]; exact hb)) (Nat.lt_irrefl _)
  · exact absurd (Nat.lt_of_lt_of_le (Heap.lt_size (I.pin p hp).1) (by rw [z]; exact hb)) (Nat.lt_irrefl _)
structure Turn (P : Program) (w : World) (K : PySem.W.Frag) (tg : Expr) (J : It) (fp : List Addr) (it : Addr) (tn : Nat → Heap → Prop) : Prop where
  mem : it ∈ fp
  obj : ∀ i h, tn i h → ∀ b ∈ fp, ∃ o, h.get? b = some o ∧ ∀ v, o.data ≠ .cell v
  keep : ∀ i h h', tn i h → (∀ b ∈ fp, ∀ o, h.get? b = some o → h'.get? b = some o) → tn i h'
  item : ∀ (X : Cx), X.prog = P → X.w = w → X.K = K → X.calm = true → ∀ (i : Nat) (pins : List (Addr × Obj)) (s : Shared) (σ : St) (H : Hp) (E : Value → Shared → Prop), Inv X pins σ H s → (∀ b ∈ fp, FpOk X pins H b) → tn i s.heap → J.go i H →
    wpAny (model P w) X.A (pyNext (.ref it)) (fun r s1 => ∃ u, r = some u ∧
      wpAny (model P w) X.A (letOwnedTupleGo tg (.ref it) u) (fun _ s2 => ∃ x H', Inv X pins σ H' s2 ∧ RelV x u ∧ J.yld i H x H' ∧ tn (i + 1) s2.heap ∧ ∀ b ∈ fp, H' b = none) E s1) E s
  done : ∀ (X : Cx), X.prog = P → X.w = w → X.K = K → X.calm = true → ∀ (i : Nat) (pins : List (Addr × Obj)) (s : Shared) (σ : St) (H : Hp) (E : Value → Shared → Prop), Inv X pins σ H s → (∀ b ∈ fp, FpOk X pins H b) → tn i s.heap → J.stop i H →
    wpAny (model P w) X.A (pyNext (.ref it)) (fun r s1 => r = none ∧ Inv X pins σ H s1) E s
  self : ∀ (A : Around) (i : Nat) (s : Shared) (Q : Value → Shared → Prop) (E : Value → Shared → Prop), tn i s.heap → Q (.ref it) s → wpAny (model P w) A (pyIter (.ref it)) Q E s
abbrev TI := St → Hp → (It → Hp → Prop) → Prop
def PIE (X : Cx) (pins : List (Addr × Obj)) (σ : St) (tg : Expr) (R : It → Hp → Prop) (itv : Value) (s2 : Shared) : Prop :=
  ∃ (it : Addr) (fp : List Addr) (tn : Nat → Heap → Prop) (J : It) (H' : Hp), itv = .ref it ∧ Inv X pins σ H' s2 ∧ Turn X.prog X.w X.K tg J fp it tn ∧ tn 0 s2.heap ∧ (∀ b ∈ fp, FpOk X pins H' b) ∧ R J H'
def PI (X : Cx) (tg iter : Expr) (wi : TI) : Prop :=
  ∀ (pins : List (Addr × Obj)) (s : Shared) (σ : St) (H : Hp) (R : It → Hp → Prop), Inv X pins σ H s → wi σ H R →
    wpAny (model X.prog X.w) X.A (eval iter X.env) (fun v s1 => wpAny (model X.prog X.w) X.A (pyIter v) (PIE X pins σ tg R) X.xe s1) X.xe s

theorem go_of {M : Model} {A : Around} {E : Value → Shared → Prop} {s : Shared} {tg : Expr} {it : Addr} {u : Value} {o : Obj} {n : String} {vs : Array Value} {Q : Unit → Shared → Prop} (ho : s.heap.get? it = some o) (hc : o.cls = .type n) (hd : o.data = .fields vs)
    (hn : ["enumerate", "zip", "dict_itemiterator", "dict_reverseitemiterator", "odict_iterator", "itertools.zip_longest", "itertools.pairwise"].contains n = false) (hQ : Q () s) : wpAny M A (letOwnedTupleGo tg (.ref it) u) Q E s := by
  unfold letOwnedTupleGo
  cases tg <;> first
    | exact wpAny_pure hQ
    | (cases u <;> first
        | exact wpAny_pure hQ
        | (refine wpAny_bind (wpAny_load ho ?_)
           rw [hc, hd]
           show wpAny M A (if (["enumerate", "zip", "dict_itemiterator", "dict_reverseitemiterator", "odict_iterator", "itertools.zip_longest", "itertools.pairwise"].contains n && vs[0]? == some (rawInt _)) = true then _ else _) Q E s
           rw [if_neg (by intro h; rw [hn, Bool.false_and] at h; cases h)]
           exact wpAny_pure hQ))

def Itl (K : PySem.W.Frag) (a : Addr) : It :=
  ⟨fun i H => ∃ xs x, SqL K H a xs ∧ xs[i]? = some x, fun i H x H' => H' = H ∧ ∀ xs, SqL K H a xs → xs[i]? = some x, fun i H => ∃ xs, SqL K H a xs ∧ xs.length ≤ i⟩
def Itt (K : PySem.W.Frag) (a : Addr) : It :=
  ⟨fun i H => ∃ xs x, SqT K H a xs ∧ xs[i]? = some x, fun i H x H' => H' = H ∧ ∀ xs, SqT K H a xs → xs[i]? = some x, fun i H => ∃ xs, SqT K H a xs ∧ xs.length ≤ i⟩
def Itr (lo : Int) (n : Nat) : It := ⟨fun i _ => i < n, fun i H x H' => H' = H ∧ x = .int (lo + i), fun i _ => n ≤ i⟩
theorem turn_list {P : Program} {w : World} {K : PySem.W.Frag} {tg : Expr} (a it : Addr) : Turn P w K tg (Itl K a) [it] it (fun i h => h.IsListIter it a i) where
  mem := by simp
  obj := fun i h st b hb => by
    have e : b = it := by simpa using hb
    subst e
    obtain ⟨o, e, c, d⟩ := st
    exact ⟨o, e, fun v z => by rw [d] at z; cases z⟩
  keep := fun i h h' st k => st.at fun o e => k it (by simp) o e
  item := by
    intro X hP hw hK hc i pins s σ H E I hf st hg
    subst hP hw hK
    obtain ⟨xs, x, hq, hx⟩ := hg
    obtain ⟨its, rv, p, hz⟩ := I.list hq
    obtain ⟨u, hu, ru⟩ := rv.get hx
    obtain ⟨f0, f1, f2, f3, f4, f5⟩ := hf it (by simp)
    refine wpAny_pyNext_list_item st p.isList (x := u) (by simpa using hu) fun h' st' sb => ?_
    have I1 : Inv X pins σ H { s with heap := h' } := I.turned (t' := s.toks) (fun b o hb e => (sb.2 b hb).trans e) f0 f1 f3 f4 f5
    obtain ⟨o, e, c, d⟩ := id st'
    exact ⟨u, rfl, go_of (s := { s with heap := h' }) e c d (by decide) ⟨x, H, I1, ru, ⟨rfl, fun ys hy => by rw [I.list_inj hy hq]; exact hx⟩, st', fun b hb => (hf b hb).1⟩⟩
  done := by
    intro X hP hw hK hc i pins s σ H E I hf st hg
    subst hP hw hK
    obtain ⟨xs, hq, hx⟩ := hg
    obtain ⟨its, rv, p, hz⟩ := I.list hq
    obtain ⟨f0, f1, f2, f3, f4, f5⟩ := hf it (by simp)
    have hl := rv.length
    exact wpAny_pyNext_list_end (I.ok.hd hc) st p.isList (by simp; omega) fun h' eb => ⟨rfl, I.turned (t' := s.toks) (fun b o hb e => eb b o hb e) f0 f1 f3 f4 f5⟩
  self := fun _ _ _ _ _ st h => wpAny_pyIter_listiter st h
theorem turn_tuple {P : Program} {w : World} {K : PySem.W.Frag} {tg : Expr} (a it : Addr) : Turn P w K tg (Itt K a) [it] it (fun i h => h.IsTupleIter it a i) where
  mem := by simp
  obj := fun i h st b hb => by
    have e : b = it := by simpa using hb
    subst e
    obtain ⟨o, e, c, d⟩ := st
    exact ⟨o, e, fun v z => by rw [d] at z; cases z⟩
  keep := fun i h h' st k => st.at fun o e => k it (by simp) o e
  item := by
    intro X hP hw hK hc i pins s σ H E I hf st hg
    subst hP hw hK
    obtain ⟨xs, x, hq, hx⟩ := hg
    obtain ⟨its, rv, p, hz⟩ := I.tuple hq
    obtain ⟨u, hu, ru⟩ := rv.get hx
    obtain ⟨f0, f1, f2, f3, f4, f5⟩ := hf it (by simp)
    refine wpAny_pyNext_tuple_item st (show s.heap.IsTuple a its.toArray from p) (x := u) (by simpa using hu) fun h' st' sb => ?_
    have I1 : Inv X pins σ H { s with heap := h' } := I.turned (t' := s.toks) (fun b o hb e => (sb.2 b hb).trans e) f0 f1 f3 f4 f5
    obtain ⟨o, e, c, d⟩ := id st'
    exact ⟨u, rfl, go_of (s := { s with heap := h' }) e c d (by decide) ⟨x, H, I1, ru, ⟨rfl, fun ys hy => by rw [I.tuple_inj hy hq]; exact hx⟩, st', fun b hb => (hf b hb).1⟩⟩
  done := by
    intro X hP hw hK hc i pins s σ H E I hf st hg
    subst hP hw hK
    obtain ⟨xs, hq, hx⟩ := hg
    obtain ⟨its, rv, p, hz⟩ := I.tuple hq
    obtain ⟨f0, f1, f2, f3, f4, f5⟩ := hf it (by simp)
    have hl := rv.length
    exact wpAny_pyNext_tuple_end (I.ok.hd hc) st (show s.heap.IsTuple a its.toArray from p) (by simp; omega) fun h' eb => ⟨rfl, I.turned (t' := s.toks) (fun b o hb e => eb b o hb e) f0 f1 f3 f4 f5⟩
  self := fun _ _ _ _ _ st h => wpAny_pyIter_tupleiter st h
theorem turn_range {P : Program} {w : World} {K : PySem.W.Frag} {tg : Expr} (it : Addr) (lo : Int) (n : Nat) : Turn P w K tg (Itr lo n) [it] it (fun i h => IsRangeIter h it (lo + (i : Nat) * 1) ((n : Int) - (i : Nat)) 1) where
  mem := by simp
  obj := fun i h st b hb => by
    have e : b = it := by simpa using hb
    subst e
    exact ⟨_, st, fun v z => by
      have z' : Data.fields _ = Data.cell v := z
      cases z'⟩
  keep := fun i h h' st k => k it (by simp) _ st
  item := by
    intro X hP hw hK hc i pins s σ H E I hf st hg
    subst hP hw hK
    obtain ⟨f0, f1, f2, f3, f4, f5⟩ := hf it (by simp)
    have W := Walks.range (prog := X.prog) (w := X.w) (I.ok.hd hc) it lo 1 n
    refine W.item i s _ _ hg st fun v h' tk hv st' kk => ?_
    obtain ⟨t, rfl⟩ := hv
    have I1 : Inv X pins σ H { s with heap := h', toks := tk } := I.turned (fun b o hb e => kk b o (by simpa using hb) e) f0 f1 f3 f4 f5
    refine ⟨_, rfl, go_of (s := { s with heap := h', toks := tk }) (n := "range_iterator") st' rfl rfl (by decide) ⟨.int (lo + i), H, I1, ⟨t, ?_⟩, ⟨rfl, rfl⟩, st', fun b hb => (hf b hb).1⟩⟩
    rw [Int.mul_one]
  done := by
    intro X hP hw hK hc i pins s σ H E I hf st hg
    subst hP hw hK
    obtain ⟨f0, f1, f2, f3, f4, f5⟩ := hf it (by simp)
    exact wpAny_pyNext_range_end (I.ok.hd hc) st (by have : n ≤ i := hg; omega) fun h' eb => ⟨rfl, I.turned (t' := s.toks) (fun b o hb e => eb b o hb e) f0 f1 f3 f4 f5⟩
  self := fun _ _ _ _ _ st h => wpAny_pyIter_rangeiter st h
end L2

namespace L2
open PySem PySem.Spec PyProof.Rows
section
variable {X : Cx} {tg : Expr}
def iList (K : PySem.W.Frag) (tl : TE) : TI := fun σ H R => tl σ H fun x H1 => ∃ a, x = .ref a ∧ (∃ xs, SqL K H1 a xs) ∧ R (Itl K a) H1
def iTup (K : PySem.W.Frag) (tl : TE) : TI := fun σ H R => tl σ H fun x H1 => ∃ a, x = .ref a ∧ (∃ xs, SqT K H1 a xs) ∧ R (Itt K a) H1
theorem pi_list {l : Expr} {tl : TE} (hl : PE X l tl) : PI X tg l (iList X.K tl) := by
  intro pins s σ H R I h
  refine thn (hl pins s σ H _ I h) fun v s1 ⟨x, H1, I1, r1, q1⟩ => ?_
  obtain ⟨a, e, ⟨xs, hq⟩, q⟩ := q1
  subst e
  cases r1
  obtain ⟨its, rv, p, hz⟩ := I1.list hq
  refine wpAny_pyIter_list p.isList ?_
  refine ⟨s1.heap.objs.size, [s1.heap.objs.size], _, _, H1, rfl, I1.kept (t' := s1.toks) fun b o e => Heap.get?_push_of_some _ e, turn_list a _, ⟨_, Heap.get?_push_size _ rfl, rfl, rfl⟩, fun b hb => ?_, q⟩
  have e : b = s1.heap.objs.size := by simpa using hb
  subst e
  exact I1.fpOk (Nat.le_refl _) (I1.hok.fresh (Nat.le_refl _))
theorem pi_tup {l : Expr} {tl : TE} (hl : PE X l tl) : PI X tg l (iTup X.K tl) := by
  intro pins s σ H R I h
  refine thn (hl pins s σ H _ I h) fun v s1 ⟨x, H1, I1, r1, q1⟩ => ?_
  obtain ⟨a, e, ⟨xs, hq⟩, q⟩ := q1
  subst e
  cases r1
  obtain ⟨its, rv, p, hz⟩ := I1.tuple hq
  refine wpAny_pyIter_tuple (show s1.heap.IsTuple a its.toArray from p) ?_
  refine ⟨s1.heap.objs.size, [s1.heap.objs.size], _, _, H1, rfl, I1.kept (t' := s1.toks) fun b o e => Heap.get?_push_of_some _ e, turn_tuple a _, ⟨_, Heap.get?_push_size _ rfl, rfl, rfl⟩, fun b hb => ?_, q⟩
  have e : b = s1.heap.objs.size := by simpa using hb
  subst e
  exact I1.fpOk (Nat.le_refl _) (I1.hok.fresh (Nat.le_refl _))
theorem range_it {pins : List (Addr × Obj)} {σ : St} {H : Hp} {s : Shared} {R : It → Hp → Prop} {E : Value → Shared → Prop} {lo hi : Int} {t u v : Tok} {tk : Nat} (I : Inv X pins σ H s) (h1 : -(2 ^ 62) ≤ lo) (h2 : lo < 2 ^ 62) (h3 : -(2 ^ 62) ≤ hi) (h4 : hi < 2 ^ 62)
    (q : R (Itr lo (hi - lo).toNat) H) : wpAny (model X.prog X.w) X.A (pyIter (.ref s.heap.objs.size)) (PIE X pins σ tg R) E { s with heap := s.heap.push { cls := .type "range", data := .fields #[.int lo t, .int hi u, .int 1 v] }, toks := tk } := by
  refine wpAny_pyIter_range (IsRange.new ..) (small_one h1 h2 h3 h4) ?_
  have I1 : Inv X pins σ H { s with heap := s.heap.push { cls := .type "range", data := .fields #[.int lo t, .int hi u, .int 1 v] }, toks := tk } := I.kept fun b o e => Heap.get?_push_of_some _ e
  refine ⟨(s.heap.push { cls := .type "range", data := .fields #[.int lo t, .int hi u, .int 1 v] }).objs.size, [(s.heap.push { cls := .type "range", data := .fields #[.int lo t, .int hi u, .int 1 v] }).objs.size], _, _, H, rfl,
    I1.kept (t' := tk) fun b o e => Heap.get?_push_of_some _ e, turn_range _ lo (hi - lo).toNat, ?_, fun b hb => ?_, q⟩
  · have e1 : lo + ((0 : Nat) : Int) * 1 = lo := by simp
    have e2 : (((hi - lo).toNat : Nat) : Int) - ((0 : Nat) : Int) = Builtin.Range.rangeSize lo hi 1 := by rw [rangeSize_one]; split <;> omega
    show IsRangeIter _ _ (lo + ((0 : Nat) : Int) * 1) ((((hi - lo).toNat : Nat) : Int) - ((0 : Nat) : Int)) 1
    rw [e1, e2]
    exact Heap.get?_push_size _ rfl
  · have e : b = (s.heap.push { cls := .type "range", data := .fields #[.int lo t, .int hi u, .int 1 v] }).objs.size := by simpa using hb
    subst e
    exact I1.fpOk (Nat.le_refl _) (I1.hok.fresh (Nat.le_refl _))
def iRng1 (ta : TA) : TI := fun σ H R => ta σ H fun vs H1 => ∃ j : Int, vs = [.int j] ∧ -(2 ^ 62) ≤ j ∧ j < 2 ^ 62 ∧ R (Itr 0 j.toNat) H1
def iRng2 (ta : TA) : TI := fun σ H R => ta σ H fun vs H1 => ∃ i j : Int, vs = [.int i, .int j] ∧ (-(2 ^ 62) ≤ i ∧ i < 2 ^ 62 ∧ -(2 ^ 62) ≤ j ∧ j < 2 ^ 62) ∧ R (Itr i (j - i).toNat) H1
theorem pi_range1 {a : Expr} {ta : TA} {p pos : Pos} (hg : Gl X "range") (hm : X.mg "range" = none) (ha : PA X [a] ta) (hs : starEach [a] X.env = [(false, eval a X.env)] := by rfl) : PI X tg (.Call (.Name "range" p) [a] [] pos) (iRng1 ta) := by
  intro pins s σ H R I h
  refine Call_ (ld_blt I hg hm boot_range (PyProof.Rows.callWith_type1 (thn (ha pos pins s σ H _ I h) fun us s1 ⟨vs, H1, I1, r1, q1⟩ => ?_) hs rfl))
  obtain ⟨j, e, q1, q2, q⟩ := q1
  subst e
  cases r1 with
  | cons r rr =>
    cases rr
    obtain ⟨t, rfl⟩ := r
    exact call_range_1 (range_it I1 (by omega) (by omega) q1 q2 (by simpa using q))
theorem pi_range2 {a b : Expr} {ta : TA} {p pos : Pos} (hg : Gl X "range") (hm : X.mg "range" = none) (ha : PA X [a, b] ta) (hs : starEach [a, b] X.env = [(false, eval a X.env), (false, eval b X.env)] := by rfl) (hs2 : starEach [b] X.env = [(false, eval b X.env)] := by rfl) :
    PI X tg (.Call (.Name "range" p) [a, b] [] pos) (iRng2 ta) := by
  intro pins s σ H R I h
  refine Call_ (ld_blt I hg hm boot_range (PyProof.Rows.callWith_type1 (thn (ha pos pins s σ H _ I h) fun us s1 ⟨vs, H1, I1, r1, q1⟩ => ?_) (by rw [hs, hs2]) (by rw [hs2]; rfl)))
  obtain ⟨i, j, e, ⟨q1, q2, q3, q4⟩, q⟩ := q1
  subst e
  cases r1 with
  | cons r rr =>
    cases rr with
    | cons r' rr =>
      cases rr
      obtain ⟨t, rfl⟩ := r
      obtain ⟨t', rfl⟩ := r'
      exact call_range_2 (range_it I1 q1 q2 q3 q4 q)

def tFor (wi : TI) (g : TG) (tb : TS) : TS := fun D σ H => wi σ H fun J H1 => ∃ W : Nat → Nat → St → Hp → Prop, (∃ m, W 0 m σ H1) ∧ ∀ i m σ H, W i m σ H →
  (J.stop i H ∧ D.nx σ H) ∨ (J.go i H ∧ ∃ N : St → Hp → Prop, (∀ σ' H', N σ' H' → ∃ m', m' < m ∧ W (i + 1) m' σ' H') ∧ ∀ x H', J.yld i H x H' → g x σ H' fun σ2 H2 => tb { D with nx := N, ct := N, bk := D.nx } σ2 H2)
def pinsAt (fp : List Addr) (h : Heap) : List (Addr × Obj) := fp.filterMap fun b => (h.get? b).map fun o => (b, o)
theorem mem_pinsAt {fp : List Addr} {h : Heap} {b : Addr} {o : Obj} (hb : b ∈ fp) (e : h.get? b = some o) : (b, o) ∈ pinsAt fp h := List.mem_filterMap.mpr ⟨b, hb, by rw [e]; rfl⟩
theorem of_pinsAt {fp : List Addr} {h : Heap} {p : Addr × Obj} (hp : p ∈ pinsAt fp h) : p.1 ∈ fp ∧ h.get? p.1 = some p.2 := by
  obtain ⟨b, hb, e⟩ := List.mem_filterMap.mp hp
  cases q : h.get? b with
  | none => rw [q] at e; cases e
  | some o =>
    rw [q] at e
    have e' : (b, o) = p := Option.some.inj e
    subst e'
    exact ⟨hb, q⟩
theorem Inv.pinned {pins : List (Addr × Obj)} {σ : St} {H : Hp} {s : Shared} {fp : List Addr} (I : Inv X pins σ H s) (hf : ∀ b ∈ fp, FpOk X pins H b) (ho : ∀ b ∈ fp, ∃ o, s.heap.get? b = some o ∧ ∀ v, o.data ≠ .cell v) : Inv X (pins ++ pinsAt fp s.heap) σ H s :=
  I.pins_of fun p hp => (List.mem_append.mp hp).elim (fun z => I.pin p (List.mem_append_right _ z)) fun z => by
    obtain ⟨hb, e⟩ := of_pinsAt z
    obtain ⟨f0, f1, f2, _⟩ := hf p.1 hb
    obtain ⟨o, e', d⟩ := ho p.1 hb
    rw [e] at e'; cases e'
    exact ⟨e, f0, f1, f2, d⟩
theorem Inv.unpinned {pins pl : List (Addr × Obj)} {σ : St} {H : Hp} {s : Shared} (I : Inv X (pins ++ pl) σ H s) : Inv X pins σ H s := I.pins_of fun p hp => I.pin p (List.mem_append_right _ (List.mem_append_left _ hp))
theorem ps_for {iter : Expr} {body : List Stmt} {wi : TI} {g : TG} {tb : TS} {pos : Pos} (hp : PassesOwn (model X.prog X.w) X.A X.env X.xe) (hc : X.calm = true) (hi : PI X tg iter wi) (hg : PG X tg g) (hb : PSs X body tb)
    (hs : ∀ x, foldedSetIterable iter X.env x = pure x := by intro _; rfl) : PS X (.For tg iter body [] pos) (tFor wi g tb) := by
  intro pins s σ H D I h
  refine wpAny_For (thn (hi pins s σ H _ I h) fun v s1 h1 => thn h1 fun itv s2 h2 => ?_) hs
  obtain ⟨it, fp, tn, J, H2, e, I2, T, st2, f2, W, ⟨m0, w0⟩, turn⟩ := h2
  subst e
  -- what stays true of the iterator's objects through the loop
  have stat : ∀ {H' : Hp}, (∀ b ∈ fp, H' b = none) → ∀ b ∈ fp, FpOk X pins H' b := fun hn b hb => ⟨hn b hb, (f2 b hb).2⟩
  refine codeAny_forLoop_any (fun n s' => ∃ i σ' H', Inv X pins σ' H' s' ∧ tn i s'.heap ∧ (∀ b ∈ fp, H' b = none) ∧ W i n σ' H') ?_ m0 ⟨0, σ, H2, I2, st2, fun b hb => (f2 b hb).1, w0⟩
  rintro n s3 ⟨i, σ3, H3, I3, st3, fr3, w3⟩
  rcases turn i n σ3 H3 w3 with ⟨stop, qn⟩ | ⟨go, N, hN, step⟩
  · refine wpAny_passesOwn hp (thn (T.done X rfl rfl rfl hc i pins s3 σ3 H3 X.xe I3 (stat fr3) st3 stop) fun r s4 ⟨hr, I4⟩ => ?_)
    subst hr
    exact wpAny_execs_nil ⟨σ3, H3, I4, qn⟩
  · refine wpAny_passesOwn hp (thn (T.item X rfl rfl rfl hc i pins s3 σ3 H3 X.xe I3 (stat fr3) st3 go) fun r s4 ⟨u, hr, h4⟩ => ?_)
    subst hr
    refine wpAny_passesOwn hp (thn h4 fun _ s5 ⟨x, H5, I5, r5, y5, st5, fr5⟩ => ?_)
    have I5' := I5.pinned (stat fr5) (T.obj _ _ st5)
    refine wpAny_passesOwn hp (thn (hg _ s5 σ3 H5 x u _ I5' r5 (step x H5 y5)) fun _ s6 ⟨σ6, H6, I6, q6⟩ => ?_)
    refine wpAny_passesOwn hp (thn (hb _ s6 σ6 H6 _ I6 q6) fun f s7 q7 => ?_)
    have again : ∀ {σ7 : St} {H7 : Hp}, Inv X (pins ++ pinsAt fp s5.heap) σ7 H7 s7 → N σ7 H7 → ∃ m, m < n ∧ ∃ i σ' H', Inv X pins σ' H' s7 ∧ tn i s7.heap ∧ (∀ b ∈ fp, H' b = none) ∧ W i m σ' H' := fun {σ7 H7} I7 n7 => by
      obtain ⟨m', hm, w7⟩ := hN σ7 H7 n7
      refine ⟨m', hm, i + 1, σ7, H7, I7.unpinned, T.keep _ _ _ st5 fun b hb o e => (I7.pin (b, o) (List.mem_append_right _ (List.mem_append_right _ (mem_pinsAt hb e)))).1, fun b hb => ?_, w7⟩
      obtain ⟨o, e, d⟩ := T.obj _ _ st5 b hb
      exact (I7.pin (b, o) (List.mem_append_right _ (List.mem_append_right _ (mem_pinsAt hb e)))).2.1
    cases f with
    | next => obtain ⟨σ7, H7, I7, n7⟩ := q7; exact again I7 n7
    | cont => obtain ⟨σ7, H7, I7, n7⟩ := q7; exact again I7 n7
    | brk => obtain ⟨σ7, H7, I7, q7⟩ := q7; exact ⟨σ7, H7, I7.unpinned, q7⟩
    | ret v => obtain ⟨x7, σ7, H7, I7, r7, q7⟩ := q7; exact ⟨x7, σ7, H7, I7.unpinned, r7, q7⟩
end

theorem for_list {K : PySem.W.Frag} {a : Addr} {xs : List V} {g : TG} {tb : TS} {D : Ends} {σ : St} {H : Hp} (Pv : Nat → St → Hp → Prop) (h0 : Pv 0 σ H) (hl : ∀ i σ H, i ≤ xs.length → Pv i σ H → SqL K H a xs)
    (hs : ∀ i x σ H, xs[i]? = some x → Pv i σ H → g x σ H fun σ2 H2 => tb { D with nx := Pv (i + 1), ct := Pv (i + 1), bk := D.nx } σ2 H2) (hd : ∀ σ H, Pv xs.length σ H → D.nx σ H) :
    ∃ W : Nat → Nat → St → Hp → Prop, (∃ m, W 0 m σ H) ∧ ∀ i m σ H, W i m σ H →
      ((Itl K a).stop i H ∧ D.nx σ H) ∨ ((Itl K a).go i H ∧ ∃ N : St → Hp → Prop, (∀ σ' H', N σ' H' → ∃ m', m' < m ∧ W (i + 1) m' σ' H') ∧ ∀ x H', (Itl K a).yld i H x H' → g x σ H' fun σ2 H2 => tb { D with nx := N, ct := N, bk := D.nx } σ2 H2) := by
  refine ⟨fun i m σ H => m = xs.length - i ∧ i ≤ xs.length ∧ Pv i σ H, ⟨xs.length, by simp, Nat.zero_le _, h0⟩, ?_⟩
  rintro i m σ H ⟨rfl, hi, p⟩
  have q := hl i σ H hi p
  by_cases hlt : i < xs.length
  · refine .inr ⟨⟨xs, xs[i], q, by simp [hlt]⟩, Pv (i + 1), fun σ' H' p' => ⟨xs.length - (i + 1), by omega, rfl, hlt, p'⟩, fun x H' y => ?_⟩
    obtain ⟨e, y⟩ := y
    subst e
    exact hs i x σ _ (y xs q) p
  · have e : i = xs.length := by omega
    subst e
    exact .inl ⟨⟨xs, q, Nat.le_refl _⟩, hd σ H p⟩
theorem for_tup {K : PySem.W.Frag} {a : Addr} {xs : List V} {g : TG} {tb : TS} {D : Ends} {σ : St} {H : Hp} (Pv : Nat → St → Hp → Prop) (h0 : Pv 0 σ H) (hl : ∀ i σ H, i ≤ xs.length → Pv i σ H → SqT K H a xs)
    (hs : ∀ i x σ H, xs[i]? = some x → Pv i σ H → g x σ H fun σ2 H2 => tb { D with nx := Pv (i + 1), ct := Pv (i + 1), bk := D.nx } σ2 H2) (hd : ∀ σ H, Pv xs.length σ H → D.nx σ H) :
    ∃ W : Nat → Nat → St → Hp → Prop, (∃ m, W 0 m σ H) ∧ ∀ i m σ H, W i m σ H →
      ((Itt K a).stop i H ∧ D.nx σ H) ∨ ((Itt K a).go i H ∧ ∃ N : St → Hp → Prop, (∀ σ' H', N σ' H' → ∃ m', m' < m ∧ W (i + 1) m' σ' H') ∧ ∀ x H', (Itt K a).yld i H x H' → g x σ H' fun σ2 H2 => tb { D with nx := N, ct := N, bk := D.nx } σ2 H2) := by
  refine ⟨fun i m σ H => m = xs.length - i ∧ i ≤ xs.length ∧ Pv i σ H, ⟨xs.length, by simp, Nat.zero_le _, h0⟩, ?_⟩
  rintro i m σ H ⟨rfl, hi, p⟩
  have q := hl i σ H hi p
  by_cases hlt : i < xs.length
  · refine .inr ⟨⟨xs, xs[i], q, by simp [hlt]⟩, Pv (i + 1), fun σ' H' p' => ⟨xs.length - (i + 1), by omega, rfl, hlt, p'⟩, fun x H' y => ?_⟩
    obtain ⟨e, y⟩ := y
    subst e
    exact hs i x σ _ (y xs q) p
  · have e : i = xs.length := by omega
    subst e
    exact .inl ⟨⟨xs, q, Nat.le_refl _⟩, hd σ H p⟩
theorem for_range {lo : Int} {n : Nat} {g : TG} {tb : TS} {D : Ends} {σ : St} {H : Hp} (Pv : Nat → St → Hp → Prop) (h0 : Pv 0 σ H)
    (hs : ∀ i σ H, i < n → Pv i σ H → g (.int (lo + i)) σ H fun σ2 H2 => tb { D with nx := Pv (i + 1), ct := Pv (i + 1), bk := D.nx } σ2 H2) (hd : ∀ σ H, Pv n σ H → D.nx σ H) :
    ∃ W : Nat → Nat → St → Hp → Prop, (∃ m, W 0 m σ H) ∧ ∀ i m σ H, W i m σ H →
      ((Itr lo n).stop i H ∧ D.nx σ H) ∨ ((Itr lo n).go i H ∧ ∃ N : St → Hp → Prop, (∀ σ' H', N σ' H' → ∃ m', m' < m ∧ W (i + 1) m' σ' H') ∧ ∀ x H', (Itr lo n).yld i H x H' → g x σ H' fun σ2 H2 => tb { D with nx := N, ct := N, bk := D.nx } σ2 H2) := by
  refine ⟨fun i m σ H => m = n - i ∧ i ≤ n ∧ Pv i σ H, ⟨n, by simp, Nat.zero_le _, h0⟩, ?_⟩
  rintro i m σ H ⟨rfl, hi, p⟩
  by_cases hlt : i < n
  · refine .inr ⟨hlt, Pv (i + 1), fun σ' H' p' => ⟨n - (i + 1), by omega, rfl, hlt, p'⟩, fun x H' y => ?_⟩
    obtain ⟨e, y⟩ := y
    subst e y
    exact hs i σ _ hlt p
  · have e : i = n := by omega
    subst e
    exact .inl ⟨Nat.le_refl _, hd σ H p⟩
theorem while_by {c : TT} {tb : TS} {D : Ends} {σ : St} {H : Hp} (Pv : St → Hp → Prop) (μ : St → Hp → Nat) (h0 : Pv σ H)
    (hs : ∀ σ H, Pv σ H → c σ H fun b H1 => if b = true then tb { D with nx := fun σ' H' => Pv σ' H' ∧ μ σ' H' < μ σ H, ct := fun σ' H' => Pv σ' H' ∧ μ σ' H' < μ σ H, bk := D.nx } σ H1 else D.nx σ H1)
    (mono : ∀ σ H Q Q', (∀ b H1, Q b H1 → Q' b H1) → c σ H Q → c σ H Q') : tWhile c tb D σ H := by
  refine ⟨fun m σ H => m = μ σ H ∧ Pv σ H, ⟨_, rfl, h0⟩, ?_⟩
  rintro m σ H ⟨rfl, p⟩
  refine mono σ H _ _ (fun b H1 q => ?_) (hs σ H p)
  cases b with
  | true => exact ⟨_, fun σ' H' ⟨p', l⟩ => ⟨_, l, rfl, p'⟩, q⟩
  | false => exact q
end L2

namespace L2
open PySem PySem.Spec PyProof.Rows

abbrev R2 := V → V → Hp → VK → Prop
def OpR (X : Cx) (f : Value → Value → Sem Value) (r : R2) : Prop :=
  ∀ (pins : List (Addr × Obj)) (s : Shared) (σ : St) (H : Hp) (x y : V) (v u : Value) (Q : VK), Inv X pins σ H s → RelV x v → RelV y u → r x y H Q →
    wpAny (model X.prog X.w) X.A (f v u) (EP X pins σ Q) X.xe s
def UnR (X : Cx) (f : Value → Sem Value) (r : V → Hp → VK → Prop) : Prop :=
  ∀ (pins : List (Addr × Obj)) (s : Shared) (σ : St) (H : Hp) (x : V) (v : Value) (Q : VK), Inv X pins σ H s → RelV x v → r x H Q →
    wpAny (model X.prog X.w) X.A (f v) (EP X pins σ Q) X.xe s
def CallR (X : Cx) (f : Value) (r : List V → Hp → VK → Prop) : Prop :=
  ∀ (pins : List (Addr × Obj)) (s : Shared) (σ : St) (H : Hp) (xs : List V) (us : List Value) (Q : VK), Inv X pins σ H s → Vals xs us → r xs H Q →
    wpAny (model X.prog X.w) X.A (call f us) (EP X pins σ Q) X.xe s
def tOp (r : R2) (ta tb : TE) : TE := fun σ H Q => ta σ H fun x H1 => tb σ H1 fun y H2 => r x y H2 Q
def tUn (r : V → Hp → VK → Prop) (ta : TE) : TE := fun σ H Q => ta σ H fun x H1 => r x H1 Q
def rI (C : Int → Int → Prop) (g : Int → Int → V) : R2 := fun x y H Q => ∃ i j, x = .int i ∧ y = .int j ∧ C i j ∧ Q (g i j) H
def rI0 (g : Int → Int → V) : R2 := fun x y H Q => ∃ i j, x = .int i ∧ y = .int j ∧ Q (g i j) H
def rU (g : Int → V) : V → Hp → VK → Prop := fun x H Q => ∃ i, x = .int i ∧ Q (g i) H

section
variable {X : Cx} {a b c : Expr} {ta tb tc : TE} {pos : Pos}

theorem binT (ha : PE X a ta) (hb : PE X b tb) {pins : List (Addr × Obj)} {s : Shared} {σ : St} {H : Hp} {R : V → V → Hp → Prop} (I : Inv X pins σ H s)
    (h : ta σ H fun x H1 => tb σ H1 fun y H2 => R x y H2) {Q : Value → Shared → Prop} {f : Value → Value → Sem Value}
    (hf : ∀ v u s2 x y H2, Inv X pins σ H2 s2 → RelV x v → RelV y u → R x y H2 → wpAny (model X.prog X.w) X.A (f v u) Q X.xe s2) :
    wpAny (model X.prog X.w) X.A (eval a X.env) (fun v s₁ => wpAny (model X.prog X.w) X.A (eval b X.env) (fun u s₂ => wpAny (model X.prog X.w) X.A (f v u) Q X.xe s₂) X.xe s₁) X.xe s := by
  refine thn (ha pins s σ H _ I h) fun v s1 ⟨x, H1, I1, r1, q1⟩ => ?_
  refine thn (hb pins s1 σ H1 _ I1 q1) fun u s2 ⟨y, H2, I2, r2, q2⟩ => ?_
  exact hf v u s2 x y H2 I2 r1 r2 q2

theorem pe_op {op : Operator} {r : R2} (ho : OpR X (binaryOp op) r) (ha : PE X a ta) (hb : PE X b tb) : PE X (.BinOp a op b pos) (tOp r ta tb) := by
  intro pins s σ H Q I h
  exact wpAny_BinOp (binT ha hb I h fun v u s2 x y H2 I2 rx ry q => ho pins s2 σ H2 x y v u Q I2 rx ry q)
theorem pe_un {op : UnaryOp} {r : V → Hp → VK → Prop} (ho : UnR X (unaryOp op) r) (ha : PE X a ta) : PE X (.UnaryOp op a pos) (tUn r ta) := by
  intro pins s σ H Q I h
  exact UnaryOp_ (thn (ha pins s σ H _ I h) fun v s1 ⟨x, H1, I1, r1, q1⟩ => ho pins s1 σ H1 x v Q I1 r1 q1)
theorem opI {f : Value → Value → Sem Value} {C : Int → Int → Prop} {g : Int → Int → Int}
    (rule : ∀ (i j : Int) (t u : Tok) (s : Shared) (Q : Value → Shared → Prop) (E : Value → Shared → Prop), C i j → Q (.int (g i j) s.toks) { s with toks := s.toks + 1 } → wpAny (model X.prog X.w) X.A (f (.int i t) (.int j u)) Q E s) :
    OpR X f (rI C fun i j => .int (g i j)) := by
  intro pins s σ H x y v u Q I rx ry h
  obtain ⟨i, j, rfl, rfl, hc, q⟩ := h
  obtain ⟨t, rfl⟩ := rx
  obtain ⟨t', rfl⟩ := ry
  exact rule i j t t' s _ _ hc ⟨.int (g i j), H, I.tok _, ⟨_, rfl⟩, q⟩
theorem opI0 {f : Value → Value → Sem Value} {g : Int → Int → Int}
    (rule : ∀ (i j : Int) (t u : Tok) (s : Shared) (Q : Value → Shared → Prop) (E : Value → Shared → Prop), Q (.int (g i j) s.toks) { s with toks := s.toks + 1 } → wpAny (model X.prog X.w) X.A (f (.int i t) (.int j u)) Q E s) :
    OpR X f (rI0 fun i j => .int (g i j)) := by
  intro pins s σ H x y v u Q I rx ry h
  obtain ⟨i, j, rfl, rfl, q⟩ := h
  obtain ⟨t, rfl⟩ := rx
  obtain ⟨t', rfl⟩ := ry
  exact rule i j t t' s _ _ ⟨.int (g i j), H, I.tok _, ⟨_, rfl⟩, q⟩
theorem opB0 {f : Value → Value → Sem Value} {g : Int → Int → Bool}
    (rule : ∀ (i j : Int) (t u : Tok) (s : Shared) (Q : Value → Shared → Prop) (E : Value → Shared → Prop), Q (.bool (g i j)) s → wpAny (model X.prog X.w) X.A (f (.int i t) (.int j u)) Q E s) :
    OpR X f (rI0 fun i j => .bl (g i j)) := by
  intro pins s σ H x y v u Q I rx ry h
  obtain ⟨i, j, rfl, rfl, q⟩ := h
  obtain ⟨t, rfl⟩ := rx
  obtain ⟨t', rfl⟩ := ry
  exact rule i j t t' s _ _ ⟨.bl (g i j), H, I, rfl, q⟩

def CDiv (i j : Int) : Prop := 0 < j ∧ j < 1073741824
def CMul (i j : Int) : Prop := (-(2 ^ 64) < i ∧ i < 2 ^ 64) ∨ (-(2 ^ 64) < j ∧ j < 2 ^ 64)
theorem CMul.ok {i j : Int} (h : CMul i j) : IntMulOk i j := by
  rcases h with ⟨h1, h2⟩ | ⟨h1, h2⟩
  · exact .of_left (intBits_le_64 h1 h2)
  · exact .of_right (intBits_le_64 h1 h2)
theorem op_add : OpR X (binaryOp .Add) (rI0 fun i j => .int (i + j)) := opI0 fun _ _ _ _ _ _ _ q => add_int q
theorem op_sub : OpR X (binaryOp .Sub) (rI0 fun i j => .int (i - j)) := opI0 fun _ _ _ _ _ _ _ q => sub_int q
theorem op_mul : OpR X (binaryOp .Mult) (rI CMul fun i j => .int (i * j)) := opI fun _ _ _ _ _ _ _ hc q => mul_int q hc.ok
theorem op_fdiv : OpR X (binaryOp .FloorDiv) (rI CDiv fun i j => .int (i / j)) := opI fun i j _ _ _ _ _ hc q => by
  have h1 : (0 : Int) < j := hc.1
  have h2 : j < 1073741824 := hc.2
  exact floordiv_int (by omega) (by rw [Int.fdiv_eq_ediv_of_nonneg i (by omega)]; exact q) (.inl (PyProof.noPylong_small (by omega)))
theorem op_mod : OpR X (binaryOp .Mod) (rI (fun _ j => 0 < j) fun i j => .int (i % j)) := opI fun i j _ _ _ _ _ hc q => by
  have h1 : (0 : Int) < j := hc
  exact mod_int' (by omega) (by rw [Int.fmod_eq_emod_of_nonneg i (by omega)]; exact q)
theorem op_modN : OpR X (binaryOp .Mod) (rI (fun _ j => j ≠ 0) fun i j => .int (i.fmod j)) := opI fun _ _ _ _ _ _ _ hc q => mod_int' hc q
theorem unI {f : Value → Sem Value} {g : Int → Int}
    (rule : ∀ (i : Int) (t : Tok) (s : Shared) (Q : Value → Shared → Prop) (E : Value → Shared → Prop), Q (.int (g i) s.toks) { s with toks := s.toks + 1 } → wpAny (model X.prog X.w) X.A (f (.int i t)) Q E s) :
    UnR X f (rU fun i => .int (g i)) := by
  intro pins s σ H x v Q I rx h
  obtain ⟨i, rfl, q⟩ := h
  obtain ⟨t, rfl⟩ := rx
  exact rule i t s _ _ ⟨.int (g i), H, I.tok _, ⟨_, rfl⟩, q⟩
theorem un_neg : UnR X (unaryOp .USub) (rU fun i => .int (-i)) := unI fun _ _ _ _ _ q => neg_int q
end

def scal : V → V → Bool
  | .non, .non => true | .non, .int _ => true | .int _, .non => true | .non, .bl _ => true | .bl _, .non => true | .non, .str _ => true | .str _, .non => true
  | .int _, .int _ => true | .bl _, .bl _ => true | .str _, .str _ => true | .byt _, .byt _ => true
  | .int _, .str _ => true | .str _, .int _ => true | .bl _, .str _ => true | .str _, .bl _ => true
  | _, _ => false
def rEq : R2 := fun x y H Q => scal x y = true ∧ Q (.bl (decide (x = y))) H
def rNe : R2 := fun x y H Q => scal x y = true ∧ Q (.bl (!decide (x = y))) H

theorem dec_int {i j : Int} : decide (V.int i = V.int j) = (i == j) := by
  rw [Bool.eq_iff_iff]
  simp
theorem dec_bl {i j : Bool} : decide (V.bl i = V.bl j) = (i == j) := by
  rw [Bool.eq_iff_iff]
  simp
theorem dec_str {i j : Str} : decide (V.str i = V.str j) = (i == j) := by
  rw [Bool.eq_iff_iff]
  simp
theorem dec_byt {i j : Array UInt8} : decide (V.byt i = V.byt j) = (i.toList == j.toList) := by
  rw [Bool.eq_iff_iff]
  cases i
  cases j
  simp

section
variable {X : Cx} {a b c : Expr} {ta tb tc : TE} {pos : Pos}
theorem fin_bl {pins : List (Addr × Obj)} {σ : St} {H : Hp} {s : Shared} {Q : VK} {k k' : Bool} (I : Inv X pins σ H s) (q : Q (.bl k) H) (e : k = k') : EP X pins σ Q (.bool k') s := by
  subst e
  exact ⟨.bl k, H, I, rfl, q⟩
theorem op_eq : OpR X (compareOp .Eq) rEq := by
  intro pins s σ H x y v u Q I rx ry h
  obtain ⟨hs, q⟩ := h
  cases x with
  | non =>
    cases rx
    cases y with
    | non => cases ry; exact PySem.EqNone.eq_none_none (fin_bl I q (by simp))
    | bl j => cases ry; exact PySem.EqNone.eq_none_bool (fin_bl I q (by simp))
    | int j => obtain ⟨t', rfl⟩ := ry; exact PySem.EqNone.eq_none_int (fin_bl I q (by simp))
    | str j => obtain ⟨t', rfl⟩ := ry; exact PySem.EqNone.eq_none_str (fin_bl I q (by simp))
    | _ => exact absurd (show false = true from hs) Bool.false_ne_true
  | bl i =>
    cases rx
    cases y with
    | non => cases ry; exact PySem.EqNone.eq_bool_none (fin_bl I q (by simp))
    | bl j => cases ry; exact eq_bool (fin_bl I q dec_bl)
    | str j => obtain ⟨t', rfl⟩ := ry; exact PySem.EqMixed.eq_bool_str (fin_bl I q (by simp))
    | _ => exact absurd (show false = true from hs) Bool.false_ne_true
  | int i =>
    obtain ⟨t, rfl⟩ := rx
    cases y with
    | non => cases ry; exact PySem.EqNone.eq_int_none (fin_bl I q (by simp))
    | int j => obtain ⟨t', rfl⟩ := ry; exact eq_int (fin_bl I q dec_int)
    | str j => obtain ⟨t', rfl⟩ := ry; exact PySem.EqMixed.eq_int_str (fin_bl I q (by simp))
    | _ => exact absurd (show false = true from hs) Bool.false_ne_true
  | str i =>
    obtain ⟨t, rfl⟩ := rx
    cases y with
    | non => cases ry; exact PySem.EqNone.eq_str_none (fin_bl I q (by simp))
    | bl j => cases ry; exact PySem.EqMixed.eq_str_bool (fin_bl I q (by simp))
    | int j => obtain ⟨t', rfl⟩ := ry; exact PySem.EqMixed.eq_str_int (fin_bl I q (by simp))
    | str j => obtain ⟨t', rfl⟩ := ry; exact eq_str (fin_bl I q dec_str)
    | _ => exact absurd (show false = true from hs) Bool.false_ne_true
  | byt i =>
    obtain ⟨t, rfl⟩ := rx
    cases y with
    | byt j => obtain ⟨t', rfl⟩ := ry; exact PySem.W.eq_bytes (fin_bl I q dec_byt)
    | _ => exact absurd (show false = true from hs) Bool.false_ne_true
  | _ => cases y <;> exact absurd (show false = true from hs) Bool.false_ne_true
theorem op_ne : OpR X (compareOp .NotEq) rNe := by
  intro pins s σ H x y v u Q I rx ry h
  obtain ⟨hs, q⟩ := h
  cases x with
  | non =>
    cases rx
    cases y with
    | non => cases ry; exact PySem.EqNone.ne_none_none (fin_bl I q (by simp))
    | bl j => cases ry; exact PySem.EqNone.ne_none_bool (fin_bl I q (by simp))
    | int j => obtain ⟨t', rfl⟩ := ry; exact PySem.EqNone.ne_none_int (fin_bl I q (by simp))
    | str j => obtain ⟨t', rfl⟩ := ry; exact PySem.EqNone.ne_none_str (fin_bl I q (by simp))
    | _ => exact absurd (show false = true from hs) Bool.false_ne_true
  | bl i =>
    cases rx
    cases y with
    | non => cases ry; exact PySem.EqNone.ne_bool_none (fin_bl I q (by simp))
    | bl j => cases ry; exact ne_bool (fin_bl I q (congrArg not dec_bl))
    | str j => obtain ⟨t', rfl⟩ := ry; exact PySem.EqMixed.ne_bool_str (fin_bl I q (by simp))
    | _ => exact absurd (show false = true from hs) Bool.false_ne_true
  | int i =>
    obtain ⟨t, rfl⟩ := rx
    cases y with
    | non => cases ry; exact PySem.EqNone.ne_int_none (fin_bl I q (by simp))
    | int j => obtain ⟨t', rfl⟩ := ry; exact ne_int (fin_bl I q (congrArg not dec_int))
    | str j => obtain ⟨t', rfl⟩ := ry; exact PySem.EqMixed.ne_int_str (fin_bl I q (by simp))
    | _ => exact absurd (show false = true from hs) Bool.false_ne_true
  | str i =>
    obtain ⟨t, rfl⟩ := rx
    cases y with
    | non => cases ry; exact PySem.EqNone.ne_str_none (fin_bl I q (by simp))
    | bl j => cases ry; exact PySem.EqMixed.ne_str_bool (fin_bl I q (by simp))
    | int j => obtain ⟨t', rfl⟩ := ry; exact PySem.EqMixed.ne_str_int (fin_bl I q (by simp))
    | str j => obtain ⟨t', rfl⟩ := ry; exact ne_str (fin_bl I q (congrArg not dec_str))
    | _ => exact absurd (show false = true from hs) Bool.false_ne_true
  | byt i =>
    obtain ⟨t, rfl⟩ := rx
    cases y with
    | byt j => obtain ⟨t', rfl⟩ := ry; exact PySem.W.ne_bytes (fin_bl I q (congrArg not dec_byt))
    | _ => exact absurd (show false = true from hs) Bool.false_ne_true
  | _ => cases y <;> exact absurd (show false = true from hs) Bool.false_ne_true

theorem op_lt : OpR X (compareOp .Lt) (rI0 fun i j => .bl (decide (i < j))) := opB0 fun _ _ _ _ _ _ _ q => lt_int q
theorem op_gt : OpR X (compareOp .Gt) (rI0 fun i j => .bl (decide (j < i))) := opB0 fun _ _ _ _ _ _ _ q => gt_int q
theorem nomark (b : Expr) {op : CmpOp} (h : op ≠ .In := by decide) (h2 : op ≠ .NotIn := by decide) : behindInMarks op b = false := by
  have e1 : (op == CmpOp.In) = false := by cases op <;> first | rfl | exact absurd rfl h
  have e2 : (op == CmpOp.NotIn) = false := by cases op <;> first | rfl | exact absurd rfl h2
  cases b <;> simp [behindInMarks, e1, e2]
theorem pe_cmpR {op : CmpOp} {r : R2} (ho : OpR X (compareOp op) r) (ha : PE X a ta) (hb : PE X b tb) (hm : behindInMarks op b = false) : PE X (.Compare a [op] [b] pos) (tOp r ta tb) := by
  intro pins s σ H Q I h
  exact wpAny_Compare1 (binT ha hb I h fun v u s2 x y H2 I2 rx ry q => ho pins s2 σ H2 x y v u Q I2 rx ry q) hm
def tTest (t : TE) : TT := fun σ H Q => t σ H fun x H' => ∃ k, x = .bl k ∧ Q k H'
theorem pt_cmpR {op : CmpOp} {r : R2} (ho : OpR X (compareOp op) r) (ha : PE X a ta) (hb : PE X b tb) (hm : behindInMarks op b = false) : PT X (.Compare a [op] [b] pos) (tTest (tOp r ta tb)) := by
  intro pins s σ H Q I h
  refine wpAny_isTrue_Compare1 (thn (ha pins s σ H _ I h) fun v s1 ⟨x, H1, I1, r1, q1⟩ => thn (hb pins s1 σ H1 _ I1 q1) fun u s2 ⟨y, H2, I2, r2, q2⟩ =>
    thn (ho pins s2 σ H2 x y v u _ I2 r1 r2 q2) fun c s3 ⟨z, H3, I3, r3, k, e, q3⟩ => ?_) hm
  subst e
  cases r3
  exact wpAny_truthy_bool ⟨H3, I3, q3⟩
theorem line63 : (sizeLine : Nat) < 2 ^ 63 := by rw [sizeLine_eq]; decide
theorem vals1 {x : V} {us : List Value} (r : Vals [x] us) : ∃ u, us = [u] ∧ RelV x u := by
  cases r with
  | cons r1 r2 => cases r2; exact ⟨_, rfl, r1⟩
theorem vals2 {x y : V} {us : List Value} (r : Vals [x, y] us) : ∃ u w', us = [u, w'] ∧ RelV x u ∧ RelV y w' := by
  cases r with
  | cons r1 r2 =>
    cases r2 with
    | cons r3 r4 => cases r4; exact ⟨_, _, rfl, r1, r3⟩
theorem call_abs : CallR X (.builtin "abs") (fun xs H Q => ∃ i, xs = [.int i] ∧ Q (.int (if i < 0 then -i else i)) H) := by
  intro pins s σ H xs us Q I r h
  obtain ⟨i, rfl, q⟩ := h
  obtain ⟨u, rfl, t, rfl⟩ := vals1 r
  exact call_abs_int fun u tk => ⟨.int (if i < 0 then -i else i), H, I.tok _, ⟨_, rfl⟩, q⟩
theorem call_int1 : CallR X (.type "int") (fun xs H Q => (∃ i, xs = [.int i] ∧ Q (.int i) H) ∨ ∃ k, xs = [.bl k] ∧ Q (.int (if k then 1 else 0)) H) := by
  intro pins s σ H xs us Q I r h
  rcases h with ⟨i, rfl, q⟩ | ⟨k, rfl, q⟩
  · obtain ⟨u, rfl, t, rfl⟩ := vals1 r
    exact call_int_int ⟨.int i, H, I, ⟨_, rfl⟩, q⟩
  · obtain ⟨u, rfl, r1⟩ := vals1 r
    cases r1
    exact call_int_bool ⟨.int (if k then 1 else 0), H, I.tok _, ⟨_, rfl⟩, q⟩
end
end L2

namespace L2
open PySem PySem.Spec PyProof.Rows

structure ObjM (h : Heap) (x dx C : Addr) (mA : Str → Option Value) : Prop where
  obj : h.get? x = some (PySem.W.instObj C dx)
  ns : h.Ns1 dx mA
  ne : dx ≠ x

theorem lookIn_ns {h : Heap} {dx : Addr} {mA : Str → Option Value} (n : h.Ns1 dx mA) : ∃ od, h.get? dx = some od ∧ ∀ name, PySem.W.lookIn name od = some (mA name) := by
  obtain ⟨o, es, ep, ho, hd, hk, _, hm⟩ := n
  refine ⟨o, ho, fun name => ?_⟩
  have e := hm name
  unfold nsFind findBy at e
  rw [← Array.find?_toList] at e
  unfold PySem.W.lookIn
  rw [hd]
  dsimp only
  split
  · rename_i y q
    rw [q] at e
    exact congrArg some e
  · rename_i q
    rw [q] at e
    have a : es.toList.any (·.refKey) = false := by
      rw [List.any_eq_false]
      intro y hy
      obtain ⟨z, t, hkey⟩ := hk y (Array.mem_toList_iff.mp hy)
      simp [DictEntry.refKey, hkey]
    have a' : ¬ es.toList.any (·.refKey) = true := by rw [a]; exact Bool.false_ne_true
    rw [if_neg a']
    exact congrArg some e

theorem ObjM.look {h : Heap} {x dx C : Addr} {mA : Str → Option Value} (I : ObjM h x dx C mA) : ∃ od, PySem.W.InstAt h x (PySem.W.instObj C dx) C (some od) ∧ ∀ name, PySem.W.lookIn name od = some (mA name) :=
  let ⟨od, ho, hl⟩ := lookIn_ns I.ns
  ⟨od, ⟨I.obj, rfl, rfl, ho⟩, hl⟩

section
variable {prog : Program} {w : World} {A : Around} {E : Value → Shared → Prop} {s : Shared} {K : PySem.W.Frag} {x dx C f : Addr} {mA : Str → Option Value} {name : Str} {v : Value}

theorem get_map {expr : Bool} {Q : Value → Shared → Prop} (X : K.In s.heap) (I : ObjM s.heap x dx C mA) (hg : PySem.W.plainGet K C name = true) (hh : PySem.W.hasDictIn K C = true)
    (ha : PySem.W.findIn K (.ref C) name = some none) (hv : mA name = some v) (hv' : PySem.W.handedIn v = true) (h : Q v { s with toks := s.toks + 1 }) :
    wpAny (model prog w) A (getAttr (.ref x) name expr) Q E s := by
  obtain ⟨od, J, hl⟩ := I.look
  exact PySem.W.get_value X J (PySem.W.plainGet_of hg).1 (PySem.W.findObj_own hh ha rfl (by rw [hl, hv])) hv' h

theorem get_meth {pl : Sem Bool} {Q : Value × List Value → Shared → Prop} (X : K.In s.heap) (I : ObjM s.heap x dx C mA) (hg : PySem.W.plainGet K C name = true)
    (hf : PySem.W.findIn K (.ref C) name = some (some (.ref f))) (ht : PySem.W.isFn K (.ref f) = true) (hv : mA name = none) (h : Q (.ref f, [.ref x]) s) :
    wpAny (model prog w) A (getMethod (.ref x) name pl) Q E s := by
  obtain ⟨od, J, hl⟩ := I.look
  exact PySem.W.method_fn X J (PySem.W.plainGet_of hg).1 (PySem.W.plainGet_of hg).2 hf (beq_iff_eq.mp ht) (by show (PySem.W.lookIn name od).map (·.isSome) = some false; rw [hl, hv]; rfl) h

theorem set_map {ns : List Str} {Q : Unit → Shared → Prop} (X : K.In s.heap) (I : ObjM s.heap x dx C mA)
    (hs : PySem.W.findIn K (.ref C) "__setattr__" = some (some (.builtin "object.__setattr__"))) (hp : PySem.W.plainOver K C = true) (ht : PySem.W.takerIn K C name = some none) (hh : PySem.W.hasDictIn K C = true)
    (hw : PySem.Within mA ns) (hsz : ns.length ≤ sizeLine)
    (h : ∀ h', ObjM h' x dx C (fun y => if y = name then some v else mA y) → Heap.SameBut dx s.heap h' → Q () { s with heap := h', toks := s.toks + 2 }) :
    wpAny (model prog w) A (setAttr (.ref x) name v) Q E s := by
  obtain ⟨od, J, hl⟩ := I.look
  refine PySem.W.set_plain X J hs (PySem.W.osa_open (s := { s with toks := s.toks + 1 }) (r := none) X J hp ht fun b => ?_)
  obtain ⟨cd, hc, hd'⟩ := PySem.W.any_some hh
  have hx : s.heap.get? x = some ⟨.ref C, some dx, .plain, #[]⟩ := I.obj
  refine wpAny_bind (wpAny_pure (wpAny_bind (wpAny_bind (wpAny_loadPart hx (wpAny_bind (PySem.W.Looks.here (s := { s with toks := s.toks + 1 }) (PySem.W.looks_clsIn X hc) ?_))))))
  rw [hd']
  refine wpAny_pure (a := some dx) (wpAny_bind (wpAny_pure (wpAny_bind ?_)))
  refine wpAny_nsSet1 (s := { s with toks := s.toks + 1 }) I.ns fun h' hn2 hs2 => ?_
  obtain ⟨oD, esD, epD, hoD, hdD, hcD⟩ := hn2.count (PySem.Within.cons name v hw)
  refine wpAny_bind (wpAny_lookBehind hoD (by rw [hdD]; exact pastItsLine_dict (Nat.le_trans hcD (by rw [List.length_cons]; omega))) ?_)
  exact wpAny_pure (h _ ⟨(hs2.2 _ (Ne.symm I.ne)).trans I.obj, hn2, I.ne⟩ hs2)

theorem make_map {R : Result → Shared → Prop} {vs : List Value} {kw : List (Str × Value)} (X : K.In s.heap) (hm : PySem.W.makesIn K C = true)
    (hi : PySem.W.findIn K (.ref C) "__init__" = some (some (.ref f))) (hf : PySem.W.typeIn K (.ref f) = some (.type "function"))
    (h : codeAny (model prog w) (A.under (.builtin "type.__call__" ⟨.ref C :: vs, kw⟩)) (.call (.ref f) ⟨.ref (s.heap.objs.size + 1) :: vs, kw⟩) (PySem.W.InitBack (s.heap.objs.size + 1) R)
      { s with heap := (s.heap.push PySem.W.emptyDict).push (PySem.W.instObj C s.heap.objs.size) }) :
    codeAny (model prog w) A (.call (.ref C) ⟨vs, kw⟩) R s := by
  obtain ⟨hh, g, d, t, os⟩ := s
  exact PySem.W.make_core (PySem.W.makes_of X hm) (PySem.W.looks_findIn X hi) (fun self => PySem.W.bind_fn X self hf) (.inl rfl) h
end

def putF (f : Str) (v : V) : List (Str × V) → List (Str × V)
  | [] => [(f, v)]
  | (g, x) :: r => if g = f then (g, v) :: r else (g, x) :: putF f v r
theorem lookup_putF (f g : Str) (v : V) : ∀ fs : List (Str × V), (putF f v fs).lookup g = if g = f then some v else fs.lookup g
  | [] => by
    show List.lookup g [(f, v)] = _
    by_cases h : g = f
    · have hb : (g == f) = true := beq_iff_eq.mpr h
      simp only [List.lookup, hb, if_pos h]
    · have hb : (g == f) = false := beq_eq_false_iff_ne.mpr h
      simp only [List.lookup, hb, if_neg h]
  | (k, x) :: r => by
    have ih := lookup_putF f g v r
    rw [show putF f v ((k, x) :: r) = (if k = f then (k, v) :: r else (k, x) :: putF f v r) from rfl]
    by_cases hk : k = f
    · rw [if_pos hk]
      by_cases h : g = k
      · have hb : (g == k) = true := beq_iff_eq.mpr h
        simp only [List.lookup, hb, if_pos (h.trans hk)]
      · have hb : (g == k) = false := beq_eq_false_iff_ne.mpr h
        simp only [List.lookup, hb, if_neg (fun e : g = f => h (e.trans hk.symm))]
    · rw [if_neg hk]
      by_cases h : g = k
      · have hb : (g == k) = true := beq_iff_eq.mpr h
        simp only [List.lookup, hb, if_neg (fun e : g = f => hk (h.symm.trans e))]
      · have hb : (g == k) = false := beq_eq_false_iff_ne.mpr h
        simp only [List.lookup, hb]
        exact ih
theorem keys_putF (f : Str) (v : V) : ∀ fs : List (Str × V), f ∈ (putF f v fs).map (·.1) ∧ ∀ g, g ∈ fs.map (·.1) → g ∈ (putF f v fs).map (·.1)
  | [] => ⟨by simp [putF], fun g h => by simp at h⟩
  | (k, x) :: r => by
    obtain ⟨i1, i2⟩ := keys_putF f v r
    rw [show putF f v ((k, x) :: r) = (if k = f then (k, v) :: r else (k, x) :: putF f v r) from rfl]
    by_cases hk : k = f
    · rw [if_pos hk]
      subst hk
      exact ⟨by simp, fun g h => by simpa using h⟩
    · rw [if_neg hk]
      refine ⟨?_, fun g h => ?_⟩
      · rw [List.map_cons]
        exact List.mem_cons_of_mem _ i1
      · rw [List.map_cons] at h ⊢
        rcases List.mem_cons.mp h with e | e
        · exact List.mem_cons.mpr (.inl e)
        · exact List.mem_cons_of_mem _ (i2 g e)
theorem length_putF (f : Str) (v : V) : ∀ fs : List (Str × V), (putF f v fs).length ≤ fs.length + 1
  | [] => by simp [putF]
  | (k, x) :: r => by
    have ih := length_putF f v r
    rw [show putF f v ((k, x) :: r) = (if k = f then (k, v) :: r else (k, x) :: putF f v r) from rfl]
    by_cases hk : k = f
    · rw [if_pos hk, List.length_cons, List.length_cons]; omega
    · rw [if_neg hk, List.length_cons, List.length_cons]; omega

theorem RelO.some_of {v : V} {o : Option Value} (r : RelO (some v) o) : ∃ u, o = some u ∧ RelV v u := by
  cases o with
  | none => exact (show False from r).elim
  | some u => exact ⟨u, rfl, r⟩
theorem RelO.none_of {o : Option Value} (r : RelO none o) : o = none := by
  cases o with
  | none => rfl
  | some u => exact (show False from r).elim
theorem handed_of {v : V} {u : Value} (r : RelV v u) : PySem.W.handedIn u = true := by
  cases v with
  | non => cases (show u = Value.none from r); rfl
  | bl b => cases (show u = Value.bool b from r); rfl
  | int i => obtain ⟨t, e⟩ := (show ∃ t, u = Value.int i t from r); cases e; rfl
  | str x => obtain ⟨t, e⟩ := (show ∃ t, u = Value.str x t from r); cases e; rfl
  | byt b => obtain ⟨t, e⟩ := (show ∃ t, u = Value.bytes b t from r); cases e; rfl
  | flt b => obtain ⟨t, e⟩ := (show ∃ t, u = Value.float b t from r); cases e; rfl
  | ref a => cases (show u = Value.ref a from r); rfl
  | ty n => cases (show u = Value.type n from r); rfl

section
variable {P : Program} {w : World} {H H' : Hp} {h h' : Heap} {a C dx : Addr} {fs fs' : List (Str × V)}
theorem ins_get (hok : HOk P w H h) (e : H a = some (.ins C dx fs)) : ∃ mA, ObjM h a dx C mA ∧ (∀ f, RelO (fs.lookup f) (mA f)) ∧ PySem.Within mA (fs.map (·.1)) ∧ fs.length ≤ 1000 ∧ H dx = some (.own a) := by
  obtain ⟨d, z, ne, ob, mA, n, r, q⟩ := (show ObjOk P w H h a (.ins C dx fs) from hok a _ e)
  exact ⟨mA, ⟨ob, n, ne⟩, r, q, z, d⟩
end

structure Cls (K : PySem.W.Frag) (C : Addr) : Prop where
  pg : PySem.W.plainGet K C Str.empty = true
  hd : PySem.W.hasDictIn K C = true
  po : PySem.W.plainOver K C = true
  sa : PySem.W.findIn K (.ref C) "__setattr__" = some (some (.builtin "object.__setattr__"))
theorem Cls.get {K : PySem.W.Frag} {C : Addr} (c : Cls K C) (f : Str) : PySem.W.plainGet K C f = true := c.pg
def NoAttr (K : PySem.W.Frag) (C : Addr) (f : Str) : Prop := PySem.W.findIn K (.ref C) f = some none
theorem NoAttr.taker {K : PySem.W.Frag} {C : Addr} {f : Str} (n : NoAttr K C f) : PySem.W.takerIn K C f = some none := by
  unfold PySem.W.takerIn
  rw [show PySem.W.findIn K (.ref C) f = some none from n]
  rfl
structure Meth (K : PySem.W.Frag) (C : Addr) (m : Str) (f : Addr) : Prop where
  at_ : PySem.W.findIn K (.ref C) m = some (some (.ref f))
  fn : PySem.W.isFn K (.ref f) = true
  kp : PySem.W.keepIn K (.ref f) = true

section
variable {X : Cx} {pins : List (Addr × Obj)} {σ : St} {H : Hp} {s : Shared} {a C dx : Addr} {fs : List (Str × V)} {f : Str} {v : V} {A : Around} {E : Value → Shared → Prop}

theorem getattr_ok {b : Bool} {Q : Value → Shared → Prop} (I : Inv X pins σ H s) (e : H a = some (.ins C dx fs)) (c : Cls X.K C) (n : NoAttr X.K C f) (l : fs.lookup f = some v)
    (h : ∀ u s', Inv X pins σ H s' → RelV v u → Q u s') : wpAny (model X.prog X.w) A (getAttr (.ref a) f b) Q E s := by
  obtain ⟨mA, O, r, _, _, _⟩ := ins_get I.hok e
  obtain ⟨u, hu, ru⟩ := RelO.some_of (v := v) (o := mA f) (by rw [← l]; exact r f)
  exact get_map I.kIn O (c.get f) c.hd n hu (handed_of ru) (h u _ (I.tok _) ru)

theorem getmeth_ok {m : Str} {g : Addr} {pl : Sem Bool} {Q : Value × List Value → Shared → Prop} (I : Inv X pins σ H s) (e : H a = some (.ins C dx fs)) (c : Cls X.K C) (k : Meth X.K C m g) (l : fs.lookup m = none)
    (h : Q (.ref g, [.ref a]) s) : wpAny (model X.prog X.w) A (getMethod (.ref a) m pl) Q E s := by
  obtain ⟨mA, O, r, _, _, _⟩ := ins_get I.hok e
  have hn : mA m = none := RelO.none_of (by rw [← l]; exact r m)
  exact get_meth I.kIn O (c.get m) k.at_ k.fn hn h

theorem setattr_ok {y : V} {u : Value} {Q : Unit → Shared → Prop} (I : Inv X pins σ H s) (e : H a = some (.ins C dx fs)) (c : Cls X.K C) (n : NoAttr X.K C f) (hl : fs.length < 1000) (ry : RelV y u)
    (h : ∀ s', Inv X pins σ (upd H a (.ins C dx (putF f y fs))) s' → Q () s') : wpAny (model X.prog X.w) A (setAttr (.ref a) f u) Q E s := by
  obtain ⟨mA, O, r, wi, _, ho⟩ := ins_get I.hok e
  have hz : (fs.map (·.1)).length ≤ sizeLine := by rw [List.length_map, sizeLine_eq]; omega
  refine set_map I.kIn O c.sa c.po n.taker c.hd wi hz fun h' O' sb => h _ ?_
  have hd : ∃ o, h'.get? dx = some o := let ⟨o, _, _, e', _⟩ := O'.ns; ⟨o, e'⟩
  refine I.write (x := a) (e := dx) (by rw [e]; exact True.intro) (.inr ho) (fun b q hb z => (sb.2 b hb).trans z) hd ?_
  refine ⟨by rw [upd_ne O.ne]; exact ho, ?_, O.ne, O'.obj, _, O'.ns, fun g => ?_, fun g hg => ?_⟩
  · have := length_putF f y fs; omega
  · show RelO ((putF f y fs).lookup g) (if g = f then some u else mA g)
    rw [lookup_putF]
    by_cases q : g = f
    · rw [if_pos q, if_pos q]; exact ry
    · rw [if_neg q, if_neg q]; exact r g
  · by_cases q : g = f
    · rw [q]; exact (keys_putF f y fs).1
    · refine (keys_putF f y fs).2 g (wi g fun z => hg ?_)
      show (if g = f then some u else mA g) = none
      rw [if_neg q]; exact z

theorem Inv.made (I : Inv X pins σ H s) : Inv X pins σ (upd (upd H s.heap.objs.size (.own (s.heap.objs.size + 1))) (s.heap.objs.size + 1) (.ins C s.heap.objs.size []))
    { s with heap := (s.heap.push PySem.W.emptyDict).push (PySem.W.instObj C s.heap.objs.size) } := by
  have e1 : (s.heap.push PySem.W.emptyDict).get? s.heap.objs.size = some PySem.W.emptyDict := Heap.get?_push_size s.heap rfl
  have e2 : ((s.heap.push PySem.W.emptyDict).push (PySem.W.instObj C s.heap.objs.size)).get? (s.heap.objs.size + 1) = some (PySem.W.instObj C s.heap.objs.size) := by
    have := Heap.get?_push_size (s.heap.push PySem.W.emptyDict) (o := PySem.W.instObj C s.heap.objs.size) rfl
    rwa [Heap.size_push] at this
  have e3 : (s.heap.push PySem.W.emptyDict).Ns s.heap.objs.size (fun _ => none) := ⟨PySem.W.emptyDict, #[], _, e1, rfl, (fun e he => absurd he (by simp)), fun _ => rfl⟩
  have I1 := I.laid (a := s.heap.objs.size) (o := .own (s.heap.objs.size + 1)) (h' := s.heap.push PySem.W.emptyDict) (t' := s.toks) (fun b u q => Heap.get?_push_of_some _ q) (Nat.le_refl _) ⟨_, e1⟩
  refine I1.laid (a := s.heap.objs.size + 1) (o := .ins C s.heap.objs.size []) (t' := s.toks) (fun b u q => Heap.get?_push_of_some _ q) (Nat.le_of_eq (Heap.size_push _ _)) ?_
  have ne : s.heap.objs.size ≠ s.heap.objs.size + 1 := Nat.ne_of_lt (Nat.lt_succ_self _)
  refine ⟨by rw [upd_ne ne, upd_same], Nat.zero_le _, ne, e2, fun _ => none, (Heap.Ns1.of_empty e3).at fun o q => Heap.get?_push_of_some _ q, fun _ => True.intro, fun y hy => absurd rfl hy⟩

theorem attr_of {prog : Program} {w : World} {env : Env} {e : Expr} {f : Str} {pos : Pos} {s : Shared} {Q : Value → Shared → Prop} (hb : attributeBase e f env (eval e env) = eval e env)
    (h : wpAny (model prog w) A (eval e env) (fun o s₁ => wpAny (model prog w) A (getAttr o f true) Q E s₁) E s) : wpAny (model prog w) A (eval (.Attribute e f pos) env) Q E s :=
  Attribute_any_ h (by rw [arm_eval_Attribute, hb])
end

def tFld (K : PySem.W.Frag) (ta : TE) (f : Str) : TE := fun σ H Q => ta σ H fun x H1 => ∃ a C dx fs v, x = .ref a ∧ H1 a = some (.ins C dx fs) ∧ Cls K C ∧ NoAttr K C f ∧ fs.lookup f = some v ∧ Q v H1
def sFld (K : PySem.W.Frag) (ta tv : TE) (f : Str) : TS := fun D σ H => tv σ H fun y H1 => ta σ H1 fun x H2 => ∃ a C dx fs, x = .ref a ∧ H2 a = some (.ins C dx fs) ∧ Cls K C ∧ NoAttr K C f ∧ fs.length < 1000 ∧
  D.nx σ (upd H2 a (.ins C dx (putF f y fs)))
section
variable {X : Cx} {o e value : Expr} {f : Str} {pos pos' tpos : Pos} {ta tv : TE}
theorem pe_fld (he : PE X e ta) (hb : attributeBase e f X.env (eval e X.env) = eval e X.env) : PE X (.Attribute e f pos) (tFld X.K ta f) := by
  intro pins s σ H Q I h
  refine attr_of hb (thn (he pins s σ H _ I h) fun u s1 ⟨x, H1, I1, rx, a, C, dx, fs, v, ex, ea, c, n, l, q⟩ => ?_)
  subst ex
  obtain rfl : u = Value.ref a := rx
  exact getattr_ok I1 ea c n l fun u' s2 I2 ru => ⟨v, H1, I2, ru, q⟩
theorem ps_fld (ha : PE X o ta) (hv : PE X value tv) (hs : swapsWith value (some (.Attribute o f pos')) pos.line X.env = pure false) : PS X (.Assign [.Attribute o f pos'] value pos) (sFld X.K ta tv f) := by
  intro pins s σ H D I h
  refine plainObj_wpAny_Assign_Attribute (thn (hv pins s σ H _ I h) fun u s1 ⟨y, H1, I1, ry, q⟩ => thn (ha pins s1 σ H1 _ I1 q) fun ov s2 ⟨x, H2, I2, rx, a, C, dx, fs, ex, ea, c, n, l, q2⟩ => ?_) hs
  subst ex
  obtain rfl : ov = Value.ref a := rx
  exact setattr_ok I2 ea c n l ry fun s3 I3 => ⟨σ, _, I3, q2⟩
end

section
variable {X : Cx} {pins : List (Addr × Obj)} {σ : St} {H : Hp} {s : Shared} {A : Around} {E : Value → Shared → Prop} {Q : Value → Shared → Prop} {c : Value} {b : Bool}
inductive TyOf (K : PySem.W.Frag) (H : Hp) : V → Value → Prop where
  | non : TyOf K H .non (.type "NoneType")
  | bl (x : Bool) : TyOf K H (.bl x) (.type "bool")
  | int (i : Int) : TyOf K H (.int i) (.type "int")
  | str (x : Str) : TyOf K H (.str x) (.type "str")
  | flt (x : UInt64) : TyOf K H (.flt x) (.type "float")
  | lst {a : Addr} {xs : List V} (e : H a = some (.lst xs)) : TyOf K H (.ref a) (.type "list")
  | frz {a : Addr} {o : Obj} {xs : List V} (e : H a = some (.frz o (.lst xs))) : TyOf K H (.ref a) (.type "list")
  | tup {a : Addr} {xs : List V} (e : H a = some (.tup xs)) : TyOf K H (.ref a) (.type "tuple")
  | dK {a : Addr} {kvs : List (Key × V)} (e : H a = some (.dK kvs)) : TyOf K H (.ref a) (.type "dict")
  | dT {a : Addr} {kvs : List (List Key × V)} (e : H a = some (.dT kvs)) : TyOf K H (.ref a) (.type "dict")
  | ins {a C dx : Addr} {fs : List (Str × V)} (e : H a = some (.ins C dx fs)) (cl : Cls K C) (ha : PySem.W.findIn K (.ref C) "__class__" = some (some (.builtin "object.__class__")))
      (hn : PySem.W.specialIn K (.builtin "object.__class__") "__get__" = some (some (.builtin "getset_descriptor.__get__"))) (htk : PySem.W.takesIn K (.builtin "object.__class__") = some true)
      (hm : PySem.W.mroIn K C (.type "object") = some true) : TyOf K H (.ref a) (.ref C)
theorem isinst_ok {x : V} {u t : Value} (I : Inv X pins σ H s) (rx : RelV x u) (ty : TyOf X.K H x t) (e : PySem.W.kitOne X.K t c = some b) (h : ∀ tk, Q (.bool b) { s with toks := tk }) :
    wpAny (model X.prog X.w) A (call (.builtin "isinstance") [u, c]) Q E s := by
  cases ty with
  | non => cases (show u = Value.none from rx); exact PySem.W.kia_one PySem.W.kitx_none I.kIn True.intro e (fun z => nomatch z) h
  | bl y => cases (show u = Value.bool y from rx); exact PySem.W.kia_one PySem.W.kitx_bool I.kIn True.intro e (fun z => nomatch z) h
  | int i => obtain ⟨t, q⟩ := (show ∃ t, u = Value.int i t from rx); cases q; exact PySem.W.kia_one PySem.W.kitx_int I.kIn True.intro e (fun z => nomatch z) h
  | str y => obtain ⟨t, q⟩ := (show ∃ t, u = Value.str y t from rx); cases q; exact PySem.W.kia_one PySem.W.kitx_str I.kIn True.intro e (fun z => nomatch z) h
  | flt y => obtain ⟨t, q⟩ := (show ∃ t, u = Value.float y t from rx); cases q; exact PySem.W.kia_one PySem.W.kitx_float I.kIn True.intro e (fun z => nomatch z) h
  | @lst a xs ea =>
    cases (show u = Value.ref a from rx)
    obtain ⟨_, _, n, _, h1⟩ := (show ObjOk X.prog X.w H s.heap a (.lst xs) from I.hok a _ ea)
    exact PySem.W.kia_one PySem.W.kitx_list I.kIn ⟨_, h1, rfl⟩ e (fun z => nomatch z) h
  | @frz a ob xs ea =>
    cases (show u = Value.ref a from rx)
    obtain ⟨_, _, _, n, _, h1⟩ := (show ObjOk X.prog X.w H s.heap a (.frz ob (.lst xs)) from I.hok a _ ea)
    exact PySem.W.kia_one PySem.W.kitx_list I.kIn ⟨_, h1, rfl⟩ e (fun z => nomatch z) h
  | @tup a xs ea =>
    cases (show u = Value.ref a from rx)
    obtain ⟨_, _, _, p⟩ := (show ObjOk X.prog X.w H s.heap a (.tup xs) from I.hok a _ ea)
    obtain ⟨o, h1, h2, _⟩ := p
    exact PySem.W.kia_one PySem.W.kitx_tuple I.kIn ⟨o, h1, h2⟩ e (fun z => nomatch z) h
  | @dK a kvs ea =>
    cases (show u = Value.ref a from rx)
    obtain ⟨_, _, vs, _, p⟩ := (show ObjOk X.prog X.w H s.heap a (.dK kvs) from I.hok a _ ea)
    obtain ⟨o, es, ep, h1, h2, _⟩ := p
    exact PySem.W.kia_one PySem.W.kitx_dict I.kIn ⟨o, h1, h2.1⟩ e (fun z => nomatch z) h
  | @dT a kvs ea =>
    cases (show u = Value.ref a from rx)
    obtain ⟨_, _, xs, _, o, es, ep, h1, h2, _⟩ := (show ObjOk X.prog X.w H s.heap a (.dT kvs) from I.hok a _ ea)
    exact PySem.W.kia_one PySem.W.kitx_dict I.kIn ⟨o, h1, h2.1⟩ e (fun z => nomatch z) h
  | @ins a C dx fs ea cl ha hn htk hm =>
    cases (show u = Value.ref a from rx)
    obtain ⟨mA, O, _⟩ := ins_get I.hok ea
    obtain ⟨od, J, _⟩ := O.look
    exact PySem.W.kia_one (PySem.W.kitx_own (cl.get _) cl.hd ha hn htk hm) I.kIn J e (fun z => nomatch z) h
end
end L2

namespace L2
open PySem PySem.Spec PyProof.Rows

structure Room (k : Nat) (A : Around) : Prop where
  hd : A.handled = none
  dp : A.depth + 3 * k + 5 < recursionLimit
  un : A.units + 16 * k + 200 < cLine
theorem Room.mono {j k : Nat} {A : Around} (r : Room k A) (h : j ≤ k) : Room j A := ⟨r.hd, by have := r.dp; omega, by have := r.un; omega⟩
theorem Room.deeper {k : Nat} {A : Around} (r : Room (k + 1) A) (env : Env) : Room k (A.deeper env) :=
  ⟨r.hd, by have := r.dp; show A.depth + 1 + 3 * k + 5 < _; omega, by have := r.un; show A.units + 3 + 16 * k + 200 < _; omega⟩
theorem make_depth {A : Around} {C : Addr} {us : List Value} {kw : List (Str × Value)} : (A.under (.builtin "type.__call__" ⟨.ref C :: us, kw⟩)).depth = A.depth + 1 := by
  first | rfl | simp [Around.under, Code.weight, Code.isCreation, Code.isGuard, Code.isCaller, Code.frames, Code.isFrame, guardIds]
theorem make_units {A : Around} {C : Addr} {us : List Value} {kw : List (Str × Value)} : (A.under (.builtin "type.__call__" ⟨.ref C :: us, kw⟩)).units = A.units + 1 := by
  first | rfl | simp [Around.under, Code.cUnits, Code.frames, Code.isFrame]
theorem Room.make {k : Nat} {A : Around} (r : Room (k + 1) A) (C : Addr) (us : List Value) (kw : List (Str × Value)) : Room k (A.under (.builtin "type.__call__" ⟨.ref C :: us, kw⟩)) :=
  ⟨r.hd, by have := r.dp; rw [make_depth]; omega, by have := r.un; rw [make_units]; omega⟩
theorem Room.depth {k : Nat} {A : Around} (r : Room k A) : A.depth < recursionLimit := by have := r.dp; omega
theorem Room.units {k : Nat} {A : Around} (r : Room k A) : A.units + 64 < cLine := by have := r.un; omega
def tNil : TA := fun _ H Q => Q [] H
def tCons (ta : TE) (tr : TA) : TA := fun σ H Q => ta σ H fun x H1 => tr σ H1 fun xs H2 => Q (x :: xs) H2
section
variable {X : Cx} {e : Expr} {es : List Expr} {te : TE} {t : TA} {pos : Pos}
theorem pa_nil : PA X [] tNil := fun _ _ _ _ H Q I h => Calls.spliced_nil ⟨[], H, I, .nil, h⟩
theorem pa_cons (ha : PE X e te) (hr : PA X es t) (hs : starEach (e :: es) X.env = (false, eval e X.env) :: starEach es X.env := by rfl) : PA X (e :: es) (tCons te t) := by
  intro pos pins s σ H Q I h
  rw [hs]
  show wpAny _ _ (spliced ((false, eval e X.env) :: backTo pos (starEach es X.env))) _ _ s
  refine Calls.spliced_cons (thn (ha pins s σ H _ I h) fun u s1 ⟨x, H1, I1, r1, q1⟩ => ?_)
  exact thn (hr pos pins s1 σ H1 _ I1 q1) fun us s2 ⟨xs, H2, I2, r2, q2⟩ => ⟨x :: xs, H2, I2, .cons r1 r2, q2⟩

def tTup (t : TA) : TE := fun σ H Q => t σ H fun xs H1 => xs.length ≤ sizeLine ∧ ∀ p, H1 p = none → Q (.ref p) (upd H1 p (.tup xs))
def tLst (t : TA) : TE := fun σ H Q => t σ H fun xs H1 => xs.length ≤ sizeLine ∧ ∀ p, H1 p = none → Q (.ref p) (upd H1 p (.lst xs))
theorem pe_tup {x1} (h : PA X es t) : PE X (.Tuple es x1 pos) (tTup t) := by
  intro pins s σ H Q I hq
  refine wpAny_Tuple_spliced (thn (h pos pins s σ H _ I hq) fun us s1 ⟨xs, H1, I1, r, z, q⟩ => ⟨by rw [← r.length]; exact z, ?_⟩)
  have hf : H1 s1.heap.objs.size = none := I1.hok.fresh (Nat.le_refl _)
  refine ⟨.ref s1.heap.objs.size, upd H1 s1.heap.objs.size (.tup xs), I1.laid (t' := s1.toks) (fun b u e => Heap.get?_push_of_some _ e) (Nat.le_refl _) ?_, rfl, q _ hf⟩
  exact ⟨z, us, r, ⟨_, Heap.get?_push_size _ rfl, rfl, _, rfl⟩⟩
theorem pe_lst (h : PA X es t) : PE X (.List es pos) (tLst t) := by
  intro pins s σ H Q I hq
  refine wpAny_List_spliced (thn (h pos pins s σ H _ I hq) fun us s1 ⟨xs, H1, I1, r, z, q⟩ => ⟨by rw [← r.length]; exact z, ?_⟩)
  have hf : H1 s1.heap.objs.size = none := I1.hok.fresh (Nat.le_refl _)
  refine ⟨.ref s1.heap.objs.size, upd H1 s1.heap.objs.size (.lst xs), I1.laid (t' := s1.toks) (fun b u e => Heap.get?_push_of_some _ e) (Nat.le_refl _) ?_, rfl, q _ hf⟩
  exact ⟨z, us, 0, r, Heap.get?_push_size _ rfl⟩
end

abbrev Sp := List V → Hp → VK → XK → Prop
abbrev CXT := List Env → Hp → Shared → XK → Value → Shared → Prop

structure Env0 (P : Program) (w : World) (K : PySem.W.Frag) (mg : Str → Option Value) (base : Heap) (A : Around) (outer : List Env) (s : Shared) (H : Hp) : Prop where
  frames : A.frames = some outer
  mod : Mod K mg base
  bs : ∀ b o, base.get? b = some o → s.heap.get? b = some o ∧ H b = none
  bsz : base.objs.size ≤ s.heap.objs.size
  funs : s.heap.FunFrames base outer
  frf : ∀ b ∈ frs outer, H b = none
  hok : HOk P w H s.heap
  bare : AllBare s.gens
def CE (outer : List Env) (P : Program) (w : World) (H : Hp) (s : Shared) (Q : VK) (u : Value) (s' : Shared) : Prop :=
  ∃ v H', s'.os = s.os ∧ AllBare s'.gens ∧ Un (frs outer) [] H H' s.heap s'.heap ∧ HOk P w H' s'.heap ∧ RelV v u ∧ Q v H'
def CR (CX : CXT) (outer : List Env) (P : Program) (w : World) (H : Hp) (s : Shared) (Q : VK) (E : XK) (r : Result) (s' : Shared) : Prop :=
  match r with
  | .ok (.ret u) => CE outer P w H s Q u s'
  | .ok _ => False
  | .error e => CX outer H s E e s'
structure FnOk (P : Program) (w : World) (K : PySem.W.Frag) (mg : Str → Option Value) (base : Heap) (CX : CXT) (k : Nat) (f : Addr) (fd : FuncData) (ps : List Str) (sp : Sp) : Prop where
  len : ∀ vs H Q E, sp vs H Q E → vs.length = ps.length
  run : ∀ (A : Around) (outer : List Env) (s : Shared) (H : Hp) (args : Args) (us : List Value) (vs : List V) (Q : VK) (E : XK), Room k A → Env0 P w K mg base A outer s H → BindsTo s fd args (ps.zip us) → Vals vs us → sp vs H Q E →
    codeAny (model P w) A (.call (.ref f) args) (CR CX outer P w H s Q E) s
theorem Env0.make {P : Program} {w : World} {K : PySem.W.Frag} {mg : Str → Option Value} {base : Heap} {A : Around} {outer : List Env} {s : Shared} {H : Hp} (e : Env0 P w K mg base A outer s H) (C : Addr) (us : List Value) (kw : List (Str × Value)) :
    Env0 P w K mg base (A.under (.builtin "type.__call__" ⟨.ref C :: us, kw⟩)) outer s H := ⟨by first | exact e.frames | (simpa [Around.under, Code.envs, Code.isFrame, pushEnvs] using e.frames), e.mod, e.bs, e.bsz, e.funs, e.frf, e.hok, e.bare⟩
section
variable {X : Cx} {pins : List (Addr × Obj)} {σ : St} {H : Hp} {s s' : Shared}
theorem Inv.env0 (I : Inv X pins σ H s) : Env0 X.prog X.w X.K X.mg X.base X.A X.stack s H :=
  ⟨I.ok.frames, I.ok.mod, I.bs, Nat.le_trans I.ok.bsz I.sz, I.stack, I.stkFree, I.hok, I.bare⟩
theorem Inv.after {Q : VK} {u : Value} (I : Inv X pins σ H s) (h : CE X.stack X.prog X.w H s Q u s') : EP X pins σ Q u s' := by
  obtain ⟨v, H', os, bare, un, hok, r, q⟩ := h
  obtain ⟨hh, g, d, t, os'⟩ := s'
  obtain rfl : os' = s.os := os
  exact ⟨v, H', I.call (h' := hh) (g' := g) (d' := d) (t' := t) (ch := []) un hok bare (fun b z => absurd z (by simp)), r, q⟩
end

def tCall (sp : Sp) (dvs : List V) (E : XK) (t : TA) : TE := fun σ H Q => t σ H fun vs H1 => sp (vs ++ dvs) H1 Q E
def tMeth (C : Addr) (m : Str) (sp : Sp) (dvs : List V) (E : XK) (ta : TE) (t : TA) : TE := fun σ H Q => ta σ H fun x H1 => ∃ a dx fs, x = .ref a ∧ H1 a = some (.ins C dx fs) ∧ fs.lookup m = none ∧
  t σ H1 fun vs H2 => sp (x :: (vs ++ dvs)) H2 Q E
def tMake (C : Addr) (sp : Sp) (dvs : List V) (E : XK) (t : TA) : TE := fun σ H Q => t σ H fun vs H1 => ∀ x dx, H1 x = none → H1 dx = none → dx ≠ x →
  sp (.ref x :: (vs ++ dvs)) (upd (upd H1 dx (.own x)) x (.ins C dx [])) (fun v H2 => v = .non ∧ Q (.ref x) H2) E

def Binds (K : PySem.W.Frag) (fd : FuncData) (ps : List Str) (ds : List Value) : Prop :=
  ∀ (s : Shared) (us : List Value), K.In s.heap → (us ++ ds).length = ps.length → BindsTo s fd ⟨us, []⟩ (ps.zip (us ++ ds))
theorem Binds.all {K : PySem.W.Frag} {fd : FuncData} {ps : List Str} (h : ∀ us : List Value, us.length = ps.length → bindArgs fd ⟨us, []⟩ = pure (ps.zip us)) : Binds K fd ps [] := fun s us _ hl => by
  rw [List.append_nil] at hl ⊢
  exact .of_eq (h us hl)

def Passes (CX : CXT) (X : Cx) (E : XK) : Prop := ∀ (pins : List (Addr × Obj)) (σ : St) (H : Hp) (s : Shared) (e : Value) (s' : Shared), Inv X pins σ H s → CX X.stack H s E e s' → X.xe e s'

section
variable {X : Cx} {CX : CXT} {k : Nat} {f C : Addr} {fd : FuncData} {ps : List Str} {sp : Sp} {dvs : List V} {ds : List Value} {E : XK} {x m : Str} {p pos apos : Pos} {e o : Expr} {es : List Expr} {ta : TE} {t : TA}

theorem run_fn {pins : List (Addr × Obj)} {σ : St} {H : Hp} {s : Shared} {Q : VK} {us : List Value} {vs : List V} (F : FnOk X.prog X.w X.K X.mg X.base CX k f fd ps sp) (hr : Room k X.A) (hb : Binds X.K fd ps ds) (hd : Vals dvs ds) (hx : Passes CX X E)
    (I : Inv X pins σ H s) (r : Vals vs us) (h : sp (vs ++ dvs) H Q E) : wpAny (model X.prog X.w) X.A (call (.ref f) us) (EP X pins σ Q) X.xe s := by
  have r2 : Vals (vs ++ dvs) (us ++ ds) := r.append hd
  have hl : (us ++ ds).length = ps.length := by rw [← r2.length]; exact F.len _ _ _ _ h
  refine wpAny_call (codeAny_mono (F.run X.A X.stack s H ⟨us, []⟩ (us ++ ds) (vs ++ dvs) Q E hr I.env0 (hb s us I.kIn hl) r2 h) fun r s' hq => ?_)
  cases r with
  | error e => exact hx pins σ H s e s' I hq
  | ok fl =>
    cases fl with
    | ret u => exact I.after hq
    | next => exact False.elim hq
    | brk => exact False.elim hq
    | cont => exact False.elim hq

theorem pe_call (F : FnOk X.prog X.w X.K X.mg X.base CX k f fd ps sp) (hr : Room k X.A) (hg : Gl X x) (hm : X.mg x = some (.ref f)) (hk : PySem.W.keepIn X.K (.ref f) = true) (hb : Binds X.K fd ps ds) (hd : Vals dvs ds) (hx : Passes CX X E)
    (ha : PA X (e :: es) t) (hdb : (x == ("__debug__" : Str)) = false := by decide) (he : starEach (e :: es) X.env = (false, eval e X.env) :: starEach es X.env := by rfl) (hpl : (backTo pos (starEach es X.env)).any (·.1) = false := by rfl) :
    PE X (.Call (.Name x p) (e :: es) [] pos) (tCall sp dvs E t) := by
  intro pins s σ H Q I h
  refine wpAny_Call_Name_kw (ld_glob I hg hm ?_ hdb)
  refine PySem.W.callWith_K (h₀ := X.base) I.ok.mod.kin hk (thn (ha pos pins s σ H _ I h) fun us s1 ⟨vs, H1, I1, r, q⟩ => ⟨I1.kIn, ?_⟩) he hpl
  exact run_fn F hr hb hd hx I1 r q
theorem pe_meth {pl : Sem Bool} (he : PE X o ta) (c : Cls X.K C) (hm : Meth X.K C m f) (F : FnOk X.prog X.w X.K X.mg X.base CX k f fd ps sp) (hr : Room k X.A) (hb : Binds X.K fd ps ds) (hd : Vals dvs ds) (hx : Passes CX X E) (ha : PA X (e :: es) t)
    (hst : starEach (e :: es) X.env = (false, eval e X.env) :: starEach es X.env := by rfl) (hpl : (backTo pos (starEach es X.env)).any (·.1) = false := by rfl)
    (ht : eval (.Call (.Attribute o m apos) (e :: es) [] pos) X.env = (do
      let ov ← eval o X.env
      standAt apos.atName
      let (f, first) ← holding [ov] (getMethod ov m pl)
      callWith pos f first (backTo pos (starEach (e :: es) X.env)) (backToKw pos (keywordEach [] X.env))) := by rfl) :
    PE X (.Call (.Attribute o m apos) (e :: es) [] pos) (tMeth C m sp dvs E ta t) := by
  intro pins s σ H Q I h
  refine PySem.W.methodCall_KW (pl := pl) (thn (he pins s σ H _ I h) fun u s1 ⟨x, H1, I1, rx, a, dx, fs, ex, ea, l, q⟩ => ?_) ht
  subst ex
  obtain rfl : u = Value.ref a := rx
  refine getmeth_ok I1 ea c hm l ?_
  refine PySem.W.callWith_K (first := [.ref a]) (h₀ := X.base) I.ok.mod.kin hm.kp (thn (ha pos pins s1 σ H1 _ I1 q) fun us s2 ⟨vs, H2, I2, r, q2⟩ => ⟨I2.kIn, ?_⟩) hst hpl
  exact run_fn (us := .ref a :: us) (vs := .ref a :: vs) F hr hb hd hx I2 (.cons rfl r) q2
theorem pe_meth0 {pl : Sem Bool} (he : PE X o ta) (c : Cls X.K C) (hm : Meth X.K C m f) (F : FnOk X.prog X.w X.K X.mg X.base CX k f fd ps sp) (hr : Room k X.A) (hb : Binds X.K fd ps ds) (hd : Vals dvs ds) (hx : Passes CX X E)
    (ht : eval (.Call (.Attribute o m apos) [] [] pos) X.env = (do
      let ov ← eval o X.env
      standAt apos.atName
      let (f, first) ← holding [ov] (getMethod ov m pl)
      callWith pos f first (backTo pos (starEach [] X.env)) (backToKw pos (keywordEach [] X.env))) := by rfl) :
    PE X (.Call (.Attribute o m apos) [] [] pos) (tMeth C m sp dvs E ta tNil) := by
  intro pins s σ H Q I h
  refine PySem.W.methodCall_KW (pl := pl) (thn (he pins s σ H _ I h) fun u s1 ⟨x, H1, I1, rx, a, dx, fs, ex, ea, l, q⟩ => ?_) ht
  subst ex
  obtain rfl : u = Value.ref a := rx
  refine getmeth_ok I1 ea c hm l ?_
  exact PySem.W.callWith_K0 (first := [.ref a]) I1.kIn hm.kp (run_fn (us := [.ref a]) (vs := [.ref a]) F hr hb hd hx I1 (.cons rfl .nil) q)

structure Mk (K : PySem.W.Frag) (C f : Addr) : Prop where
  makes : PySem.W.makesIn K C = true
  init : PySem.W.findIn K (.ref C) "__init__" = some (some (.ref f))
  fn : PySem.W.isFn K (.ref f) = true
  kp : PySem.W.keepIn K (.ref C) = true

theorem run_make {pins : List (Addr × Obj)} {σ : St} {H : Hp} {s : Shared} {Q : VK} {us : List Value} {vs : List V} (M : Mk X.K C f) (F : FnOk X.prog X.w X.K X.mg X.base CX k f fd ps sp) (hr : Room (k + 1) X.A) (hb : Binds X.K fd ps ds) (hd : Vals dvs ds)
    (hx : Passes CX X E) (I : Inv X pins σ H s) (r : Vals vs us)
    (h : ∀ x dx, H x = none → H dx = none → dx ≠ x → sp (.ref x :: (vs ++ dvs)) (upd (upd H dx (.own x)) x (.ins C dx [])) (fun v H2 => v = .non ∧ Q (.ref x) H2) E) :
    wpAny (model X.prog X.w) X.A (call (.ref C) us) (EP X pins σ Q) X.xe s := by
  have hq := h (s.heap.objs.size + 1) s.heap.objs.size (I.hok.fresh (Nat.le_succ _)) (I.hok.fresh (Nat.le_refl _)) (Nat.ne_of_lt (Nat.lt_succ_self _))
  have I2 := Inv.made (C := C) I
  have r2 : Vals (V.ref (s.heap.objs.size + 1) :: (vs ++ dvs)) (Value.ref (s.heap.objs.size + 1) :: (us ++ ds)) := .cons rfl (r.append hd)
  have hl : (Value.ref (s.heap.objs.size + 1) :: us ++ ds).length = ps.length := by
    have e := r2.length
    rw [F.len _ _ _ _ hq] at e
    exact e.symm
  refine wpAny_call (make_map (f := f) I.kIn M.makes M.init (beq_iff_eq.mp M.fn) (codeAny_mono (F.run _ X.stack _ _ ⟨Value.ref (s.heap.objs.size + 1) :: us, []⟩ (Value.ref (s.heap.objs.size + 1) :: (us ++ ds)) _ _ E (hr.make C us [])
    (I2.env0.make C us []) (hb _ (Value.ref (s.heap.objs.size + 1) :: us) I2.kIn hl) r2 hq) fun r s' hq' => ?_))
  cases r with
  | error e => exact hx pins σ _ _ e s' I2 hq'
  | ok fl =>
    cases fl with
    | ret u =>
      obtain ⟨v, H', I3, rv, ev, q3⟩ := I2.after hq'
      subst ev
      exact ⟨rv, ⟨V.ref (s.heap.objs.size + 1), H', I3, rfl, q3⟩⟩
    | next => exact False.elim hq'
    | brk => exact False.elim hq'
    | cont => exact False.elim hq'
theorem pe_make (M : Mk X.K C f) (F : FnOk X.prog X.w X.K X.mg X.base CX k f fd ps sp) (hr : Room (k + 1) X.A) (hg : Gl X x) (hm : X.mg x = some (.ref C)) (hb : Binds X.K fd ps ds) (hd : Vals dvs ds) (hx : Passes CX X E)
    (ha : PA X (e :: es) t) (hdb : (x == ("__debug__" : Str)) = false := by decide) (he : starEach (e :: es) X.env = (false, eval e X.env) :: starEach es X.env := by rfl) (hpl : (backTo pos (starEach es X.env)).any (·.1) = false := by rfl) :
    PE X (.Call (.Name x p) (e :: es) [] pos) (tMake C sp dvs E t) := by
  intro pins s σ H Q I h
  refine wpAny_Call_Name_kw (ld_glob I hg hm ?_ hdb)
  refine PySem.W.callWith_K (h₀ := X.base) I.ok.mod.kin M.kp (thn (ha pos pins s σ H _ I h) fun us s1 ⟨vs, H1, I1, r, q⟩ => ⟨I1.kIn, ?_⟩) he hpl
  exact run_make M F hr hb hd hx I1 r q
end

section
variable {X : Cx} {CX : CXT} {k : Nat} {f C : Addr} {fd : FuncData} {ps ks : List Str} {sp : Sp} {E : XK} {x m : Str} {p pos apos kpos : Pos} {e o : Expr} {es : List Expr} {kws : List Keyword} {te ta : TE} {t tk : TA} {nm : Option Str}
variable {g : List Value → List Value → List Value} {gV : List V → List V → List V}
end

structure FnScope (N P : List Str) (sc : Scope) : Prop where
  kind : sc.kind = .function
  co : sc.isCoroutine = false
  gen : sc.isGenerator = false
  nd : N.Nodup
  pre : N.take P.length = P
  par : ∀ x ∈ P, sc.names.lookup x = some .local ∨ sc.names.lookup x = some .cell
  nofree : ∀ y ∈ sc.names, y.2 ≠ .free

theorem bindL_out {kindOf : Str → Option NameKind} {x : Str} : ∀ {binds : List (Str × Value)} {m : Str → Option Value}, (∀ v, (x, v) ∉ binds) → bindL kindOf binds m x = m x
  | [], _, _ => rfl
  | (n, v) :: r, m, h => by
    unfold bindL
    rw [bindL_out fun w hw => h w (List.mem_cons_of_mem _ hw)]
    split
    · have : x ≠ n := by rintro rfl; exact h v List.mem_cons_self
      simp [this]
    · rfl
theorem bindC_out {kindOf : Str → Option NameKind} {x : Str} : ∀ {binds : List (Str × Value)} {m : Str → Option Value}, (∀ v, (x, v) ∉ binds) → bindC kindOf binds m x = m x
  | [], _, _ => rfl
  | (n, v) :: r, m, h => by
    unfold bindC
    rw [bindC_out fun w hw => h w (List.mem_cons_of_mem _ hw)]
    split
    · rfl
    · have : x ≠ n := by rintro rfl; exact h v List.mem_cons_self
      simp [this]
theorem bindL_get {kindOf : Str → Option NameKind} {x : Str} {v : Value} : ∀ {P : List Str} {vs : List Value} {i : Nat} {m : Str → Option Value}, P.Nodup → P[i]? = some x → vs[i]? = some v → kindOf x = some .local →
    bindL kindOf (P.zip vs) m x = some v
  | [], _, _, _, _, h, _, _ => by simp at h
  | _ :: _, [], _, _, _, _, h, _ => by simp at h
  | p :: P, w :: vs, 0, m, nd, h1, h2, hk => by
    simp at h1 h2; subst h1; subst h2
    show bindL kindOf ((p, w) :: P.zip vs) m p = _
    unfold bindL
    rw [bindL_out fun v hv => (List.nodup_cons.mp nd).1 (List.of_mem_zip hv).1, if_pos hk]
    simp
  | p :: P, w :: vs, i + 1, m, nd, h1, h2, hk => by
    show bindL kindOf ((p, w) :: P.zip vs) m x = _
    unfold bindL
    exact bindL_get (i := i) (List.nodup_cons.mp nd).2 (by simpa using h1) (by simpa using h2) hk
theorem bindC_get {kindOf : Str → Option NameKind} {x : Str} {v : Value} : ∀ {P : List Str} {vs : List Value} {i : Nat} {m : Str → Option Value}, P.Nodup → P[i]? = some x → vs[i]? = some v → kindOf x ≠ some .local →
    bindC kindOf (P.zip vs) m x = some v
  | [], _, _, _, _, h, _, _ => by simp at h
  | _ :: _, [], _, _, _, _, h, _ => by simp at h
  | p :: P, w :: vs, 0, m, nd, h1, h2, hk => by
    simp at h1 h2; subst h1; subst h2
    show bindC kindOf ((p, w) :: P.zip vs) m p = _
    unfold bindC
    rw [bindC_out fun v hv => (List.nodup_cons.mp nd).1 (List.of_mem_zip hv).1, if_neg hk]
    simp
  | p :: P, w :: vs, i + 1, m, nd, h1, h2, hk => by
    show bindC kindOf ((p, w) :: P.zip vs) m x = _
    unfold bindC
    exact bindC_get (i := i) (List.nodup_cons.mp nd).2 (by simpa using h1) (by simpa using h2) hk

def start (N : List Str) (vs : List V) : St := vs.map some ++ List.replicate (N.length - vs.length) none

def cxOf (CX : CXT) (P : Program) (w : World) (K : PySem.W.Frag) (mg : Str → Option Value) (base : Heap) (N : List Str) (qual : Str) (scope : Scope) (f : Addr) (cd : Value) (A : Around) (outer : List Env) (s : Shared) (H : Hp) (E : XK) : Cx where
  prog := P
  w := w
  K := K
  mg := mg
  base := base
  A := A.deeper (envOfC qual scope s.heap.objs.size f cd)
  N := N
  s₀ := s
  H₀ := H
  env := envOfC qual scope s.heap.objs.size f cd
  outer := outer
  stack := envOfC qual scope s.heap.objs.size f cd :: outer
  ex := []
  calm := true
  fn := fun _ => true
  pn := []
  xe := fun e s' => wpAny (model P w) (A.deeper (envOfC qual scope s.heap.objs.size f cd)) (leaving (envOfC qual scope s.heap.objs.size f cd) e) (fun _ s'' => CX outer H s E e s'') (fun e' s'' => CX outer H s E e' s'') s'

theorem cell_has {sc : Scope} {n : Nat} {x : Str} (h : sc.names.lookup x = some .cell) : ∃ c, (cellsFrom n sc.names []).lookup x = some c := by
  have q := PySem.W.cellsFrom_some sc.names n [] (.inl h)
  exact Option.isSome_iff_exists.mp q

theorem inv_start {CX : CXT} {P : Program} {w : World} {K : PySem.W.Frag} {mg : Str → Option Value} {base : Heap} {N ps : List Str} {qual : Str} {scope : Scope} {f : Addr} {cd : Value} {A : Around} {outer : List Env} {s s1 : Shared} {H : Hp} {E : XK} {us : List Value} {vs : List V}
    (S : FnScope N ps scope) (hd : A.handled = none) (e0 : Env0 P w K mg base A outer s H) (hl : vs.length = ps.length) (r : Vals vs us)
    (x : InCallC s s.heap.objs.size (bindL (envOfC qual scope s.heap.objs.size f cd).kindOf (ps.zip us) fun _ => none) (cellsFrom (s.heap.objs.size + 1) scope.names []) (bindC (envOfC qual scope s.heap.objs.size f cd).kindOf (ps.zip us) fun _ => none) s1) :
    Inv (cxOf CX P w K mg base N qual scope f cd A outer s H E) [] (start N vs) H s1 := by
  have hpl : ps.length ≤ N.length := by have := congrArg List.length S.pre; rw [List.length_take] at this; omega
  obtain ⟨h1, tk, rfl, hk⟩ := x.done
  have noA : ∀ b : Addr, b ∉ (cxOf CX P w K mg base N qual scope f cd A outer s H E).ex := fun b z => absurd (show b ∈ ([] : List Addr) from z) (by simp)
  refine ⟨⟨e0.mod, S.kind, rfl, rfl, Nat.le_refl _, fun y z c h1 h2 => ?_, fun y hy => ?_, fun y c _ h => ?_, fun _ => hd, Around.frames_deeper e0.frames, .inr ⟨rfl, rfl⟩, fun b z => absurd z (noA b), e0.bs, e0.bsz, fun b _ _ => noA b, fun b z => absurd z (noA b), e0.funs, e0.frf⟩,
    rfl, e0.bare, Un.kept hk, ⟨_, x.toInCall.ns, fun i y v h1 h2 h3 => ?_⟩, fun y c h => ⟨_, x.cell y c h⟩, e0.hok.fresh (Nat.le_refl _), fun y c h => ?_, fun p hp => absurd (show p ∈ ([] : List (Addr × Obj)) from hp) (by simp), e0.hok.kept hk, ?_⟩
  · exact name_of_addr x.apart (PySem.mem_of_lookup h1) (PySem.mem_of_lookup h2)
  · have hy : scope.names.lookup y = some .cell ∨ scope.names.lookup y = some .free := hy
    rcases hy with hy | hy
    · exact cell_has hy
    · exact absurd rfl (S.nofree _ (PySem.mem_of_lookup hy))
  · exact Nat.le_of_lt (x.above y c (PySem.mem_of_lookup h))
  · have hi : i < vs.length := by
      unfold start at h2
      by_cases hi : i < vs.length
      · exact hi
      · rw [List.getElem?_append_right (by simpa using hi)] at h2
        rw [List.getElem?_replicate] at h2
        split at h2 <;> cases h2
    have ha : vs[i]? = some v := by
      unfold start at h2
      rw [List.getElem?_append_left (by simpa using hi), List.getElem?_map] at h2
      cases e : vs[i]? with
      | none => rw [e] at h2; cases h2
      | some a => rw [e] at h2; cases h2; rfl
    obtain ⟨u, hu, rv⟩ := r.get ha
    have hp : ps[i]? = some y := by
      rw [← S.pre, List.getElem?_take_of_lt (by omega)]; exact h1
    have ndP : ps.Nodup := by rw [← S.pre]; exact S.nd.sublist (List.take_sublist _ _)
    refine ⟨u, rv, ?_⟩
    rcases S.par y (List.mem_of_getElem? hp) with k | k
    · exact .inl ⟨k, bindL_get ndP hp hu k⟩
    · obtain ⟨c, e⟩ := cell_has (n := s.heap.objs.size + 1) k
      refine .inr ⟨.inl k, c, e, ?_⟩
      have q := x.cell y c e
      rw [bindC_get ndP hp hu (by show scope.names.lookup y ≠ _; rw [k]; decide)] at q
      exact q
  · exact e0.hok.fresh (Nat.le_of_lt (x.above y c (PySem.mem_of_lookup h)))
  · unfold start
    show _ = N.length
    rw [List.length_append, List.length_map, List.length_replicate]
    omega

theorem fn_of {CX : CXT} {P : Program} {w : World} {K : PySem.W.Frag} {mg : Str → Option Value} {base : Heap} {k : Nat} {f : Addr} {name qual : Str} {params : Arguments} {body : List Stmt} {scope : Scope} {dV kV doc pm cdv ct oc : Value} {an od : Option Addr}
    {osl : Array (Option Value)} {N ps : List Str} {sp : Sp} (lk : K.lookup f = some ⟨oc, od, .func (PySem.W.fnOf name qual params body scope dV kV doc pm an cdv ct), osl⟩) (hcd : PySem.W.codeIn K cdv qual = true) (S : FnScope N ps scope)
    (len : ∀ vs H Q E, sp vs H Q E → vs.length = ps.length)
    (hbody : ∀ (A : Around) (outer : List Env) (s : Shared) (H : Hp) (vs : List V) (Q : VK) (E : XK), Room k (A.deeper (envOfC qual scope s.heap.objs.size f cdv)) → sp vs H Q E →
      ∃ t, PSs (cxOf CX P w K mg base N qual scope f cdv A outer s H E) body t ∧ t { nx := fun _ H' => Q .non H', rt := Q } (start N vs) H) :
    FnOk P w K mg base CX (k + 1) f (PySem.W.fnOf name qual params body scope dV kV doc pm an cdv ct) ps sp := by
  refine ⟨len, fun A outer s H args us vs Q E hr e0 hb r hsp => ?_⟩
  have hl := len _ _ _ _ hsp
  have KX : K.In s.heap := e0.mod.kin.keeps fun b o e => (e0.bs b o e).1
  have lim : s.heap.NoLimit := e0.mod.nolimit.keeps fun b o e => (e0.bs b o e).1
  have hkind : ∀ y ∈ ps.zip us, scope.names.lookup y.1 = some .local ∨ (scope.names.lookup y.1 = some .cell ∧ ((cellsFrom (s.heap.objs.size + 1) scope.names []).lookup y.1).isSome = true) := fun ⟨n, v⟩ hy => by
    rcases S.par n (List.of_mem_zip hy).1 with q | q
    · exact .inl q
    · exact .inr ⟨q, PySem.W.cellsFrom_some _ _ _ (.inl q)⟩
  refine codeAny_call_function hr.depth (KX _ _ lk) rfl S.co S.gen rfl (PySem.W.codeRec_of KX hcd) (hb _ _ _ _ ?_)
  refine wpAny_newFunctionEnv_cells S.kind hkind fun env he s1 x => ?_
  subst he
  refine ⟨lim.keeps x.toInCall.keep, codeAny_func ?_⟩
  obtain ⟨t, ht, hq⟩ := hbody A outer s H vs Q E (hr.deeper _) hsp
  have I : Inv (cxOf CX P w K mg base N qual scope f cdv A outer s H E) [] (start N vs) H s1 := inv_start S hr.hd e0 hl r x
  refine wpAny_mono (ht [] s1 (start N vs) H _ I hq) (fun fl s' hs => ?_) fun e s' hs => hs
  have fin : ∀ {σ' : St} {H' : Hp} {v : V} {u : Value}, Inv (cxOf CX P w K mg base N qual scope f cdv A outer s H E) [] σ' H' s' → RelV v u → Q v H' → CE outer P w H s Q u s' :=
    fun {σ' H' v u} J rv q => ⟨v, H', J.os, J.bare, J.base, J.hok, rv, q⟩
  cases fl with
  | ret u =>
    obtain ⟨v, σ', H', J, rv, q⟩ := hs
    exact fin J rv q
  | next =>
    obtain ⟨σ', H', J, q⟩ := hs
    exact fin (v := V.non) (u := Value.none) J rfl q
  | brk =>
    obtain ⟨_, _, _, q⟩ := hs
    exact False.elim q
  | cont =>
    obtain ⟨_, _, _, q⟩ := hs
    exact False.elim q
end L2

namespace L2
open PySem PySem.Spec PyProof.Rows
section
variable {X : Cx} {x : Str} {p pos : Pos} {e : Expr} {es : List Expr} {t : TA} {id T : String} {r : List V → Hp → VK → Prop}

def tCB (r : List V → Hp → VK → Prop) (t : TA) : TE := fun σ H Q => t σ H fun vs H1 => r vs H1 Q
theorem pe_callB (hc : CallR X (.builtin id) r) (hg : Gl X x) (hm : X.mg x = none) (hv : bootBuiltins x = some (.builtin id)) (ha : PA X (e :: es) t) (hn : x ≠ "__name__" := by decide) (hdb : (x == ("__debug__" : Str)) = false := by decide)
    (he : starEach (e :: es) X.env = (false, eval e X.env) :: starEach es X.env := by rfl) (hpl : (backTo pos (starEach es X.env)).any (·.1) = false := by rfl) : PE X (.Call (.Name x p) (e :: es) [] pos) (tCB r t) := by
  intro pins s σ H Q I h
  refine wpAny_Call_Name_kw (ld_blt I hg hm hv ?_ hn hdb)
  exact PyProof.Rows.callWith_builtin1 (thn (ha pos pins s σ H _ I h) fun us s1 ⟨vs, H1, I1, r1, q1⟩ => hc pins s1 σ H1 vs us Q I1 r1 q1) he hpl
theorem pe_callTy (hc : CallR X (.type T) r) (hg : Gl X x) (hm : X.mg x = none) (hv : bootBuiltins x = some (.type T)) (ha : PA X (e :: es) t) (hn : x ≠ "__name__" := by decide) (hdb : (x == ("__debug__" : Str)) = false := by decide)
    (he : starEach (e :: es) X.env = (false, eval e X.env) :: starEach es X.env := by rfl) (hpl : (backTo pos (starEach es X.env)).any (·.1) = false := by rfl) : PE X (.Call (.Name x p) (e :: es) [] pos) (tCB r t) := by
  intro pins s σ H Q I h
  refine wpAny_Call_Name_kw (ld_blt I hg hm hv ?_ hn hdb)
  exact PyProof.Rows.callWith_type1 (thn (ha pos pins s σ H _ I h) fun us s1 ⟨vs, H1, I1, r1, q1⟩ => hc pins s1 σ H1 vs us Q I1 r1 q1) he hpl
end
end L2

namespace HT
open PySem PyProof.Rows

section
open PySem.SeqAt
open PySem.AutoSeq1 (wpAny_loadPart')
open PySem.MeetsSeq PySem.MeetsSeq2 PySem.MeetsSeq3

end

section
variable {prog : Program} {w : World} {A : Around} {E : Value → Shared → Prop} {s : Shared}

def sIx (n d : Nat) : Option Int → Nat
  | none => d
  | some v => if v < 0 then (v + (n : Int)).toNat else min v.toNat n
end
end HT

namespace L2
open PySem PySem.Spec PyProof.Rows

abbrev TO := St → Hp → (Option Int → Hp → Prop) → Prop
def PO (X : Cx) (e : Option Expr) (t : TO) : Prop :=
  ∀ (pins : List (Addr × Obj)) (s : Shared) (σ : St) (H : Hp) (Q : Option Int → Hp → Prop), Inv X pins σ H s → t σ H Q →
    wpAny (model X.prog X.w) X.A (evalPart e X.env) (fun u s' => ∃ o H', Inv X pins σ H' s' ∧ IsPart u o ∧ Q o H') X.xe s
def tNoPart : TO := fun _ H Q => Q none H
def tPart (t : TE) : TO := fun σ H Q => t σ H fun x H1 => ∃ i, x = .int i ∧ Q (some i) H1

section
variable {X : Cx} {e : Expr} {te : TE} {lo hi : Option Expr} {tl th : TO} {pos p2 : Pos}

theorem po_none : PO X none tNoPart := by
  intro pins s σ H Q I h
  rw [evalPart_none]
  exact wpAny_pure ⟨none, H, I, .none, h⟩
theorem po_some (h : PE X e te) : PO X (some e) (tPart te) := by
  intro pins s σ H Q I hw
  rw [evalPart_some]
  refine thn (h pins s σ H _ I hw) fun u s1 ⟨x, H1, I1, r1, q1⟩ => ?_
  obtain ⟨i, rfl, q⟩ := q1
  obtain ⟨t, rfl⟩ := r1
  exact ⟨some i, H1, I1, .int i t, q⟩

def SlR (X : Cx) (r : V → Option Int → Option Int → Hp → VK → Prop) : Prop :=
  ∀ (pins : List (Addr × Obj)) (s : Shared) (σ : St) (H : Hp) (x : V) (v vl vu : Value) (lo hi : Option Int) (sl : Addr) (Q : VK), Inv X pins σ H s → RelV x v → s.heap.IsSliceOf sl vl vu .none → IsPart vl lo → IsPart vu hi → r x lo hi H Q →
    ∃ T id, typeLookup (.type T) "__getitem__" = pure (some (.builtin id)) ∧ s.TypeIs v T ∧ wpAny (model X.prog X.w) X.A (getItem v (.ref sl)) (EP X pins σ Q) X.xe s
def tSl (r : V → Option Int → Option Int → Hp → VK → Prop) (te : TE) (tl th : TO) : TE := fun σ H Q => te σ H fun x H1 => tl σ H1 fun l H2 => th σ H2 fun u H3 => r x l u H3 Q
theorem pe_slice {r : V → Option Int → Option Int → Hp → VK → Prop} (hr : SlR X r) (he : PE X e te) (hl : PO X lo tl) (hu : PO X hi th) : PE X (.Subscript e (.Slice lo hi none p2) pos) (tSl r te tl th) := by
  intro pins s σ H Q I h
  refine Subscript_ (thn (he pins s σ H _ I h) fun v s1 ⟨x, H1, I1, r1, q1⟩ => ?_)
  refine wpAny_Slice (thn (hl pins s1 σ H1 _ I1 q1) fun vl s2 ⟨l, H2, I2, pl, q2⟩ => thn (hu pins s2 σ H2 _ I2 q2) fun vu s3 ⟨u, H3, I3, pu, q3⟩ => ?_)
  rw [evalPart_none]
  refine wpAny_pure ?_
  have I4 : Inv X pins σ H3 { s3 with heap := s3.heap.push { cls := .type "slice", data := .fields #[vl, vu, .none] } } := I3.kept (t' := s3.toks) fun b ob q => Heap.get?_push_of_some _ q
  obtain ⟨T, id, hT, ht, hg⟩ := hr pins { s3 with heap := s3.heap.push { cls := .type "slice", data := .fields #[vl, vu, .none] } } σ H3 x v vl vu l u s3.heap.objs.size Q I4 r1 (Heap.IsSliceOf.new ..) pl pu q3
  show wpAny (model X.prog X.w) X.A (subscriptTail e (.Slice lo hi none p2) v (.ref s3.heap.objs.size)) (EP X pins σ Q) X.xe { s3 with heap := s3.heap.push { cls := .type "slice", data := .fields #[vl, vu, .none] } }
  exact tail_any (ops := [.ref s3.heap.objs.size, v]) ht hT hg (by with_unfolding_all rfl)

def cutV (xs : List V) (lo hi : Option Int) : List V := (xs.drop (HT.sIx xs.length 0 lo)).take (HT.sIx xs.length xs.length hi - HT.sIx xs.length 0 lo)
theorem cutV_length (xs : List V) (lo hi : Option Int) : (cutV xs lo hi).length ≤ xs.length := by
  unfold cutV
  exact Nat.le_trans (List.length_take_le' _ _) (by rw [List.length_drop]; exact Nat.sub_le _ _)
end
end L2

namespace L2
open PySem PySem.Spec PyProof.Rows

def ixN (n : Nat) (i : Int) : Option Nat := if 0 ≤ i then (if i < n then some i.toNat else none) else if -(n : Int) ≤ i then some (i + n).toNat else none
def atI {α : Type} (xs : List α) (i : Int) : Option α := (ixN xs.length i).bind fun j => xs[j]?
theorem ixN_seq {n : Nat} {i : Int} {j : Nat} (h : ixN n i = some j) : seqIndex? i n = some j ∧ j < n ∧ -(n : Int) ≤ i ∧ i < n := by
  unfold ixN at h
  by_cases h0 : 0 ≤ i
  · rw [if_pos h0] at h
    by_cases h1 : i < n
    · rw [if_pos h1] at h
      have e : i.toNat = j := Option.some.inj h
      exact ⟨by rw [seqIndex_of h0 h1, e], by omega, by omega, h1⟩
    · rw [if_neg h1] at h; cases h
  · rw [if_neg h0] at h
    by_cases h1 : -(n : Int) ≤ i
    · rw [if_pos h1] at h
      have e : (i + n).toNat = j := Option.some.inj h
      exact ⟨by rw [seqIndex_neg (by omega) h1, e], by omega, h1, by omega⟩
    · rw [if_neg h1] at h; cases h
theorem atI_get {α : Type} {xs : List α} {i : Int} {v : α} (h : atI xs i = some v) : ∃ j, seqIndex? i xs.length = some j ∧ xs[j]? = some v ∧ j < xs.length ∧ -(xs.length : Int) ≤ i ∧ i < xs.length := by
  unfold atI at h
  cases e : ixN xs.length i with
  | none => rw [e] at h; cases h
  | some j =>
    rw [e] at h
    obtain ⟨h1, h2, h3, h4⟩ := ixN_seq e
    exact ⟨j, h1, h, h2, h3, h4⟩
theorem atI_nat {α : Type} {xs : List α} {j : Nat} {v : α} (h : xs[j]? = some v) : atI xs (j : Int) = some v := by
  have hj : j < xs.length := (List.getElem?_eq_some_iff.mp h).1
  have e : ixN xs.length (j : Int) = some j := by
    unfold ixN
    rw [if_pos (by omega), if_pos (by omega)]; simp
  unfold atI; rw [e]; exact h
theorem atI_last {α : Type} (xs : List α) (v : α) : atI (xs ++ [v]) (-1) = some v := by
  have hl : (xs ++ [v]).length = xs.length + 1 := by simp
  have e : ixN (xs ++ [v]).length (-1) = some xs.length := by
    unfold ixN
    rw [hl, if_neg (by decide), if_pos (by omega)]
    congr 1
    omega
  unfold atI
  rw [e]
  show (xs ++ [v])[xs.length]? = some v
  simp

def PlainIx (b : Expr) : Prop := ∀ o i, subscripted b false o i = operate [o, i] (getItem o i)
def IxR (X : Cx) (r : R2) : Prop :=
  ∀ (value slice : Expr) (pins : List (Addr × Obj)) (s : Shared) (σ : St) (H : Hp) (x y : V) (v u : Value) (Q : VK), Inv X pins σ H s → RelV x v → RelV y u → r x y H Q →
    subscripted slice false v u = operate [v, u] (getItem v u) → wpAny (model X.prog X.w) X.A (subscriptTail value slice v u) (EP X pins σ Q) X.xe s
def MtR (X : Cx) (id : String) (r : V → List V → Hp → VK → Prop) : Prop :=
  ∀ (pins : List (Addr × Obj)) (s : Shared) (σ : St) (H : Hp) (x : V) (xs : List V) (v : Value) (us : List Value) (Q : VK), Inv X pins σ H s → RelV x v → Vals xs us → r x xs H Q →
    wpAny (model X.prog X.w) X.A (call (.builtin id) (v :: us)) (EP X pins σ Q) X.xe s
section
variable {X : Cx} {a b : Expr} {ta tb : TE} {pos : Pos}
theorem pe_ix {r : R2} (hr : IxR X r) (ha : PE X a ta) (hb : PE X b tb) (hs : PlainIx b) : PE X (.Subscript a b pos) (tOp r ta tb) := by
  intro pins s σ H Q I h
  exact Subscript_ (binT ha hb I h fun v u s2 x y H2 I2 rx ry q => hr a b pins s2 σ H2 x y v u Q I2 rx ry q (hs _ _))

def rIxL (K : PySem.W.Frag) : R2 := fun x y H Q => ∃ p xs i v, x = .ref p ∧ y = .int i ∧ SqL K H p xs ∧ atI xs i = some v ∧ Q v H
def rIxT (K : PySem.W.Frag) : R2 := fun x y H Q => ∃ p xs i v, x = .ref p ∧ y = .int i ∧ SqT K H p xs ∧ atI xs i = some v ∧ Q v H
theorem ix_list : IxR X (rIxL X.K) := by
  intro value slice pins s σ H x y v u Q I rx ry h hs
  obtain ⟨p, xs, i, z, rfl, rfl, hq, he, q⟩ := h
  cases rx
  obtain ⟨t, rfl⟩ := ry
  obtain ⟨its, r, pl, hz⟩ := I.list hq
  obtain ⟨j, h1, h2, h3, h4, h5⟩ := atI_get he
  obtain ⟨w, ew, rw'⟩ := r.get h2
  have hl := r.length
  have hn := line63
  have fin : EP X pins σ Q w s := ⟨z, H, I, rw', q⟩
  by_cases h0 : 0 ≤ i
  · have hj : i.toNat = j := by
      rw [seqIndex_of h0 h5] at h1
      exact Option.some.inj h1
    exact item_listR pl.isList h0 (by omega) (by rw [hj]; simpa using ew) fin hs
  · have hj : (i + (its.toArray.size : Int)).toNat = j := by
      rw [seqIndex_neg (by omega) h4] at h1
      rw [List.size_toArray, ← hl]
      exact Option.some.inj h1
    exact subscriptTail_builtinR (x := w) pl.isList.typeIs slot_list_getitem.lookup
      (wpAny_getItem_list_neg (Q := fun r s' => r = w ∧ EP X pins σ Q r s') pl.isList (by omega) (by rw [List.size_toArray] <;> omega) (by omega) (by rw [hj]; simpa using ew) ⟨rfl, fin⟩) hs
theorem ix_tup : IxR X (rIxT X.K) := by
  intro value slice pins s σ H x y v u Q I rx ry h hs
  obtain ⟨p, xs, i, z, rfl, rfl, hq, he, q⟩ := h
  cases rx
  obtain ⟨t, rfl⟩ := ry
  obtain ⟨its, r, pl, hz⟩ := I.tuple hq
  obtain ⟨j, h1, h2, h3, h4, h5⟩ := atI_get he
  obtain ⟨w, ew, rw'⟩ := r.get h2
  have hl := r.length
  have hn := line63
  have fin : EP X pins σ Q w s := ⟨z, H, I, rw', q⟩
  exact subscriptTail_builtinR (x := w) pl.typeIs slot_tuple_getitem.lookup
    (getItem_tuple (j := j) (Q := fun r s' => r = w ∧ EP X pins σ Q r s') pl (by omega) (by omega) (by rw [List.size_toArray, ← hl]; exact h1) (by simpa using ew) ⟨rfl, fin⟩) hs
theorem mapSeq_set (its : List Value) (n j : Nat) (u : Value) : Obj.mapSeq (·.setIfInBounds j u) { cls := .type "list", data := .seq its.toArray n } = { cls := .type "list", data := .seq (its.set j u).toArray n } := by
  simp [Obj.mapSeq]
theorem Inv.lst {pins : List (Addr × Obj)} {σ : St} {H : Hp} {s : Shared} {p : Addr} {xs : List V} (I : Inv X pins σ H s) (h : H p = some (.lst xs)) :
    ∃ (its : List Value) (n : Nat), Vals xs its ∧ s.heap.get? p = some { cls := .type "list", data := .seq its.toArray n } ∧ xs.length ≤ sizeLine := by
  obtain ⟨z, its, n, r, e⟩ := I.hok p _ h
  exact ⟨its, n, r, e, z⟩
theorem Inv.lstUpd {pins : List (Addr × Obj)} {σ : St} {H : Hp} {s : Shared} {p : Addr} {xs ys : List V} {its its' : List Value} {n n' : Nat} {f : Obj → Obj} (I : Inv X pins σ H s) (h : H p = some (.lst xs))
    (ho : s.heap.get? p = some { cls := .type "list", data := .seq its.toArray n }) (hf : f { cls := .type "list", data := .seq its.toArray n } = { cls := .type "list", data := .seq its'.toArray n' }) (r : Vals ys its') (hz : ys.length ≤ sizeLine) (t : Nat) :
    Inv X pins σ (upd H p (.lst ys)) { s with heap := s.heap.update p f, toks := t } := by
  have e : (s.heap.update p f).get? p = some { cls := .type "list", data := .seq its'.toArray n' } := by
    rw [Heap.get?_update_self f ho (by rw [hf] <;> rfl), hf]
  refine I.write (x := p) (e := p) (by rw [h]; trivial) (.inl rfl) (fun b u hb q => (Heap.get?_update_other _ _ (Ne.symm hb)).trans q) ⟨_, e⟩ ?_
  exact ⟨hz, its', n', r, e⟩
def rSetL : V → V → V → Hp → (Hp → Prop) → Prop := fun o i v H Q => ∃ p xs k j, o = .ref p ∧ i = .int k ∧ H p = some (.lst xs) ∧ ixN xs.length k = some j ∧ Q (upd H p (.lst (xs.set j v)))
theorem set_list : PSet X rSetL := by
  intro pins s σ H o i v ov iv u Q I ro ri rv h
  obtain ⟨p, xs, k, j, rfl, rfl, hp, hj, q⟩ := h
  cases ro
  obtain ⟨t, rfl⟩ := ri
  obtain ⟨its, n, r, ho, hz⟩ := I.lst hp
  obtain ⟨h1, h2, h3, h4⟩ := ixN_seq hj
  have hl := r.length
  have hn := line63
  have I' : Inv X pins σ (upd H p (.lst (xs.set j v))) { s with heap := s.heap.update p (Obj.mapSeq (·.setIfInBounds j u)) } :=
    I.lstUpd hp ho (mapSeq_set its n j u) (r.set rv j) (by rw [List.length_set]; exact hz) s.toks
  by_cases h0 : 0 ≤ k
  · have hk : k.toNat = j := by
      rw [seqIndex_of h0 h4] at h1
      exact Option.some.inj h1
    exact PySem.W.ki_setAt ho h0 (by omega) (by rw [List.size_toArray, ← hl]; exact h4) (by rw [hk]; exact ⟨_, I', q⟩)
  · have hk : (k + (its.toArray.size : Int)).toNat = j := by
      rw [seqIndex_neg (by omega) h3] at h1
      rw [List.size_toArray, ← hl]
      exact Option.some.inj h1
    exact PySem.W.ki_setBack ho (by omega) (by rw [List.size_toArray, ← hl]; exact h3) (by omega) (by rw [hk]; exact ⟨_, I', q⟩)

theorem sbA (lo hi : Option Int) (n : Nat) : (sliceBounds lo hi none n).1 = ((HT.sIx n 0 lo : Nat) : Int) := by
  cases lo with
  | none => simp [sliceBounds, HT.sIx]
  | some i =>
    simp only [sliceBounds, HT.sIx, Option.getD_none, show (1 : Int) > 0 by decide, if_true]
    by_cases h : i < 0
    · simp only [h, if_true] <;> omega
    · simp only [h, if_false] <;> omega
theorem slice_bounds (lo hi : Option Int) (n : Nat) : (sliceBounds lo hi none n).1 = ((HT.sIx n 0 lo : Nat) : Int) ∧ (sliceBounds lo hi none n).2.1 = ((HT.sIx n n hi : Nat) : Int) ∧ (sliceBounds lo hi none n).2.2 = 1 := by
  refine ⟨sbA lo hi n, ?_, rfl⟩
  cases hi with
  | none => simp [sliceBounds, HT.sIx]
  | some i => exact sbA (some i) lo n
theorem slicePick_cut (its : List Value) (lo hi : Option Int) : slicePick its.toArray lo hi none = ((its.drop (HT.sIx its.length 0 lo)).take (HT.sIx its.length its.length hi - HT.sIx its.length 0 lo)).toArray := by
  obtain ⟨h1, h2, h3⟩ := slice_bounds lo hi its.toArray.size
  unfold slicePick
  rw [h1, h2, h3]
  simp only [sliceRange_one, pick_run, List.size_toArray] <;> rfl
def rSlL (K : PySem.W.Frag) : V → Option Int → Option Int → Hp → VK → Prop := fun x lo hi H Q => ∃ a xs, x = .ref a ∧ SqL K H a xs ∧ ∀ p, H p = none → Q (.ref p) (upd H p (.lst (cutV xs lo hi)))
theorem sl_list : SlR X (rSlL X.K) := by
  intro pins s σ H x v vl vu lo hi sl Q I rx hs pl pu h
  obtain ⟨a, xs, rfl, hx, q⟩ := h
  cases rx
  obtain ⟨its, r, ht, hz⟩ := I.list hx
  have hlen := r.length
  refine ⟨"list", _, slot_list_getitem.lookup, ht.isList.typeIs, ?_⟩
  refine wpAny_getItem_list_slice ht.isList hs pl pu .none (by simp) ?_ (by rw [List.size_toArray] <;> omega)
  rw [slicePick_cut, ← hlen]
  refine ⟨.ref s.heap.objs.size, _, I.laid (t' := s.toks) (o := .lst (cutV xs lo hi)) (fun b ob q => Heap.get?_push_of_some _ q) (Nat.le_refl _) ?_, rfl, q _ (I.hok.fresh (Nat.le_refl _))⟩
  exact ⟨Nat.le_trans (cutV_length xs lo hi) hz, _, 0, (r.drop (HT.sIx xs.length 0 lo)).take (HT.sIx xs.length xs.length hi - HT.sIx xs.length 0 lo), Heap.get?_push_size _ rfl⟩

def flatV : V → Bool
  | .non => true
  | .bl _ => true
  | .int _ => true
  | .str _ => true
  | _ => false
def eqV : V → V → Bool
  | .non, .non => true
  | .bl a, .bl b => a == b
  | .bl a, .int b => (if a then 1 else 0) == b
  | .int a, .bl b => a == (if b then 1 else 0)
  | .int a, .int b => a == b
  | .str a, .str b => a == b
  | _, _ => false
theorem eqAt_V {A : Around} {s : Shared} {y x : V} {u v : Value} (ry : RelV y u) (rx : RelV x v) (fy : flatV y = true) (fx : flatV x = true) : SeqAt.EqAt A s u v (eqV y x) := by
  cases y with
  | non =>
    cases ry
    cases x with
    | non => cases rx; exact SeqAt.EqAt.same _
    | bl b => cases rx; exact SeqAt.EqAt.none_bool b
    | int b => obtain ⟨t, rfl⟩ := rx; exact SeqAt.EqAt.none_int b t
    | str b => obtain ⟨t, rfl⟩ := rx; exact SeqAt.EqAt.none_str b t
    | _ => exact absurd (show false = true from fx) Bool.false_ne_true
  | bl a =>
    cases ry
    cases x with
    | non => cases rx; exact SeqAt.EqAt.bool_none a
    | bl b => cases rx; exact SeqAt.EqAt.bool_bool a b
    | int b => obtain ⟨t, rfl⟩ := rx; exact SeqAt.EqAt.bool_int a b t
    | str b => obtain ⟨t, rfl⟩ := rx; exact SeqAt.EqAt.bool_str a b t
    | _ => exact absurd (show false = true from fx) Bool.false_ne_true
  | int a =>
    obtain ⟨t', rfl⟩ := ry
    cases x with
    | non => cases rx; exact SeqAt.EqAt.int_none a t'
    | bl b => cases rx; exact SeqAt.EqAt.int_bool a t' b
    | int b => obtain ⟨t, rfl⟩ := rx; exact SeqAt.EqAt.int_int a t' b t
    | str b => obtain ⟨t, rfl⟩ := rx; exact SeqAt.EqAt.int_str a t' b t
    | _ => exact absurd (show false = true from fx) Bool.false_ne_true
  | str a =>
    obtain ⟨t', rfl⟩ := ry
    cases x with
    | non => cases rx; exact SeqAt.EqAt.str_none a t'
    | bl b => cases rx; exact SeqAt.EqAt.str_bool a t' b
    | int b => obtain ⟨t, rfl⟩ := rx; exact SeqAt.EqAt.str_int a t' b t
    | str b => obtain ⟨t, rfl⟩ := rx; exact SeqAt.EqAt.str_str a t' b t
    | _ => exact absurd (show false = true from fx) Bool.false_ne_true
  | _ => exact absurd (show false = true from fy) Bool.false_ne_true
def eqU (x : V) (u : Value) : Bool := match u with
  | .none => eqV .non x
  | .bool b => eqV (.bl b) x
  | .int i _ => eqV (.int i) x
  | .str z _ => eqV (.str z) x
  | _ => false
theorem eqU_of {x y : V} {u : Value} (r : RelV y u) (f : flatV y = true) : eqU x u = eqV y x := by
  cases y with
  | non => cases r; rfl
  | bl b => cases r; rfl
  | int i => obtain ⟨t, rfl⟩ := r; rfl
  | str z => obtain ⟨t, rfl⟩ := r; rfl
  | _ => exact absurd (show false = true from f) Bool.false_ne_true
theorem any_eqU {x : V} : ∀ {xs : List V} {us : List Value}, Vals xs us → xs.all flatV = true → us.any (eqU x) = xs.any fun y => eqV y x
  | _, _, .nil, _ => rfl
  | y :: xs, u :: us, .cons r t, f => by
    rw [List.all_cons, Bool.and_eq_true] at f
    rw [List.any_cons, List.any_cons, eqU_of r f.1, any_eqU t f.2]
theorem mem_eqAt {A : Around} {s : Shared} {x : V} {v : Value} (rx : RelV x v) (fx : flatV x = true) : ∀ {xs : List V} {us : List Value}, Vals xs us → xs.all flatV = true → ∀ u ∈ us, SeqAt.EqAt A s u v (eqU x u)
  | _, _, .nil, _ => fun u hu => by cases hu
  | y :: xs, u :: us, .cons r t, f => fun u' hu => by
    rw [List.all_cons, Bool.and_eq_true] at f
    rcases List.mem_cons.mp hu with rfl | hu
    · rw [eqU_of r f.1]; exact eqAt_V r rx f.1 fx
    · exact mem_eqAt rx fx t f.2 u' hu
def inV (x : V) (xs : List V) : Bool := xs.any fun y => eqV y x
def rIn (K : PySem.W.Frag) (neg : Bool) : R2 := fun x y H Q => ∃ p xs, y = .ref p ∧ (SqL K H p xs ∨ SqT K H p xs) ∧ flatV x = true ∧ xs.all flatV = true ∧ Q (.bl (if neg then !inV x xs else inV x xs)) H
theorem op_in_seq : OpR X (compareOp .In) (rIn X.K false) := by
  intro pins s σ H x y v u Q I rx ry h
  obtain ⟨p, xs, rfl, hq, fx, fs, q⟩ := h
  cases ry
  rcases hq with hq | hq
  · obtain ⟨its, r, pl, hz⟩ := I.list hq
    refine SeqAt.in_listAt (eqU x) pl.isList (fun w hw => mem_eqAt rx fx r fs w (by simpa using hw)) ⟨.bl _, H, I, rfl, ?_⟩
    rw [show its.toArray.any (eqU x) = its.any (eqU x) by simp, any_eqU r fs]
    exact q
  · obtain ⟨its, r, pl, hz⟩ := I.tuple hq
    refine SeqAt.in_tupleAt (eqU x) pl (fun w hw => mem_eqAt rx fx r fs w (by simpa using hw)) ⟨.bl _, H, I, rfl, ?_⟩
    rw [show its.toArray.any (eqU x) = its.any (eqU x) by simp, any_eqU r fs]
    exact q
theorem op_notIn_seq : OpR X (compareOp .NotIn) (rIn X.K true) := by
  intro pins s σ H x y v u Q I rx ry h
  obtain ⟨p, xs, rfl, hq, fx, fs, q⟩ := h
  cases ry
  rcases hq with hq | hq
  · obtain ⟨its, r, pl, hz⟩ := I.list hq
    refine SeqAt.notIn_listAt (eqU x) pl.isList (fun w hw => mem_eqAt rx fx r fs w (by simpa using hw)) ⟨.bl _, H, I, rfl, ?_⟩
    rw [show its.toArray.any (eqU x) = its.any (eqU x) by simp, any_eqU r fs]
    exact q
  · obtain ⟨its, r, pl, hz⟩ := I.tuple hq
    refine SeqAt.notIn_tupleAt (eqU x) pl (fun w hw => mem_eqAt rx fx r fs w (by simpa using hw)) ⟨.bl _, H, I, rfl, ?_⟩
    rw [show its.toArray.any (eqU x) = its.any (eqU x) by simp, any_eqU r fs]
    exact q
theorem call_len_seq : CallR X (.builtin "len") (fun xs H Q => ∃ p ys, xs = [.ref p] ∧ (SqL X.K H p ys ∨ SqT X.K H p ys) ∧ Q (.int ys.length) H) := by
  intro pins s σ H xs us Q I r h
  obtain ⟨p, ys, rfl, hq, q⟩ := h
  obtain ⟨u, rfl, rx⟩ := vals1 r
  cases rx
  have hn := line63
  rcases hq with hq | hq
  · obtain ⟨its, r', pl, hz⟩ := I.list hq
    have hlen := r'.length
    exact Calls.call_len_list pl.isList (by simp only [List.size_toArray] <;> omega) ⟨.int ys.length, H, I.tok _, ⟨s.toks + 1, by rw [List.size_toArray, hlen]⟩, q⟩
  · obtain ⟨its, r', pl, hz⟩ := I.tuple hq
    have hlen := r'.length
    exact len_tuple pl (by simp only [List.size_toArray] <;> omega) ⟨.int ys.length, H, I.tok _, ⟨s.toks + 1, by rw [List.size_toArray, hlen]⟩, q⟩
theorem call_list_of : CallR X (.type "list") (fun xs H Q => ∃ p ys, xs = [.ref p] ∧ (SqL X.K H p ys ∨ SqT X.K H p ys) ∧ ∀ l, H l = none → Q (.ref l) (upd H l (.lst ys))) := by
  intro pins s σ H xs us Q I r h
  obtain ⟨p, ys, rfl, hq, q⟩ := h
  obtain ⟨u, rfl, rx⟩ := vals1 r
  cases rx
  have fin : ∀ (its : List Value), Vals ys its → ys.length ≤ sizeLine → ∀ (h' : Heap) (c' : Nat), (∀ b o', s.heap.get? b = some o' → h'.get? b = some o') →
      h'.get? s.heap.objs.size = some { cls := .type "list", dict := none, data := .seq its.toArray c', slots := #[] } → EP X pins σ Q (.ref s.heap.objs.size) { s with heap := h' } := fun its r' hz h' c' kp e =>
    ⟨.ref s.heap.objs.size, _, I.laid (t' := s.toks) kp (Nat.le_refl _) (show ObjOk X.prog X.w _ h' _ (.lst ys) from ⟨hz, its, c', r', e⟩), rfl, q _ (I.hok.fresh (Nat.le_refl _))⟩
  rcases hq with hq | hq
  · obtain ⟨its, r', pl, hz⟩ := I.list hq
    have hlen := r'.length
    obtain ⟨o, ho, hc, n, hd⟩ := pl.isList
    exact call_list_seq p (.inl rfl) ho hc hd (fun h' c' kp e => fin its r' hz h' c' kp e) (by simp only [List.size_toArray] <;> omega)
  · obtain ⟨its, r', pl, hz⟩ := I.tuple hq
    have hlen := r'.length
    obtain ⟨o, ho, hc, n, hd⟩ := pl
    exact call_list_seq p (.inr rfl) ho hc hd (fun h' c' kp e => fin its r' hz h' c' kp e) (by simp only [List.size_toArray] <;> omega)
theorem call_tuple_of : CallR X (.type "tuple") (fun xs H Q => ∃ p ys, xs = [.ref p] ∧ ((SqL X.K H p ys ∧ ∀ l, H l = none → Q (.ref l) (upd H l (.tup ys))) ∨ (SqT X.K H p ys ∧ Q (.ref p) H))) := by
  intro pins s σ H xs us Q I r h
  obtain ⟨p, ys, rfl, h⟩ := h
  obtain ⟨u, rfl, rx⟩ := vals1 r
  cases rx
  rcases h with ⟨hq, q⟩ | ⟨hq, q⟩
  · obtain ⟨its, r', pl, hz⟩ := I.list hq
    have hlen := r'.length
    refine call_tuple_list pl.isList (fun h' kp => ?_) (by simp only [List.size_toArray] <;> omega)
    have I1 : Inv X pins σ H { s with heap := h' } := I.kept (t' := s.toks) kp
    have I2 : Inv X pins σ (upd H h'.objs.size (.tup ys)) { s with heap := h'.push { cls := .type "tuple", data := .seq its.toArray } } :=
      I1.laid (t' := s.toks) (fun b o e => Heap.get?_push_of_some _ e) (Nat.le_refl _) (show ObjOk X.prog X.w _ _ _ (.tup ys) from ⟨hz, its, r', IsTup.new _ _⟩)
    exact ⟨.ref h'.objs.size, _, I2, rfl, q _ (I1.hok.fresh (Nat.le_refl _))⟩
  · obtain ⟨its, r', pl, hz⟩ := I.tuple hq
    exact call_tuple_same pl ⟨.ref p, H, I, rfl, q⟩

def tyV (K : PySem.W.Frag) (T : String) (x : V) (H : Hp) : Prop := match x with
  | .str _ => T = "str"
  | .int _ => T = "int"
  | .ref p => (T = "list" ∧ ∃ xs, SqL K H p xs) ∨ (T = "tuple" ∧ ∃ o, K.lookup p = some o ∧ o.cls = .type "tuple" ∧ o.dict = none) ∨
      (T = "dict" ∧ ((∃ kvs, H p = some (.dK kvs)) ∨ ∃ kvs, H p = some (.dT kvs))) ∨ (T = "set" ∧ ∃ S n, H p = some (.set S n))
  | _ => False
theorem tyV_is {pins : List (Addr × Obj)} {σ : St} {H : Hp} {s : Shared} {T : String} {x : V} {v : Value} (I : Inv X pins σ H s) (r : RelV x v) (ty : tyV X.K T x H) :
    s.TypeIs v T ∧ ∀ a, v = .ref a → ∃ ob, s.heap.get? a = some ob ∧ ob.dict = none := by
  cases x with
  | str z =>
    obtain ⟨t, rfl⟩ := r
    cases (show T = "str" from ty)
    exact ⟨typeIs_str s z t, fun _ e => nomatch e⟩
  | int i =>
    obtain ⟨t, rfl⟩ := r
    cases (show T = "int" from ty)
    exact ⟨typeIs_int s i t, fun _ e => nomatch e⟩
  | ref p =>
    cases r
    rcases ty with ⟨rfl, xs, hq⟩ | ⟨rfl, o, hk, hc, hd⟩ | ⟨rfl, hk⟩ | ⟨rfl, S, n, hk⟩
    · obtain ⟨its, _, pl, _⟩ := I.list hq
      refine ⟨pl.isList.typeIs, fun a e => ?_⟩
      cases e
      obtain ⟨o, n, e, c, hd, _⟩ := pl
      exact ⟨o, e, hd⟩
    · refine ⟨⟨o, I.kIn p o hk, hc⟩, fun a e => ?_⟩
      cases e
      exact ⟨o, I.kIn _ o hk, hd⟩
    · have z : ∃ o, s.heap.get? p = some o ∧ o.ExactDict := by
        rcases hk with ⟨kvs, hk⟩ | ⟨kvs, hk⟩
        · obtain ⟨_, _, _, _, o, _, _, e, ex, _⟩ := I.hok p _ hk
          exact ⟨o, e, ex⟩
        · obtain ⟨_, _, _, _, o, _, _, e, ex, _⟩ := I.hok p _ hk
          exact ⟨o, e, ex⟩
      obtain ⟨o, e, ex⟩ := z
      refine ⟨⟨o, e, ex.1⟩, fun a e2 => ?_⟩
      cases e2
      exact ⟨o, e, ex.2.1⟩
    · obtain ⟨o, _, _, _, e, ex, _⟩ := I.hok p _ hk
      refine ⟨⟨o, e, ex.1⟩, fun a e2 => ?_⟩
      cases e2
      exact ⟨o, e, ex.2.1⟩
  | _ => exact False.elim ty
def tBM (K : PySem.W.Frag) (T : String) (r : V → List V → Hp → VK → Prop) (to : TE) (t : TA) : TE := fun σ H Q => to σ H fun x H1 => tyV K T x H1 ∧ t σ H1 fun xs H2 => r x xs H2 Q
variable {o e : Expr} {es : List Expr} {to : TE} {t : TA} {name : Str} {apos cpos : Pos} {T id : String} {r : V → List V → Hp → VK → Prop}
theorem pe_bm (pa : PlainAttrs T) (slot : Slot T name id) (hty : typeOf (.builtin id) = pure (.type "method_descriptor")) (hm : MtR X id r) (ho : PE X o to) (ha : PA X (e :: es) t)
    (hbase : attributeBase o name X.env (eval o X.env) = eval o X.env := by rfl)
    (hfew : ((backTo cpos (starEach (e :: es) X.env)).all (fun x => !x.1) && (backToKw cpos (keywordEach [] X.env)).all (fun x => x.1.isSome)
      && decide ((e :: es).length + ([] : List Keyword).length + (if ([] : List Keyword).isEmpty then 0 else 1) < 30)) = true := by rfl)
    (hline : (apos.endLine == cpos.line) = true := by rfl) (hs : starEach (e :: es) X.env = (false, eval e X.env) :: starEach es X.env := by rfl) (hplain : (backTo cpos (starEach es X.env)).any (·.1) = false := by rfl) :
    PE X (.Call (.Attribute o name apos) (e :: es) [] cpos) (tBM X.K T r to t) := by
  intro pins s σ H Q I h
  refine wpAny_Call_method_late hbase hfew hline rfl (thn (ho pins s σ H _ I h) fun v s1 ⟨x, H1, I1, r1, ty, q1⟩ => ?_)
  obtain ⟨h1, h2⟩ := tyV_is I1 r1 ty
  refine ⟨T, id, pa, slot, hty, h1, h2, ?_⟩
  have hA := ha cpos pins s1 σ H1 _ I1 q1
  rw [hs] at hA ⊢
  refine Calls.callWith_builtin (by show (false || (backTo cpos (starEach es X.env)).any (·.1)) = false; rw [hplain] <;> rfl) (Calls.evalArgs_plain ?_)
  exact thn hA fun us s2 ⟨vs, H2, I2, r2, q2⟩ => hm pins s2 σ H2 x vs v us Q I2 r1 r2 q2
/- xs.append(e), list.index on a module's tuple .. are MtR facts of 06m -/
end
end L2

namespace L2
open PySem PySem.Spec PyProof.Rows

def MtM (X : Cx) (id : String) (r : V → List V → Hp → VK → Prop) : Prop :=
  ∀ (pins : List (Addr × Obj)) (s : Shared) (σ : St) (H : Hp) (x : V) (xs : List V) (v : Value) (us : List Value) (Q : VK), Inv X pins σ H s → RelV x v → Vals xs us → r x xs H Q →
    wpAny (model X.prog X.w) X.A (call (.builtin id) (v :: us)) (EP X pins σ Q) X.xe s

theorem Vals.one : ∀ {x : V} {us : List Value}, Vals [x] us → ∃ u, us = [u] ∧ RelV x u
  | _, _, .cons r .nil => ⟨_, rfl, r⟩
theorem Vals.rep {xs : List V} {us : List Value} (h : Vals xs us) : ∀ k : Nat, Vals (List.replicate k xs).flatten (List.replicate k us).flatten
  | 0 => .nil
  | k + 1 => by
    rw [List.replicate_succ, List.replicate_succ, List.flatten_cons, List.flatten_cons]
    exact Vals.append h (Vals.rep h k)
theorem foldl_rep (its : List Value) : ∀ (k : Nat) (acc : List Value),
    List.foldl (fun x1 x2 => x1 ++ x2) acc.toArray (List.replicate k its.toArray) = (acc ++ (List.replicate k its).flatten).toArray
  | 0, acc => by simp
  | k + 1, acc => by
    have e : acc.toArray ++ its.toArray = (acc ++ its).toArray := by simp
    have e2 : (acc ++ its) ++ (List.replicate k its).flatten = acc ++ (List.replicate (k + 1) its).flatten := by
      rw [List.replicate_succ, List.flatten_cons, List.append_assoc]
    rw [← e2, ← foldl_rep its k (acc ++ its), ← e, List.replicate_succ, List.foldl_cons]

section
variable {X : Cx} {pins : List (Addr × Obj)} {σ : St} {H : Hp} {s : Shared} {l b : Addr} {xs ys zs : List V}

theorem Inv.lset {its its' : List Value} {n : Nat} {f : Array Value → Array Value} {t' : Nat} (I : Inv X pins σ H s) (hH : H l = some (.lst xs))
    (e : s.heap.get? l = some { cls := .type "list", data := .seq its.toArray n }) (hf : f its.toArray = its'.toArray) (hv : Vals ys its') (hz : ys.length ≤ sizeLine) :
    Inv X pins σ (upd H l (.lst ys)) { s with heap := s.heap.update l (Obj.mapSeq f), toks := t' } := by
  have q := PySem.IsL.update e f
  rw [hf] at q
  refine I.write (x := l) (e := l) (by rw [hH]; exact trivial) (.inl rfl) (fun b' u hb hu => (Heap.get?_update_other s.heap (Obj.mapSeq f) (Ne.symm hb)).trans hu) ⟨_, q⟩ ?_
  exact ⟨hz, its', _, hv, q⟩
theorem Inv.lnew {its : List Value} {t' : Nat} (I : Inv X pins σ H s) (hv : Vals ys its) (hz : ys.length ≤ sizeLine) :
    Inv X pins σ (upd H s.heap.objs.size (.lst ys)) { s with heap := s.heap.push { cls := .type "list", data := .seq its.toArray }, toks := t' } :=
  I.laid (fun _ _ q => Heap.get?_push_of_some _ q) (Nat.le_refl _) ⟨hz, its, 0, hv, Heap.get?_push_size _ rfl⟩
theorem Inv.fresh (I : Inv X pins σ H s) : H s.heap.objs.size = none := I.hok.fresh (Nat.le_refl _)
theorem Inv.lstM (I : Inv X pins σ H s) (hH : H l = some (.lst xs)) : xs.length ≤ sizeLine ∧ ∃ (its : List Value) (n : Nat), Vals xs its ∧ xs.length = its.length ∧ s.heap.get? l = some { cls := .type "list", data := .seq its.toArray n } := by
  obtain ⟨z, its, n, r, e⟩ := I.hok l _ hH
  exact ⟨z, its, n, r, r.length, e⟩

theorem notLongL {n : Nat} (h : n ≤ sizeLine) : Builtin.List.listTooLong n = false := by
  unfold Builtin.List.listTooLong
  exact decide_eq_false (by omega)
end

section
variable {X : Cx}

def rAppend : V → List V → Hp → VK → Prop := fun x vs H Q => ∃ l xs y, x = .ref l ∧ vs = [y] ∧ H l = some (.lst xs) ∧ xs.length < sizeLine ∧ Q .non (upd H l (.lst (xs ++ [y])))
theorem mt_append : MtM X "list.append" rAppend := by
  intro pins s σ H x vs v us Q I rx rv h
  obtain ⟨l, xs, y, rfl, rfl, hH, hz, q⟩ := h
  cases rx
  obtain ⟨u, rfl, ru⟩ := rv.one
  obtain ⟨z, its, n, r, hl, e⟩ := I.lstM hH
  refine call_meets F.slot_list_append ⟨_, e, rfl⟩ F.entry_list_append (F.args_list_append_2 _ _) (PySem.list_append l its.toArray n u (by rw [List.size_toArray]; omega)) ⟨e, ?_⟩
  refine ⟨.non, _, I.lset (its' := its ++ [u]) hH e (by simp) (r.append (.cons ru .nil)) ?_, rfl, q⟩
  rw [List.length_append, List.length_singleton]
  omega

def rCat : R2 := fun x y H Q => ∃ l b xs zs, x = .ref l ∧ y = .ref b ∧ H l = some (.lst xs) ∧ H b = some (.lst zs) ∧ xs.length + zs.length ≤ sizeLine ∧ ∀ p, H p = none → Q (.ref p) (upd H p (.lst (xs ++ zs)))
theorem op_cat : OpR X (binaryOp .Add) rCat := by
  intro pins s σ H x y v u Q I rx ry h
  obtain ⟨l, b, xs, zs, rfl, rfl, hH, hB, hz, q⟩ := h
  cases rx
  cases ry
  obtain ⟨z, its, n, r, hl, e⟩ := I.lstM hH
  obtain ⟨z2, its2, n2, r2, hl2, e2⟩ := I.lstM hB
  refine PySem.P.add_list e e2 ?_ (by rw [List.size_toArray, List.size_toArray]; omega)
  have ea : its.toArray ++ its2.toArray = (its ++ its2).toArray := by simp
  rw [ea]
  exact ⟨.ref _, _, I.lnew (t' := s.toks) (r.append r2) (by rw [List.length_append]; omega), rfl, q _ I.fresh⟩
def rRep : R2 := fun x y H Q => ∃ l k xs, x = .ref l ∧ y = .int k ∧ H l = some (.lst xs) ∧ -(2 ^ 63) ≤ k ∧ k < 2 ^ 63 ∧ xs.length * k.toNat ≤ sizeLine ∧
  ∀ p, H p = none → Q (.ref p) (upd H p (.lst (List.replicate k.toNat xs).flatten))
theorem len_rep {α : Type} (xs : List α) (k : Nat) : (List.replicate k xs).flatten.length = k * xs.length := by
  induction k with
  | zero => simp
  | succ k ih => rw [List.replicate_succ, List.flatten_cons, List.length_append, ih, Nat.succ_mul, Nat.add_comm]
theorem op_rep : OpR X (binaryOp .Mult) rRep := by
  intro pins s σ H x y v u Q I rx ry h
  obtain ⟨l, k, xs, rfl, rfl, hH, h1, h2, hz, q⟩ := h
  cases rx
  obtain ⟨t, rfl⟩ := ry
  obtain ⟨z, its, n, r, hl, e⟩ := I.lstM hH
  have hlen : its.toArray.size * k.toNat ≤ sizeLine := by rw [List.size_toArray, ← hl]; exact hz
  have hcap : ¬ its.toArray.size * k.toNat > (2 ^ 63 - 1) / 8 := by
    have : (sizeLine : Nat) ≤ (2 ^ 63 - 1) / 8 := by decide
    omega
  have hfit : ¬ (!Builtin.List.listFitsIndex k) = true := by
    rw [fitsIndex_both h1 h2]
    exact Bool.false_ne_true
  have hlong : ¬ Builtin.List.listTooLong (its.toArray.size * k.toNat) = true := by
    rw [notLongL hlen]
    exact Bool.false_ne_true
  have hnew : List.foldl (fun x1 x2 => x1 ++ x2) #[] (List.replicate (if its.toArray.isEmpty = true then 0 else k.toNat) its.toArray) = (List.replicate k.toNat its).flatten.toArray := by
    have f0 : ∀ m : Nat, List.foldl (fun x1 x2 => x1 ++ x2) #[] (List.replicate m its.toArray) = (List.replicate m its).flatten.toArray := fun m => by
      have := foldl_rep its m []
      rw [List.nil_append] at this
      exact this
    rw [f0]
    cases its with
    | nil => simp
    | cons a r' => rw [if_neg (by simp)]
  refine wpAny_binaryOp_repeat_ref (T := "list") (U := "int") (by decide) ⟨_, e, rfl⟩ (fun s' => typeIs_int s' k t) noFill_list_mul F.fills_int_mul F.slot_int_rmul repeat_list F.slot_int_index.lookup
    (call_meets F.slot_int_rmul (typeIs_int s k t) F.entry_int_rmul (F.args_int_rmul_2 _ _) (int___rmul___int_list k t l its.toArray n)
      ⟨e, rfl, ⟨_, e, rfl⟩, call_meets F.slot_list_mul ⟨_, e, rfl⟩ F.entry_list_mul (F.args_list_mul_2 _ _) (AutoListH.list___mul___list_int_3 l its.toArray n k t hfit hcap hlong) ⟨e, ?_⟩⟩)
  rw [hnew]
  exact ⟨.ref _, _, I.lnew (t' := s.toks) (r.rep k.toNat) (by rw [len_rep, Nat.mul_comm]; exact hz), rfl, q _ I.fresh⟩

end

section
variable {prog : Program} {w : World} {A : Around} {E : Value → Shared → Prop} {s : Shared}
set_option maxRecDepth 100000 in
end

section
variable {X : Cx}
end
end L2

namespace Att
open PySem PySem.W PySem.Calls PyProof.Rows

theorem ints_of_wellAll {P : Params} {h : Heap} : ∀ (ns : List Int) (vs : List Value), WellAll P h vs (ns.map WData.int) → IntsAre vs ns := by
  intro ns
  induction ns with
  | nil =>
    intro vs w
    rw [List.map_nil] at w
    cases w
    exact .nil
  | cons n ns ih =>
    intro vs w
    rw [List.map_cons] at w
    cases w with
    | cons a b =>
      cases a
      exact .cons _ _ (ih _ b)

theorem script_of {l : OpenLaw} {n : Nat} (hn : l.most = some n) {P : Params} {h : Heap} {args : List WData} {vals : List Value}
    (hpre : l.row.toRowW.claim.pre args = true) (hwl : WellAll P h vals args) :
    ∃ a vs ns, vals = [Value.ref a] ∧ args = [WData.list (ns.map WData.int)] ∧ h.get? a = some { cls := .type "list", data := .seq vs.toArray } ∧ IntsAre vs ns ∧ ns.length ≤ n := by
  have hsh : WShape.hasAll [] args [.list .int] = true := (pre_splitW hpre).1
  have hc : l.pre.holds [] { args := args } = true := (pre_splitW hpre).2
  obtain ⟨d, r, rfl, h1, h2⟩ := hasAllW_cons hsh
  obtain rfl := hasAllW_nil h2
  obtain ⟨xs, rfl, h3⟩ := hasW_list h1
  obtain ⟨ns, rfl⟩ := items_int h3
  have hlen : ns.length ≤ n := by
    unfold OpenLaw.pre at hc
    have h4 : (WTm.not (.lt (.lit (.int (n : Int))) (.len (.arg 0)))).holds [] { args := [.list (ns.map .int)] } = true := by
      have h4 := (holds_andW hc).1
      rw [hn] at h4
      exact h4
    have h5 := condW_of h4 (w_not (w_lt w_lit (w_len_list (w_arg rfl))))
    rw [List.length_map] at h5
    refine Nat.le_of_not_lt fun q => ?_
    have q' : (n : Int) < ((ns.length : Nat) : Int) := by omega
    first
      | (rw [decide_eq_true q'] at h5; exact absurd h5 (by decide))
      | (simp at h5; omega)
  cases hwl with
  | cons w1 w2 =>
    cases w2
    cases w1 with
    | list ho hall => exact ⟨_, _, ns, rfl, rfl, ho, ints_of_wellAll ns _ hall, hlen⟩

theorem post_true (l : OpenLaw) (args : List WData) : l.row.toRowW.claim.post args (.bool true) args = true :=
  postW_of (r := l.row.toRowW) (X := (true == true))
    (show WShape.has [] (.bool true) .bool = true by first | rfl | decide | simp [WShape.has, WShape.arms, WShape.armsAll])
    (show (WTm.eq .res (.lit (.bool true))).value [] { args := args, res := some (.bool true), after := args } = some (.bool (true == true)) from w_eq_bool (w_res rfl) w_lit) rfl

theorem attach_call {l : OpenLaw} {n : Nat} {q : Program} {loose : List Str} {XP : (Str → Option Value) → Heap → Prop} {YP : World → Heap → Prop} {d : DefRec}
    (hn : l.most = some n) (hdf : d.params.defaults = [])
    (call : ∀ (w : World) (s₀ s₁ : Shared) (mg mb : Str → Option Value) (fa : Addr) (o : Obj) (pm cd doc : Value) (a : Addr) (vs : List Value) (ns : List Int),
      Ground q loose [] XP w s₀ mg mb s₁.heap → YP w s₁.heap →
      s₁.heap.get? fa = some o → o.data = .func (docDef d.name d.params d.body d.scope pm cd doc) → s₁.heap.CodeRec cd d.name → mg d.name = some (.ref fa) →
      s₁.heap.get? a = some { cls := .type "list", data := .seq vs.toArray } → IntsAre vs ns → ns.length ≤ n → s₁.gens = #[] →
      codeAny (model l.prog w) callerA (.call (.ref fa) ⟨[.ref a], []⟩) (fun r s' => r = .ok (.ret (.bool true)) ∧ OldK s₁.heap s'.heap ∧ s'.os = s₁.os ∧ AllBare s'.gens) s₁) :
    WalkO q loose XP YP l.row.toRowW d [] (fun f vs => PySem.call f vs) := by
  intro w s₀ s₁ mg mb G Y fa o pm cd doc dV kV ho hd hcd hD hmg hg args vals as hpre hlay hrd hwl hlo
  obtain rfl : dV = .none := Dflts.none hD hdf
  obtain rfl : kV = .none := Dflts.noKw hD
  obtain ⟨a, vs, ns, rfl, rfl, hobj, hints, hlen⟩ := script_of hn hpre hwl
  refine enter_call (codeAny_mono (call w s₀ s₁ mg mb fa o pm cd doc a vs ns G Y ho (fd_plain hd) hcd hmg hobj hints hlen hg) fun r s' hq => ?_)
  obtain ⟨rfl, h2, h3, h4⟩ := hq
  exact ⟨.inl ⟨.bool true, .bool true, [], rfl, fun _ => rfl, .bool true, post_true l _, fun _ => ⟨List.Pairwise.nil, fun _ hm => (nomatch hm)⟩⟩, h2, h3, h4⟩

section
variable {prog : Program} {w : World} {A : Around} {E : Value → Shared → Prop} {s : Shared} {K : Frag}

end
end Att

namespace L2
open PySem PySem.Spec PyProof.Rows

theorem vals_ints : ∀ {vs : List Value} {ns : List Int}, IntsAre vs ns → Vals (ns.map V.int) vs
  | _, _, .nil => .nil
  | _, _, .cons n t h => .cons ⟨t, rfl⟩ (vals_ints h)

def Only (H : Hp) : Prop := ∀ b, H b = none ∨ ∃ o xs, H b = some (.frz o (.lst xs))

theorem law_call {P : Program} {w : World} {K : PySem.W.Frag} {mg mb : Str → Option Value} {CX : CXT} {k : Nat} {fa a : Addr} {fd : FuncData} {x : Str} {sp : Sp} {s₁ : Shared} {vs : List Value} {ns : List Int}
    (KX : K.In s₁.heap) (hns : s₁.heap.Ns mainGlobals mg) (hb : s₁.heap.Ns builtinsNs mb) (hbb : ∀ x : Str, x ≠ "__name__" → mb x = bootBuiltins x) (hlim : s₁.heap.NoLimit) (hg : s₁.gens = #[])
    (ha : s₁.heap.get? a = some { cls := .type "list", data := .seq vs.toArray }) (hi : IntsAre vs ns) (hl : ns.length ≤ sizeLine) (hr : Room k callerA)
    (F : ∀ base : Heap, K.In base → base.Ns mainGlobals mg → FnOk P w K mg base CX k fa fd [x] sp) (hbind : ∀ (s : Shared) (u : Value), BindsTo s fd ⟨[u], []⟩ [(x, u)])
    (hsp : ∀ H : Hp, Only H → SqL K H a (ns.map V.int) → sp [.ref a] H (fun v _ => v = .bl true) fun _ _ _ => False)
    (hCX : ∀ H e s', CX [] H s₁ (fun _ _ _ => False) e s' → False) :
    codeAny (model P w) callerA (.call (.ref fa) ⟨[.ref a], []⟩) (fun r s' => r = .ok (.ret (.bool true)) ∧ OldK s₁.heap s'.heap ∧ s'.os = s₁.os ∧ AllBare s'.gens) s₁ := by
  have rv := vals_ints hi
  have lenV := hi.length
  -- from an abstract heap in which nothing but the script may be tracked
  have core : ∀ H : Hp, Only H → SqL K H a (ns.map V.int) → HOk P w H s₁.heap → (∀ b, H b ≠ none → b = a) → (H a ≠ none → K.lookup a = none) →
      codeAny (model P w) callerA (.call (.ref fa) ⟨[.ref a], []⟩) (fun r s' => r = .ok (.ret (.bool true)) ∧ OldK s₁.heap s'.heap ∧ s'.os = s₁.os ∧ AllBare s'.gens) s₁ := by
    intro H hO hS hok hA hK
    have base_of : ∀ {b : Addr} {o : Obj}, s₁.heap.get? b = some o → H b = none → (hidT s₁.heap H).get? b = some o := fun e n => hidT_get e n
    have noA : ∀ {b : Addr} {o : Obj} {es : Array DictEntry} {ep : Nat}, s₁.heap.get? b = some o → o.data = .dict es ep → H b = none := fun {b o es ep} e d => by
      cases q : H b with
      | none => rfl
      | some u =>
        have e' : b = a := hA b (by rw [q]; simp)
        subst e'
        rw [ha] at e; cases e
        have d' : Data.seq vs.toArray _ = Data.dict es ep := d
        cases d'
    have nsK : ∀ {b : Addr} {m : Str → Option Value}, s₁.heap.Ns b m → (hidT s₁.heap H).Ns b m := fun {b m} ⟨o, es, ep, e, d, r⟩ => ⟨o, es, ep, base_of e (noA e d), d, r⟩
    have hKb : K.In (hidT s₁.heap H) := fun b o e => base_of (KX b o e) (by
      cases q : H b with
      | none => rfl
      | some u =>
        have e' : b = a := hA b (by rw [q]; simp)
        subst e'
        rw [hK (by rw [q]; simp)] at e; cases e)
    have hM : Mod K mg (hidT s₁.heap H) := ⟨hKb, nsK hns, ⟨mb, nsK hb, hbb⟩, let ⟨mc, h1, h2⟩ := hlim; ⟨mc, nsK h1, h2⟩⟩
    have e0 : Env0 P w K mg (hidT s₁.heap H) callerA [] s₁ H := ⟨rfl, hM, fun b o e => of_hidT e, Nat.le_of_eq (hidT_size _ _), trivial, fun b hb => absurd (show b ∈ ([] : List Addr) from hb) (by simp), hok, .of_eq hg⟩
    refine codeAny_mono ((F _ hKb (nsK hns)).run callerA [] s₁ H ⟨[.ref a], []⟩ [.ref a] [.ref a] _ _ hr e0 (hbind s₁ (.ref a)) (.cons rfl .nil) (hsp H hO hS)) fun r s' h => ?_
    cases r with
    | error e => exact (hCX H e s' h).elim
    | ok fl =>
      cases fl with
      | next => exact False.elim h
      | brk => exact False.elim h
      | cont => exact False.elim h
      | ret u =>
        obtain ⟨v, H', os, bare, un, hok', r', q⟩ := h
        have q' : v = .bl true := q
        subst q'
        obtain rfl : u = Value.bool true := r'
        refine ⟨rfl, OldK.of_keep fun b o e => ?_, os, bare⟩
        cases q : H b with
        | none => exact un.keep b o e q (by intro z; exact absurd (show b ∈ ([] : List Addr) from z) (by simp)) (by simp)
        | some u =>
          rcases hO b with z | ⟨ob, xs, z⟩
          · rw [q] at z; cases z
          · have z2 := un.frzs b ob _ z
            obtain ⟨e1, _⟩ := hok b _ z
            obtain ⟨e2, _⟩ := hok' b _ z2
            rw [e] at e1; cases e1
            exact e2
  cases hk : K.lookup a with
  | some o =>
    -- the script is one of the module's own objects
    have e := KX a o hk
    rw [ha] at e
    cases e
    refine core (fun _ => none) (fun _ => .inl rfl) (.inr ⟨_, vs.toArray, _, hk, rfl, rfl, rfl, by rw [List.size_toArray, lenV]; exact hl, by simpa using rv⟩) (fun b u z => by have z' : (none : Option HO) = some u := z; cases z') (fun b z => absurd rfl z) fun z => absurd rfl z
  | none =>
    refine core (fun b => if b = a then some (.frz { cls := .type "list", data := .seq vs.toArray } (.lst (ns.map V.int))) else none) (fun b => ?_) (.inl (.inr ⟨{ cls := .type "list", data := .seq vs.toArray }, if_pos rfl⟩)) (fun b u z => ?_) (fun b z => ?_) fun _ => hk
    · by_cases hb : b = a
      · exact .inr ⟨_, _, if_pos hb⟩
      · exact .inl (if_neg hb)
    · by_cases hb : b = a
      · have z' := (if_pos hb).symm.trans z
        cases z'
        subst hb
        exact ⟨ha, by rw [List.length_map]; exact hl, vs, _, rv, ha⟩
      · have z' := (if_neg hb).symm.trans z
        cases z'
    · by_cases hb : b = a
      · exact hb
      · exact absurd (if_neg hb) z
end L2

namespace L2
open PySem PySem.Spec PyProof.Rows

abbrev KOf {K : PySem.W.Frag} {h : Heap} (_ : K.In h) : PySem.W.Frag := K

theorem walk_of {l : PySem.W.OpenLaw} {n k : Nat} {q : Program} {loose : List Str} {XP : (Str → Option Value) → Heap → Prop} {YP : World → Heap → Prop} {d : DefRec} {K : Params → PySem.W.Frag} {CX : World → CXT} {sp : World → Sp} {x : Str}
    (hn : l.most = some n) (hn2 : n ≤ sizeLine) (hdf : d.params.defaults = []) (hr : Room k callerA)
    (hY : ∀ (w : World) (h : Heap), YP w h → (K w.params).In h)
    (F : ∀ (w : World) (mg : Str → Option Value) (fa : Addr) (h : Heap), (K w.params).In h → h.Ns mainGlobals mg → mg d.name = some (.ref fa) →
      ∃ fd : FuncData, (∀ (s : Shared) (u : Value), BindsTo s fd ⟨[u], []⟩ [(x, u)]) ∧
        ∀ base : Heap, (K w.params).In base → base.Ns mainGlobals mg → FnOk l.prog w (K w.params) mg base (CX w) k fa fd [x] (sp w))
    (hsp : ∀ (w : World) (H : Hp) (a : Addr) (ns : List Int), ns.length ≤ n → Only H → SqL (K w.params) H a (ns.map V.int) → sp w [.ref a] H (fun v _ => v = .bl true) fun _ _ _ => False)
    (hCX : ∀ (w : World) (H : Hp) (s : Shared) (e : Value) (s' : Shared), CX w [] H s (fun _ _ _ => False) e s' → False) :
    PySem.W.WalkO q loose XP YP l.row.toRowW d [] (fun f vs => PySem.call f vs) := by
  refine Att.attach_call hn hdf fun w s₀ s₁ mg mb fa o pm cd doc a vs ns G Y ho hd hcd hmg hobj hints hlen hg => ?_
  have KX := hY w _ Y
  obtain ⟨fd, hb, hF⟩ := F w mg fa _ KX G.T.g hmg
  exact law_call KX G.T.g G.T.b G.T.builtins G.T.nolimit hg hobj hints (Nat.le_trans hlen hn2) hr hF hb (fun H hO hS => hsp w H a ns hlen hO hS) fun H e s' => hCX w H s₁ e s'
end L2

/- THE LAST THEOREM (shape; LID, My.* are yours):
   My.Adr: a structure of the addresses that your layer names (classes, functions); My.Txt K t: a structure (Prop) of the equations over K;
   My.txt_mk : {K} {implicit addresses ..} (e1 : nsIn K mainGlobals "law" = some (some (.ref f))) (e2 : K.lookup f = some ⟨oc, od, .func (fnOf "law" "law" params body scope dV kV doc pm an cdv ct), sl⟩) (e3 : codeIn K cdv "law" = true) .. : ∃ t, My.Txt K t

set_option maxRecDepth 100000 in
set_option maxHeartbeats 0 in
theorem PySem.Challenge.cw_LID_holds : PySem.Challenge.rw_LID.Holds := by
  w_on; o_law; k_head; (case hw => w_witness2)
  k_fill
  refine L2.walk_of (l := PySem.Challenge.rw_LID) (n := 63) (k := 40) (x := "script") (CX := fun w => ..) (sp := fun _ => My.sp_law) rfl (by decide) rfl ⟨rfl, by decide, by decide⟩ (fun w h Y => PySem.W.kIn_of Y) ?F ?S ?C
  case F =>
    intro w mg fa h KX G hmg
    have T : ∃ t, My.Txt (L2.KOf KX) t := by
      dsimp only [L2.KOf]                          -- K must stand as «<heap const> w.params» for k_is
      refine' My.txt_mk ?e1 ?e2 ?e3 ..
      (case e1 => PySem.W.k_is)                    -- in the order: a name -> its address -> its object -> its parts
      (case e2 => PySem.W.k_is)
      ..
    obtain ⟨t, T⟩ := T
    have e0 := hmg.symm.trans (PySem.W.mg_of KX G T.law)
    cases e0                                       -- fa is the law's own address
    exact ⟨_, fun s u => .of_eq rfl, fun base kb nb => My.law_fn T kb nb⟩     -- if «.of_eq rfl» comes too early: refine' ⟨_, ?b, fun base kb nb => My.law_fn T kb nb⟩; exact fun s u => .of_eq rfl
  case S => exact fun w H a ns hl hO hS => ..
  case C => exact ..
(the tactic k_is has no namespace: write k_is) -/

namespace L2
open PySem PySem.Spec PyProof.Rows

def inClass (s : Stmt) (j : Nat) : Stmt := match s with
  | .ClassDef _ _ _ body _ _ _ _ _ _ _ => body.getD j (.Pass ⟨0, 0, 0, 0⟩)
  | _ => .Pass ⟨0, 0, 0, 0⟩
def defArgs (s : Stmt) : Arguments := match s with
  | .FunctionDef _ a _ _ _ _ _ _ _ _ => a
  | _ => { posonlyargs := [], args := [], vararg := none, kwonlyargs := [], kw_defaults := [], kwarg := none, defaults := [] }
def defBody (s : Stmt) : List Stmt := match s with
  | .FunctionDef _ _ b _ _ _ _ _ _ _ => b
  | _ => []
def defScope (s : Stmt) : Scope := match s with
  | .FunctionDef _ _ _ _ _ _ sc _ _ _ => sc
  | _ => { kind := .function, names := [], isGenerator := false, isCoroutine := false }

abbrev CX0 : CXT := fun _ _ _ _ _ _ => False
abbrev E0 : XK := fun _ _ _ => False
theorem pass0 {X : Cx} : Passes CX0 X E0 := fun _ _ _ _ _ _ _ h => h.elim

section
variable {P : Program} {w : World} {K : PySem.W.Frag} {mg : Str → Option Value} {base : Heap}
end
theorem hu_of {A : Around} {k : Nat} (hr : Room k A) : A.units + 1 < cLine := Nat.lt_of_le_of_lt (Nat.add_le_add_left (by decide : 1 ≤ 64) _) hr.units
theorem small1000 {n : Nat} (h : n ≤ 1000) : n < sizeLine := Nat.lt_of_le_of_lt h (by decide)

section
variable {X : Cx}
theorem pv (i : Nat) {x : Str} {pos : Pos} (hN : X.N[i]? = some x := by rfl) (hv : Vis X.env.scope x := by first | exact Or.inl rfl | exact Or.inr (Or.inl rfl) | exact Or.inr (Or.inr rfl)) (hd : (x == ("__debug__" : Str)) = false := by decide)
    (hcd : (x == ("__classdict__" : Str)) = false := by decide) : PE X (.Name x pos) (tVar i) := pe_var hN hv hd hcd
end

theorem iteF {A B : Prop} (h : B) : if false = true then A else B := by
  rw [if_neg Bool.false_ne_true]
  exact h
theorem iteT {A B : Prop} (h : A) : if true = true then A else B := by
  rw [if_pos rfl]
  exact h
theorem ite2 {c A B : Prop} [Decidable c] (h1 : c → A) (h2 : ¬ c → B) : if c then A else B := by
  by_cases h : c
  · rw [if_pos h]
    exact h1 h
  · rw [if_neg h]
    exact h2 h
theorem iteNS {c A B : Prop} [Decidable c] (hc : c) (h : B) : if (!decide c) = true then A else B := by
  rw [decide_eq_true hc]
  exact iteF h

def Same (H H' : Hp) : Prop := ∀ b o, H b = some o → H' b = some o
theorem Same.refl (H : Hp) : Same H H := fun _ _ h => h
theorem Same.trans {H H1 H2 : Hp} (a : Same H H1) (b : Same H1 H2) : Same H H2 := fun c o h => b c o (a c o h)
theorem Same.free {H H' : Hp} (e : Same H H') {l : Addr} (h : H' l = Option.none) : H l = Option.none := by
  cases q : H l with
  | none => rfl
  | some o =>
    rw [e l o q] at h
    cases h
theorem Same.seq {K : PySem.W.Frag} {H H' : Hp} {a : Addr} {xs : List V} (e : Same H H') (h : SqL K H a xs) : SqL K H' a xs := by
  rcases h with (h | ⟨o, h⟩) | h
  · exact .inl (.inl (e _ _ h))
  · exact .inl (.inr ⟨o, e _ _ h⟩)
  · exact .inr h

end L2

set_option Elab.async false
set_option linter.all false
set_option maxRecDepth 100000
set_option maxHeartbeats 1000000
namespace L2
open PySem PySem.Spec PyProof.Rows
section
variable {X : Cx}

def Bt (n : Nat) (i : Int) : Prop := i.natAbs < 2 ^ n
theorem intBits_of {n : Nat} {i : Int} (h : Bt n i) : Builtin.Int.intBits i ≤ n := by
  unfold Builtin.Int.intBits
  split
  · exact Nat.zero_le _
  · rename_i h0
    have hp : i.natAbs ≠ 0 := by
      intro z
      apply h0
      simp at z ⊢
      exact z
    have : i.natAbs.log2 < n := (Nat.log2_lt hp).mpr h
    omega
def CBig (i j : Int) : Prop := ∃ n m, Bt n i ∧ Bt m j ∧ n ≤ 1048576 ∧ m ≤ 1048576
theorem CBig.ok {i j : Int} (h : CBig i j) : IntMulOk i j := by
  obtain ⟨n, m, h1, h2, h3, h4⟩ := h
  have e : (2 : Nat) ^ 20 = 1048576 := by decide
  exact IntMulOk.of_bits (by have := intBits_of h1; omega) (by have := intBits_of h2; omega)
theorem op_mulB : OpR X (binaryOp .Mult) (rI CBig fun i j => .int (i * j)) := opI fun _ _ _ _ _ _ _ hc q => mul_int q hc.ok
def CDivB (i j : Int) : Prop := j ≠ 0 ∧ ∃ n, Bt n j ∧ n ≤ 9000
theorem CDivB.ok {i j : Int} (h : CDivB i j) : Builtin.divisionGoesByPylong i j = false := by
  obtain ⟨h0, n, h1, h2⟩ := h
  refine PyProof.noPylong_of_log2 ?_
  have hp : j.natAbs ≠ 0 := by omega
  have : j.natAbs.log2 < n := (Nat.log2_lt hp).mpr h1
  omega
theorem op_fdivB : OpR X (binaryOp .FloorDiv) (rI CDivB fun i j => .int (i.fdiv j)) := opI fun _ _ _ _ _ _ _ hc q => floordiv_int hc.1 q (.inl hc.ok)

mutual
inductive DatV (K : PySem.W.Frag) (H : Hp) : V → PyData → Prop where
  | non : DatV K H .non .none
  | bl (b : Bool) : DatV K H (.bl b) (.bool b)
  | int (i : Int) : DatV K H (.int i) (.int i)
  | str (x : Str) : DatV K H (.str x) (.str x)
  | lst {a : Addr} {xs : List V} {ds : List PyData} (h : SqL K H a xs) (q : DatVs K H xs ds) : DatV K H (.ref a) (.list ds)
  | tup {a : Addr} {xs : List V} {ds : List PyData} (h : SqT K H a xs) (q : DatVs K H xs ds) : DatV K H (.ref a) (.tuple ds)
inductive DatVs (K : PySem.W.Frag) (H : Hp) : List V → List PyData → Prop where
  | nil : DatVs K H [] []
  | cons {x : V} {d : PyData} {xs : List V} {ds : List PyData} (p : DatV K H x d) (q : DatVs K H xs ds) : DatVs K H (x :: xs) (d :: ds)
end
theorem datV_reads {pins : List (Addr × Obj)} {s : Shared} {σ : St} {H : Hp} (I : Inv X pins σ H s) : ∀ {x : V} {d : PyData}, DatV X.K H x d → ∀ {u : Value}, RelV x u → ∃ as, Reads s.heap u d as := by
  intro x d h
  induction h using DatV.rec (motive_2 := fun xs ds _ => ∀ {us : List Value}, Vals xs us → ∃ as, ReadsAll s.heap us ds as) with
  | non => intro u r; cases (show u = Value.none from r); exact ⟨_, .none⟩
  | bl b => intro u r; cases (show u = Value.bool b from r); exact ⟨_, .bool b⟩
  | int i => intro u r; obtain ⟨t, rfl⟩ := (show ∃ t, u = Value.int i t from r); exact ⟨_, .int i t⟩
  | str y => intro u r; obtain ⟨t, rfl⟩ := (show ∃ t, u = Value.str y t from r); exact ⟨_, .str y t⟩
  | lst h q ih =>
    intro u r
    cases (show u = Value.ref _ from r)
    obtain ⟨its, rv, pl, _⟩ := I.list h
    obtain ⟨as, ra⟩ := ih rv
    obtain ⟨o, h1, h2, n, h3⟩ := pl.isList
    exact ⟨_, .list h1 h2 h3 (by simpa using ra)⟩
  | tup h q ih =>
    intro u r
    cases (show u = Value.ref _ from r)
    obtain ⟨its, rv, pl, _⟩ := I.tuple h
    obtain ⟨as, ra⟩ := ih rv
    obtain ⟨o, h1, h2, n, h3⟩ := pl
    exact ⟨_, .tuple h1 h2 h3 (by simpa using ra)⟩
  | nil => rename_i us r; cases r; exact ⟨_, .nil⟩
  | cons p q ih1 ih2 =>
    rename_i us r
    cases r with
    | cons r1 r2 =>
      obtain ⟨as, h1⟩ := ih1 r1
      obtain ⟨bs, h2⟩ := ih2 r2
      exact ⟨_, .cons h1 h2⟩
def rDat (K : PySem.W.Frag) (neg : Bool) : R2 := fun x y H Q => ∃ d e, DatV K H x d ∧ DatV K H y e ∧ d.canLay0 = true ∧ e.canLay0 = true ∧ min d.depth e.depth ≤ 16 ∧ Q (.bl (if neg then !PyData.eqv d e else PyData.eqv d e)) H
theorem op_eqD (hu : X.A.units + 64 < cLine) : OpR X (compareOp .Eq) (rDat X.K false) := by
  intro pins s σ H x y v u Q I rx ry h
  obtain ⟨d, e, h1, h2, c1, c2, hm, q⟩ := h
  obtain ⟨as, r1⟩ := datV_reads I h1 rx
  obtain ⟨bs, r2⟩ := datV_reads I h2 ry
  exact PySem.SeqAt.compareEq_reads r1 r2 c1 c2 (by omega) ⟨.bl (PyData.eqv d e), H, I, rfl, q⟩
theorem op_neD (hu : X.A.units + 64 < cLine) : OpR X (compareOp .NotEq) (rDat X.K true) := by
  intro pins s σ H x y v u Q I rx ry h
  obtain ⟨d, e, h1, h2, c1, c2, hm, q⟩ := h
  obtain ⟨as, r1⟩ := datV_reads I h1 rx
  obtain ⟨bs, r2⟩ := datV_reads I h2 ry
  exact PySem.SeqAt.compareNe_reads r1 r2 c1 c2 (by omega) ⟨.bl (!PyData.eqv d e), H, I, rfl, q⟩
end
end L2

set_option Elab.async false
set_option linter.all false
set_option maxRecDepth 100000
set_option maxHeartbeats 2000000
namespace L2
open PySem PySem.Spec PyProof.Rows

section
variable {prog : Program} {w : World} {A : Around} {R : Result → Shared → Prop} {s : Shared}
abbrev tests (ifs : List Expr) (env : Env) : Sem Bool := forIn ifs true fun c r => if r = true then do let ok ← isTrue c env (eval c env); pure (ForInStep.yield ok) else pure (ForInStep.yield r)
theorem comp_loop {elt target iter : Expr} {ifs : List Expr} {scope : Scope} {pos : Pos} {it acc : Value} {env : Env} (I : Nat → Shared → Prop)
    (turn : ∀ n s, I n s → wpAny (model prog w) A (pyNext it) (fun r s₁ => match r with
      | none => R (.ok .next) s₁
      | some v => wpAny (model prog w) A (letOwnedTupleGo target it v) (fun _ s₀ => wpAny (model prog w) A (assign target env v) (fun _ s₂ =>
          wpAny (model prog w) A (tests ifs env) (fun ok s₃ =>
            if ok = true then wpAny (model prog w) A (eval elt env) (fun x s₄ =>
              wpAny (model prog w) A (call (.builtin "list.append") [acc, x]) (fun _ s₅ => ∃ m, m < n ∧ I m s₅) (fun _ _ => False) s₄) (fun _ _ => False) s₃
            else ∃ m, m < n ∧ I m s₃) (fun _ _ => False) s₂) (fun _ _ => False) s₀) (fun _ _ => False) s₁) (fun _ _ => False) s)
    (n : Nat) (h : I n s) :
    codeAny (model prog w) A (.compLoop (.ListComp elt [⟨target, iter, ifs, 0⟩] scope pos) 0 it acc env) R s := by
  refine codeAny_loop rfl I (fun n s hI => ?_) n h
  show wpAny _ A ((compTurn (.ListComp elt [⟨target, iter, ifs, 0⟩] scope pos) 0 it acc env).onRaise (fun x => do noteFrame x env; theTreesLotGoes x)) _ _ s
  refine wpAny_noted ?_
  rw [compTurn_list]
  refine wpAny_bind (wpAny_standAt (wpAny_bind (wpAny_mono (turn n s hI) (fun r s₁ h₁ => ?_) fun _ _ z => z.elim)))
  cases r with
  | none => exact wpAny_pure h₁
  | some v =>
    refine wpAny_bind (wpAny_mono h₁ (fun _ s₀ h₀ => ?_) fun _ _ z => z.elim)
    refine wpAny_bind (wpAny_mono h₀ (fun _ s₂ h₂ => wpAny_bind (wpAny_mono h₂ (fun ok s₃ h₃ => ?_) fun _ _ z => z.elim)) fun _ _ z => z.elim)
    cases ok with
    | false => exact wpAny_pure ⟨rfl, h₃⟩
    | true =>
      rw [if_pos rfl] at h₃
      show wpAny _ _ ((do let _ ← call (.builtin "list.append") [acc, ← eval elt env]) >>= fun _ => again (.compLoop (.ListComp elt [⟨target, iter, ifs, 0⟩] scope pos) 0 it acc env)) _ _ _
      exact wpAny_bind (wpAny_bind (wpAny_mono h₃ (fun x s₄ h₄ => wpAny_bind (wpAny_mono h₄ (fun _ s₅ h₅ => wpAny_pure (wpAny_pure ⟨rfl, h₅⟩)) fun _ _ z => z.elim)) fun _ _ z => z.elim))
end

structure CompOk (X : Cx) (scope : Scope) (cl : List (Str × Addr)) (Nc : List Str) (nl : Nat) (fr : List Nat) : Prop where
  clos : closureFor scope X.env = pure cl
  kind : scope.kind = .function
  names : ∀ y ∈ scope.names, y.2 = .local → scope.names.lookup y.1 = some .local
  cell : ∀ y ∈ scope.names, y.2 ≠ .cell
  sub : ∀ x c, cl.lookup x = some c → X.env.cells.lookup x = some c
  has : ∀ x, (relabel scope X.env).names.lookup x = some .cell ∨ (relabel scope X.env).names.lookup x = some .free → ∃ c, cl.lookup x = some c
  len : Nc.length = nl + fr.length
  tail : ∀ i n, Nc[nl + i]? = some n → ∃ j, fr[i]? = some j ∧ X.N[j]? = some n ∧ X.env.kindOf n = some .cell ∧ cl.lookup n = X.env.cells.lookup n ∧ ((relabel scope X.env).names.lookup n = some .cell ∨ (relabel scope X.env).names.lookup n = some .free)
abbrev compCx (X : Cx) (scope : Scope) (cl : List (Str × Addr)) (Nc : List Str) (C : Addr) (s3 : Shared) (H3 : Hp) (fp : List Addr) (pins : List (Addr × Obj)) : Cx :=
  { X with N := Nc, s₀ := s3, H₀ := H3, env := compEnvC scope cl C X.env, outer := X.stack, ex := fp, fn := fun _ => false, pn := X.pn ++ pins, xe := fun _ _ => False }
def σC (nl : Nat) (fr : List Nat) (σ : St) : St := List.replicate nl none ++ fr.map fun j => (σ[j]?).join
abbrev PIf (X : Cx) (ifs : List Expr) (t : TT) : Prop :=
  ∀ (pins : List (Addr × Obj)) (s : Shared) (σ : St) (H : Hp) (Q : Bool → Hp → Prop), Inv X pins σ H s → t σ H Q → wpAny (model X.prog X.w) X.A (tests ifs X.env) (TP X pins σ Q) X.xe s
theorem pif_nil {X : Cx} : PIf X [] (fun _ H Q => Q true H) := fun _ _ _ H _ I h => wpAny_pure ⟨H, I, h⟩
theorem pif_one {X : Cx} {c : Expr} {t : TT} (h : PT X c t) : PIf X [c] t := fun pins s σ H Q I q => wpAny_tests_one (h pins s σ H Q I q)

section
variable {X : Cx} {scope : Scope} {cl : List (Str × Addr)} {Nc : List Str} {nl : Nat} {fr : List Nat} {pins : List (Addr × Obj)} {σ : St} {H3 : Hp} {s3 : Shared} {fp : List Addr} {h4 : Heap} {tk : Nat}
theorem comp_start (ck : CompOk X scope cl Nc nl fr) (I : Inv X pins σ H3 s3) (hf : ∀ b ∈ fp, FpOk X pins H3 b) (hfs : ∀ b ∈ fp, b < s3.heap.objs.size)
    (hns : h4.Ns s3.heap.objs.size fun _ => none) (hk : ∀ b o, s3.heap.get? b = some o → h4.get? b = some o) :
    Inv (compCx X scope cl Nc s3.heap.objs.size s3 H3 fp pins) [] (σC nl fr σ) H3 { s3 with heap := h4, toks := tk } := by
  have stk : ∀ b ∈ frs X.stack, b ∈ X.env.locals :: X.fs := I.stkSub
  have nfs : ∀ b, b ≠ X.env.locals → b ∉ X.fs → b ∉ frs X.stack := fun b h1 h2 z => (List.mem_cons.mp (stk b z)).elim h1 h2
  have ltc : ∀ x c, cl.lookup x = some c → c < s3.heap.objs.size := fun x c e => by
    obtain ⟨v, z⟩ := I.cell x c (ck.sub x c e)
    exact z.lt
  refine ⟨⟨I.ok.mod, ck.kind, I.ok.glob, I.ok.blt, Nat.le_refl _, fun x y c h1 h2 => I.ok.inj x y c (ck.sub x c h1) (ck.sub y c h2), fun x hx => ck.has x hx, fun x c hz => Bool.noConfusion hz, I.ok.hd, I.ok.frames, .inl rfl, fun b hb => ?_, I.bs, Nat.le_trans I.ok.bsz I.sz, fun b o e hb => ?_, fun b hb => ?_, I.stack, I.stkFree⟩,
    rfl, I.bare, Un.kept hk, ⟨_, hns, fun i x v h1 h2 h3 => ?_⟩, fun x c e => ?_, I.hok.fresh (Nat.le_refl _), fun x c e => I.freeC x c (ck.sub x c e), fun p hp => ?_, I.hok.kept hk, ?_⟩
  · obtain ⟨f0, f1, f2, f3, f4, f5⟩ := hf b hb
    exact ⟨Nat.ne_of_lt (hfs b hb), fun x c e => f4 x c (ck.sub x c e)⟩
  · obtain ⟨f0, f1, f2, f3, f4, f5⟩ := hf b hb
    rcases f3 with z | z
    · exact I.ok.noex b o e z
    · exact absurd (Nat.lt_of_lt_of_le (Heap.lt_size e) (Nat.le_trans I.ok.bsz z)) (Nat.lt_irrefl _)
  · obtain ⟨f0, f1, f2, f3, f4, f5⟩ := hf b hb
    exact nfs b f1 f2
  · -- a name's value
    unfold σC at h2
    by_cases hi : i < nl
    · rw [List.getElem?_append_left (by simpa using hi), List.getElem?_replicate] at h2
      split at h2 <;> cases h2
    · have hi' : nl ≤ i := by omega
      rw [List.getElem?_append_right (by simpa using hi'), List.length_replicate, List.getElem?_map] at h2
      obtain ⟨k, rfl⟩ : ∃ k, i = nl + k := ⟨i - nl, by omega⟩
      obtain ⟨j, e1, e2, e3, e4, e5⟩ := ck.tail k x h1
      rw [Nat.add_sub_cancel_left, e1] at h2
      have h2' : (σ[j]?).join = some v := by simpa using h2
      have h2'' : σ[j]? = some (some v) := by
        cases q : σ[j]? with
        | none => rw [q] at h2'; cases h2'
        | some z => rw [q] at h2'; exact congrArg some h2'
      obtain ⟨m, hn, hl⟩ := I.loc
      obtain ⟨u, r, l⟩ := hl j x v e2 h2'' (.inr (.inl e3))
      refine ⟨u, r, ?_⟩
      rcases l with ⟨k1, _⟩ | ⟨k1, c, ec, z⟩
      · rw [e3] at k1; cases k1
      · obtain ⟨o, ho, hd⟩ := z
        exact .inr ⟨e5, c, by show cl.lookup x = some c; rw [e4]; exact ec, o, hk _ _ ho, hd⟩
  · obtain ⟨v, o, ho, hd⟩ := I.cell x c (ck.sub x c e)
    exact ⟨v, o, hk _ _ ho, hd⟩
  · have hp' : p ∈ X.pn ++ pins := by simpa using hp
    obtain ⟨e, n, ne, nf, d⟩ := I.pin p hp'
    exact ⟨hk _ _ e, n, Nat.ne_of_lt (Heap.lt_size e), nfs _ ne nf, d⟩
  · unfold σC
    show _ = Nc.length
    rw [List.length_append, List.length_replicate, List.length_map, ck.len]
theorem comp_end {pins' : List (Addr × Obj)} {σ' : St} {H' : Hp} {s' : Shared} (I : Inv X pins σ H3 s3) (hf : ∀ b ∈ fp, FpOk X pins H3 b)
    (J : Inv (compCx X scope cl Nc s3.heap.objs.size s3 H3 fp pins) pins' σ' H' s') : Inv X pins σ H' s' ∧ FpOk X pins H' s3.heap.objs.size := by
  refine ⟨I.call' (ch := fp) J.os J.base J.hok J.bare fun b hb => ?_, I.fpOk (Nat.le_refl _) J.free⟩
  obtain ⟨f0, f1, f2, f3, f4, f5⟩ := hf b hb
  exact ⟨f3, f1, f4, f5⟩
theorem Inv.off {b : Addr} {H : Hp} {s : Shared} {h' : Heap} (I : Inv X pins σ H s) (f : FpOk X pins H b) (hs : Heap.SameBut b s.heap h') : Inv X pins σ H { s with heap := h' } := by
  obtain ⟨f0, f1, f2, f3, f4, f5⟩ := f
  exact I.turned (t' := s.toks) (it := b) (fun c o hb e => (hs.2 c hb).trans e) f0 f1 f3 f4 f5
end

def CompW (J : It) (nl : Nat) (fr : List Nat) (g : TG) (tt : TT) (te : TE) (σ : St) (D : Addr) (H1 : Hp) (Q : VK) : Prop :=
  ∃ W : Nat → Nat → List V → Hp → Prop, (∃ m, W 0 m [] (upd H1 D (.lst []))) ∧ ∀ i m ys H2, W i m ys H2 → H2 D = some (.lst ys) ∧
    ((J.stop i H2 ∧ Q (.ref D) H2) ∨ (J.go i H2 ∧ ∀ x H3, J.yld i H2 x H3 → g x (σC nl fr σ) H3 fun σ2 H4 => σ2.length = (σC nl fr σ).length ∧ (∀ (i : Nat) v, (σC nl fr σ)[i]? = some (some v) → σ2[i]? = some (some v)) ∧
      tt σ2 H4 fun b H5 => if b = true then te σ2 H5 fun y H6 => H6 D = some (.lst ys) ∧ ys.length < sizeLine ∧ ∃ m', m' < m ∧ W (i + 1) m' (ys ++ [y]) (upd H6 D (.lst (ys ++ [y])))
        else ∃ m', m' < m ∧ W (i + 1) m' ys H5))
def tComp (wi : TI) (nl : Nat) (fr : List Nat) (g : TG) (tt : TT) (te : TE) : TE := fun σ H Q => wi σ H fun J H1 => ∀ D, H1 D = none → CompW J nl fr g tt te σ D H1 Q
section
variable {X : Cx} {scope : Scope} {cl : List (Str × Addr)} {Nc : List Str} {nl : Nat} {fr : List Nat} {elt tg iter : Expr} {ifs : List Expr} {pos : Pos} {wi : TI} {g : TG} {tt : TT} {te : TE}
theorem comp_run (hc : X.calm = true) (ck : CompOk X scope cl Nc nl fr) (hi : PI X tg iter wi)
    (hg : ∀ C s3 H3 fp pins, PG (compCx X scope cl Nc C s3 H3 fp pins) tg g) (ht : ∀ C s3 H3 fp pins, PIf (compCx X scope cl Nc C s3 H3 fp pins) ifs tt) (he : ∀ C s3 H3 fp pins, PE (compCx X scope cl Nc C s3 H3 fp pins) elt te)
    {pins : List (Addr × Obj)} {s : Shared} {σ : St} {H : Hp} {Q : VK} (I : Inv X pins σ H s) (h : tComp wi nl fr g tt te σ H Q) {RR : Value → Addr → Result → Shared → Prop}
    (fin : ∀ D C s', (∃ H', (∃ m, s'.heap.Ns C m) ∧ Inv X pins σ H' s' ∧ FpOk X pins H' C ∧ Q (.ref D) H') → RR (.ref D) C (.ok .next) s') :
    wpAny (model X.prog X.w) X.A (eval iter X.env) (fun x s₁ => wpAny (model X.prog X.w) X.A (pyIter x) (fun it s₂ => wpAny (model X.prog X.w) X.A (newList []) (fun acc s₃ =>
      wpAny (model X.prog X.w) X.A (newFunctionEnv scope X.env.globals cl [] X.env.qual none .none (some X.env)) (fun cenv s₄ =>
        codeAny (model X.prog X.w) X.A (.compStart (.ListComp elt [⟨tg, iter, ifs, 0⟩] scope pos) 0 it acc { cenv with scope := relabel scope X.env }) (RR acc cenv.locals) s₄) X.xe s₃) X.xe s₂) X.xe s₁) X.xe s := by
  refine thn (hi pins s σ H _ I h) fun v s1 h1 => thn h1 fun itv s2 h2 => ?_
  obtain ⟨it, fp, tn, J, H2, e, I2, T, st2, f2, hD⟩ := h2
  subst e
  have hn2 : H2 s2.heap.objs.size = none := I2.hok.fresh (Nat.le_refl _)
  obtain ⟨W, ⟨m0, w0⟩, turn⟩ := hD s2.heap.objs.size hn2
  refine wpAny_newObj_type (wpAny_newFunctionEnv ck.cell (by intro y hy; simp at hy) (fun h4 hns hsb => ?_) ck.kind)
  dsimp only at hns hsb ⊢
  have I3 : Inv X pins σ (upd H2 s2.heap.objs.size (.lst [])) { s2 with heap := s2.heap.push { cls := .type "list", dict := none, data := .seq ([] : List Value).toArray } } :=
    I2.laid (t' := s2.toks) (fun b u e => Heap.get?_push_of_some _ e) (Nat.le_refl _) ⟨Nat.zero_le _, [], 0, .nil, Heap.get?_push_size _ rfl⟩
  have hfs : ∀ b ∈ fp, b < s2.heap.objs.size := fun b hb => by
    obtain ⟨o, e, _⟩ := T.obj 0 _ st2 b hb
    exact Heap.lt_size e
  have f3 : ∀ b ∈ fp, FpOk X pins (upd H2 s2.heap.objs.size (.lst [])) b := fun b hb => ⟨by rw [upd_ne (Nat.ne_of_lt (hfs b hb))]; exact (f2 b hb).1, (f2 b hb).2⟩
  generalize hH3 : upd H2 s2.heap.objs.size (.lst []) = H3 at *
  generalize hs3 : ({ s2 with heap := s2.heap.push { cls := .type "list", dict := none, data := .seq ([] : List Value).toArray } } : Shared) = s3 at *
  have z3 : s3.heap = s2.heap.push { cls := .type "list", dict := none, data := .seq ([] : List Value).toArray } := by rw [← hs3]
  have hsz3 : s3.heap.objs.size = s2.heap.objs.size + 1 := by rw [z3, Heap.size_push]
  rw [← z3] at hns hsb ⊢
  have hk4 : ∀ b o, s3.heap.get? b = some o → h4.get? b = some o := fun b o e => hsb.extBut b o (Nat.ne_of_lt (Heap.lt_size e)) (Heap.get?_push_of_some _ e)
  have hfs3 : ∀ b ∈ fp, b < s3.heap.objs.size := fun b hb => Nat.lt_of_lt_of_le (hfs b hb) (by rw [hsz3]; exact Nat.le_succ _)
  have hns' : h4.Ns s3.heap.objs.size fun _ => none := by simpa using hns
  have K0 := fun tk => comp_start (tk := tk) ck I3 f3 hfs3 hns' hk4
  have stat : ∀ {H' : Hp}, (∀ b ∈ fp, H' b = none) → ∀ b ∈ fp, FpOk (compCx X scope cl Nc s3.heap.objs.size s3 H3 fp pins) [] H' b := fun {H'} hn b hb => by
    obtain ⟨f0, g1, g2, g3, g4, g5⟩ := f3 b hb
    refine ⟨hn b hb, Nat.ne_of_lt (hfs3 b hb), fun z => ?_, .inl hb, fun x c e => g4 x c (ck.sub x c e), fun p hp => g5 p (by simpa using hp)⟩
    exact (List.mem_cons.mp (I3.stkSub b z)).elim g1 g2
  have st4 : tn 0 h4 := T.keep 0 _ _ st2 fun b hb o e => hk4 b o (by rw [z3]; exact Heap.get?_push_of_some _ e)
  have loop : ∀ tk, codeAny (model X.prog X.w) X.A (.compLoop (.ListComp elt [⟨tg, iter, ifs, 0⟩] scope pos) 0 (.ref it) (.ref s2.heap.objs.size) (compEnvC scope cl s3.heap.objs.size X.env)) (RR (.ref s2.heap.objs.size) s3.heap.objs.size) { s3 with heap := h4, toks := tk } := by
    intro tk
    refine comp_loop (fun n s' => ∃ i ys H', Inv (compCx X scope cl Nc s3.heap.objs.size s3 H3 fp pins) [] (σC nl fr σ) H' s' ∧ tn i s'.heap ∧ (∀ b ∈ fp, H' b = none) ∧ W i n ys H') ?_ m0 ⟨0, [], H3, K0 tk, st4, fun b hb => (f3 b hb).1, w0⟩
    rintro n s5 ⟨i, ys, H5, I5, st5, fr5, w5⟩
    obtain ⟨hl5, q5⟩ := turn i n ys H5 w5
    rcases q5 with ⟨stop, qn⟩ | ⟨go, step⟩
    · refine wpAny_mono (T.done (compCx X scope cl Nc s3.heap.objs.size s3 H3 fp pins) rfl rfl rfl hc i [] s5 (σC nl fr σ) H5 (fun _ _ => False) I5 (stat fr5) st5 stop) (fun r s6 h6 => ?_) fun _ _ z => z
      obtain ⟨hr, I6⟩ := h6
      subst hr
      obtain ⟨z1, z2⟩ := comp_end I3 f3 I6
      refine fin _ _ _ ⟨H5, ?_, z1, z2, qn⟩
      obtain ⟨m, hm, _⟩ := I6.loc
      exact ⟨m, hm⟩
    · refine wpAny_mono (T.item (compCx X scope cl Nc s3.heap.objs.size s3 H3 fp pins) rfl rfl rfl hc i [] s5 (σC nl fr σ) H5 (fun _ _ => False) I5 (stat fr5) st5 go) (fun r s6 h6 => ?_) fun _ _ z => z
      obtain ⟨u, hr, h6⟩ := h6
      subst hr
      refine wpAny_mono h6 (fun _ s7 h7 => ?_) fun _ _ z => z
      obtain ⟨x, H7, I7, r7, y7, st7, fr7⟩ := h7
      have I7' := I7.pinned (stat fr7) (T.obj _ _ st7)
      refine wpAny_mono (hg s3.heap.objs.size s3 H3 fp pins _ s7 _ H7 x u _ I7' r7 (step x H7 y7)) (fun _ s8 h8 => ?_) fun _ _ z => z
      obtain ⟨σ8, H8, I8, l8, k8, q8⟩ := h8
      refine wpAny_mono (ht s3.heap.objs.size s3 H3 fp pins _ s8 σ8 H8 _ I8 q8) (fun b s9 h9 => ?_) fun _ _ z => z
      obtain ⟨H9, I9, q9⟩ := h9
      have again : ∀ {ys' : List V} {H' : Hp} {s' : Shared} {m' : Nat}, Inv (compCx X scope cl Nc s3.heap.objs.size s3 H3 fp pins) ([] ++ pinsAt fp s7.heap) σ8 H' s' → m' < n → W (i + 1) m' ys' H' →
          ∃ m, m < n ∧ ∃ i ys H', Inv (compCx X scope cl Nc s3.heap.objs.size s3 H3 fp pins) [] (σC nl fr σ) H' s' ∧ tn i s'.heap ∧ (∀ b ∈ fp, H' b = none) ∧ W i m ys H' := fun {ys' H' s' m'} I' hm w' => by
        refine ⟨m', hm, i + 1, ys', H', I'.unpinned.weak l8.symm k8, T.keep _ _ _ st7 fun b hb o e => (I'.pin (b, o) (List.mem_append_right _ (List.mem_append_right _ (mem_pinsAt hb e)))).1, fun b hb => ?_, w'⟩
        obtain ⟨o, e, d⟩ := T.obj _ _ st7 b hb
        exact (I'.pin (b, o) (List.mem_append_right _ (List.mem_append_right _ (mem_pinsAt hb e)))).2.1
      cases b with
      | false =>
        rw [if_neg Bool.false_ne_true] at q9 ⊢
        obtain ⟨m', hm, w9⟩ := q9
        exact again I9 hm w9
      | true =>
        rw [if_pos rfl] at q9 ⊢
        refine wpAny_mono (he s3.heap.objs.size s3 H3 fp pins _ s9 σ8 H9 _ I9 q9) (fun yv s10 h10 => ?_) fun _ _ z => z
        obtain ⟨y, H10, I10, r10, hl10, hz10, m', hm, w10⟩ := h10
        refine wpAny_mono (mt_append (X := compCx X scope cl Nc s3.heap.objs.size s3 H3 fp pins) _ s10 σ8 H10 (.ref s2.heap.objs.size) [y] _ [yv] (fun v H' => H' = upd H10 s2.heap.objs.size (.lst (ys ++ [y]))) I10 rfl (.cons r10 .nil) ⟨_, ys, y, rfl, rfl, hl10, hz10, rfl⟩) (fun _ s11 h11 => ?_) fun _ _ z => z
        obtain ⟨_, H11, I11, _, e11⟩ := h11
        subst e11
        exact again I11 hm w10
  have L := loop (s2.toks + ([] : List (Str × Value)).length)
  rw [show s3.gens = s2.gens by rw [← hs3], show s3.drawn = s2.drawn by rw [← hs3], show s3.os = s2.os by rw [← hs3]] at L
  exact codeAny_compStart_list L (T.self _ 0 _ _ _ st4 L)
theorem pe_comp (hc : X.calm = true) (ck : CompOk X scope cl Nc nl fr) (hi : PI X tg iter wi)
    (hg : ∀ C s3 H3 fp pins, PG (compCx X scope cl Nc C s3 H3 fp pins) tg g) (ht : ∀ C s3 H3 fp pins, PIf (compCx X scope cl Nc C s3 H3 fp pins) ifs tt) (he : ∀ C s3 H3 fp pins, PE (compCx X scope cl Nc C s3 H3 fp pins) elt te)
    (hs : ∀ x, foldedSetIterable iter X.env x = pure x := by intro _; rfl) : PE X (.ListComp elt [⟨tg, iter, ifs, 0⟩] scope pos) (tComp wi nl fr g tt te) := by
  intro pins s σ H Q I h
  rw [eval_ListComp]
  refine wpAny_comprehension_free (use := none) rfl hs ck.clos ck.kind ck.names (comp_run (RR := fun acc C => compPost (model X.prog X.w) X.A X.xe none (EP X pins σ Q) acc C) hc ck hi hg ht he I h fun D C s' hh => ?_)
  obtain ⟨H', ⟨m, hm⟩, hI, hF, q⟩ := hh
  exact ⟨m, hm, fun h' hs' => ⟨.ref D, H', hI.off hF hs', rfl, q⟩⟩
theorem ps_setC {i : Nat} {y : Str} {py spos : Pos} (hN : X.N.Nodup) (hiy : X.N[i]? = some y) (hy : X.env.scope.names.lookup y = some .local) (hc : X.calm = true) (ck : CompOk X scope cl Nc nl fr) (hi : PI X tg iter wi)
    (hg : ∀ C s3 H3 fp pins, PG (compCx X scope cl Nc C s3 H3 fp pins) tg g) (ht : ∀ C s3 H3 fp pins, PIf (compCx X scope cl Nc C s3 H3 fp pins) ifs tt) (he : ∀ C s3 H3 fp pins, PE (compCx X scope cl Nc C s3 H3 fp pins) elt te)
    (hsw : swapsWith (.ListComp elt [⟨tg, iter, ifs, 0⟩] scope pos) (some (.Name y py)) spos.line X.env = pure true)
    (hs : ∀ x, foldedSetIterable iter X.env x = pure x := by intro _; rfl) : PS X (.Assign [.Name y py] (.ListComp elt [⟨tg, iter, ifs, 0⟩] scope pos) spos) (tAsg (tComp wi nl fr g tt te) (gName i)) := by
  intro pins s σ H D I h
  rw [exec_Assign_Name_used _ _ _ _ hsw]
  refine wpAny_bind (wpAny_standAt (wpAny_bind ?_))
  show wpAny _ X.A (do let _ ← comprehension (.ListComp elt [⟨tg, iter, ifs, 0⟩] scope pos) scope X.env _ (newList []) false (eval iter X.env) (some (assign (.Name y py) X.env))) _ _ s
  refine wpAny_bind (wpAny_mono (wpAny_comprehension_free (use := some (assign (.Name y py) X.env)) (Q := fun _ s' => SP X pins D .next s') rfl hs ck.clos ck.kind ck.names
    (comp_run (RR := fun acc C => compPost (model X.prog X.w) X.A X.xe (some (assign (.Name y py) X.env)) (fun _ s' => SP X pins D .next s') acc C) hc ck hi hg ht he I h fun Dd C s' hh => ?_)) (fun _ s' hq => wpAny_pure (wpAny_pure hq)) fun _ _ e => e)
  obtain ⟨H', ⟨m, hm⟩, hI, hF, q⟩ := hh
  show wpAny _ X.A (assign (.Name y py) X.env (.ref Dd)) _ _ _
  refine wpAny_assign_Name (store_ok2 hI hN hiy (.inl hy) (v := .ref Dd) rfl (fun s2 I2 hsb => ?_) (.inr hy))
  obtain ⟨a, sb, ha⟩ := hsb
  have hCa : C ≠ a := by
    rcases ha with z | z
    · rw [z]; exact hF.2.1
    · exact Ne.symm (hF.2.2.2.2.1 y a z)
  refine ⟨m, hm.sameBut sb hCa, fun h' hs' => ⟨_, H', I2.off hF hs', q⟩⟩
end
end L2

set_option maxHeartbeats 1000000
namespace Mq
abbrev Q2 := Int × Int
def gc (a b : Int) : Int := (Int.gcd a b : Nat)
theorem gc_step (a b : Int) : gc b (Int.fmod a b) = gc a b := by
  unfold gc
  rw [Int.fmod_def, Int.gcd_comm a b, Int.sub_eq_add_neg, ← Int.mul_neg, Int.gcd_add_mul_left_right]
theorem fmod_less {a b : Int} (h : b ≠ 0) : (Int.fmod a b).natAbs < b.natAbs := by
  rcases (by omega : 0 < b ∨ b < 0) with h1 | h1
  · have := Int.fmod_nonneg_of_pos a h1
    have := Int.fmod_lt_of_pos a h1
    omega
  · have h2 : 0 < -b := by omega
    have e : Int.fmod a b = - Int.fmod (-a) (-b) := by
      rw [Int.neg_fmod_neg]; omega
    have := Int.fmod_nonneg_of_pos (-a) h2
    have := Int.fmod_lt_of_pos (-a) h2
    omega
theorem gc_zero (a : Int) : gc a 0 = if a < 0 then -a else a := by
  unfold gc
  rw [Int.gcd_zero]
  split <;> omega
theorem gc_pos {a b : Int} (h : b ≠ 0) : 0 < gc a b := by
  have := Int.gcd_pos_of_ne_zero_right a h
  unfold gc; omega
structure Low (p : Q2) : Prop where
  pos : 1 ≤ p.2
  one : gc p.1 p.2 = 1
def dvr (t b : Int) : Int := if b < 0 then -gc t b else gc t b
def red (t b : Int) : Q2 := (Int.fdiv t (dvr t b), Int.fdiv b (dvr t b))
theorem dvr_ne {t b : Int} (h : b ≠ 0) : dvr t b ≠ 0 := by
  have := gc_pos (a := t) h
  unfold dvr; split <;> omega
theorem fdiv_exact {a g k : Int} (hg : g ≠ 0) (h : a = g * k) : Int.fdiv a g = k := by
  rw [h, Int.mul_fdiv_cancel_left _ hg]
theorem dvr_dvd (t b : Int) : dvr t b ∣ t ∧ dvr t b ∣ b := by
  have h1 : gc t b ∣ t := Int.gcd_dvd_left t b
  have h2 : gc t b ∣ b := Int.gcd_dvd_right t b
  unfold dvr; split
  · exact ⟨Int.neg_dvd.mpr h1, Int.neg_dvd.mpr h2⟩
  · exact ⟨h1, h2⟩
theorem red_parts {t b : Int} (h : b ≠ 0) : t = dvr t b * (red t b).1 ∧ b = dvr t b * (red t b).2 := by
  obtain ⟨⟨x, hx⟩, ⟨y, hy⟩⟩ := dvr_dvd t b
  have hg := dvr_ne (t := t) h
  have e1 : (red t b).1 = x := fdiv_exact hg hx
  have e2 : (red t b).2 = y := fdiv_exact hg hy
  rw [e1, e2]; exact ⟨hx, hy⟩
theorem red_low {t b : Int} (h : b ≠ 0) : Low (red t b) := by
  obtain ⟨h1, h2⟩ := red_parts (t := t) h
  have hg := dvr_ne (t := t) h
  have hp := gc_pos (a := t) h
  have nd : (dvr t b).natAbs = (gc t b).natAbs := by unfold dvr; split <;> simp
  have e : Int.gcd t b = (dvr t b).natAbs * Int.gcd (red t b).1 (red t b).2 := by
    rw [← Int.gcd_mul_left, ← h1, ← h2]
  have e2 : (gc t b).natAbs = Int.gcd t b := by unfold gc; simp
  rw [nd, e2] at e
  have hp' : 0 < Int.gcd t b := by unfold gc at hp; omega
  have one : Int.gcd (red t b).1 (red t b).2 = 1 := by
    have : Int.gcd t b * Int.gcd (red t b).1 (red t b).2 = Int.gcd t b * 1 := by omega
    exact Nat.eq_of_mul_eq_mul_left hp' this
  refine ⟨?_, by unfold gc; rw [one]; rfl⟩
  have sgn : 0 < (red t b).2 := by
    by_cases hb : b < 0
    · have hd : dvr t b < 0 := by unfold dvr; rw [if_pos hb]; omega
      have hq : ¬ (red t b).2 ≤ 0 := fun q => by
        have := Int.mul_nonneg_of_nonpos_of_nonpos (Int.le_of_lt hd) q
        omega
      omega
    · have hd : 0 < dvr t b := by unfold dvr; rw [if_neg hb]; omega
      have hq : ¬ (red t b).2 ≤ 0 := fun q => by
        have := Int.mul_nonpos_of_nonneg_of_nonpos (Int.le_of_lt hd) q
        omega
      omega
  omega
theorem red_cross {t b : Int} (h : b ≠ 0) : (red t b).1 * b = t * (red t b).2 := by
  obtain ⟨h1, h2⟩ := red_parts (t := t) h
  generalize (red t b).1 = x at *
  generalize (red t b).2 = y at *
  generalize dvr t b = g at *
  subst h1 h2; grind
theorem natAbs_fdiv_le {a g k : Int} (hg : g ≠ 0) (h : a = g * k) : k.natAbs ≤ a.natAbs := by
  rw [h, Int.natAbs_mul]
  exact Nat.le_mul_of_pos_left _ (by omega)
theorem red_le {t b : Int} (h : b ≠ 0) : (red t b).1.natAbs ≤ t.natAbs ∧ (red t b).2.natAbs ≤ b.natAbs := by
  obtain ⟨h1, h2⟩ := red_parts (t := t) h
  exact ⟨natAbs_fdiv_le (dvr_ne h) h1, natAbs_fdiv_le (dvr_ne h) h2⟩
theorem dvr_le {t b : Int} (h : b ≠ 0) : (dvr t b).natAbs ≤ b.natAbs := by
  have e : (dvr t b).natAbs = Int.gcd t b := by unfold dvr gc; split <;> simp
  rw [e]; exact Int.gcd_le_natAbs_right t h
theorem low_same {p q : Q2} (hp : Low p) (hq : Low q) (h : p.1 * q.2 = q.1 * p.2) : p = q := by
  have gp : Int.gcd p.2 p.1 = 1 := by have := hp.one; rw [Int.gcd_comm]; unfold gc at this; omega
  have gq : Int.gcd q.2 q.1 = 1 := by have := hq.one; rw [Int.gcd_comm]; unfold gc at this; omega
  have d1 : p.2 ∣ q.2 := by
    have : p.2 ∣ p.1 * q.2 := ⟨q.1, by rw [h, Int.mul_comm]⟩
    have := Int.dvd_gcd_mul_iff_dvd_mul.mpr this
    rw [gp] at this
    simpa using this
  have d2 : q.2 ∣ p.2 := by
    have : q.2 ∣ q.1 * p.2 := ⟨p.1, by rw [← h, Int.mul_comm]⟩
    have := Int.dvd_gcd_mul_iff_dvd_mul.mpr this
    rw [gq] at this
    simpa using this
  have l1 := Int.le_of_dvd (by have := hq.pos; omega) d1
  have l2 := Int.le_of_dvd (by have := hp.pos; omega) d2
  have e2 : p.2 = q.2 := by omega
  have e1 : p.1 = q.1 := by
    rw [e2] at h
    exact Int.eq_of_mul_eq_mul_right (by have := hq.pos; omega) h
  exact Prod.ext e1 e2
def plus (p q : Q2) : Q2 := red (p.1 * q.2 + q.1 * p.2) (p.2 * q.2)
def minus (p q : Q2) : Q2 := red (p.1 * q.2 - q.1 * p.2) (p.2 * q.2)
def times (p q : Q2) : Q2 := red (p.1 * q.1) (p.2 * q.2)
def tot (l : List Q2) : Q2 := l.foldl plus (0, 1)
theorem mul_ne {a b : Int} (ha : 1 ≤ a) (hb : 1 ≤ b) : a * b ≠ 0 := by
  have := Int.mul_pos (show 0 < a by omega) (show 0 < b by omega)
  omega
theorem plus_low {p q : Q2} (hp : 1 ≤ p.2) (hq : 1 ≤ q.2) : Low (plus p q) := red_low (mul_ne hp hq)
theorem plus_cross {p q : Q2} (hp : 1 ≤ p.2) (hq : 1 ≤ q.2) : (plus p q).1 * (p.2 * q.2) = (p.1 * q.2 + q.1 * p.2) * (plus p q).2 := red_cross (mul_ne hp hq)
def B (n : Nat) (i : Int) : Prop := i.natAbs < 2 ^ n
structure Bd (n : Nat) (p : Q2) : Prop where
  a : B n p.1
  b : B n p.2
theorem B.mono {n m : Nat} {i : Int} (h : B n i) (l : n ≤ m) : B m i := Nat.lt_of_lt_of_le h (Nat.pow_le_pow_right (by decide) l)
theorem B.mul {n m : Nat} {i j : Int} (h : B n i) (q : B m j) : B (n + m) (i * j) := by
  unfold B at *
  rw [Int.natAbs_mul, Nat.pow_add]
  exact Nat.mul_lt_mul'' h q
theorem B.add {n : Nat} {i j : Int} (h : B n i) (q : B n j) : B (n + 1) (i + j) := by
  unfold B at *
  have := Int.natAbs_add_le i j
  rw [Nat.pow_succ]; omega
theorem B.neg {n : Nat} {i : Int} (h : B n i) : B n (-i) := by unfold B at *; omega
theorem B.sub {n : Nat} {i j : Int} (h : B n i) (q : B n j) : B (n + 1) (i - j) := by
  rw [Int.sub_eq_add_neg]; exact h.add q.neg
theorem B.le {n : Nat} {i j : Int} (h : B n i) (l : j.natAbs ≤ i.natAbs) : B n j := Nat.lt_of_le_of_lt l h
theorem Bd.mono {n m : Nat} {p : Q2} (h : Bd n p) (l : n ≤ m) : Bd m p := ⟨h.a.mono l, h.b.mono l⟩
theorem plus_bd {n m : Nat} {p q : Q2} (h : Bd n p) (g : Bd m q) (hp : 1 ≤ p.2) (hq : 1 ≤ q.2) : Bd (n + m + 1) (plus p q) := by
  have k := red_le (t := p.1 * q.2 + q.1 * p.2) (mul_ne hp hq)
  have a2 : B (n + m) (q.1 * p.2) := by rw [Nat.add_comm]; exact g.a.mul h.b
  exact ⟨((h.a.mul g.b).add a2).le k.1, ((h.b.mul g.b).mono (Nat.le_succ _)).le k.2⟩
def D : List Q2 → Int
  | [] => 1
  | f :: r => f.2 * D r
def N : List Q2 → Int
  | [] => 0
  | f :: r => f.1 * D r + f.2 * N r
theorem D_app (xs ys : List Q2) : D (xs ++ ys) = D xs * D ys := by
  induction xs with
  | nil => simp [D]
  | cons x r ih => simp only [List.cons_append, D, ih]; grind
theorem N_app (xs ys : List Q2) : N (xs ++ ys) = N xs * D ys + D xs * N ys := by
  induction xs with
  | nil => simp [N, D]
  | cons x r ih => simp only [List.cons_append, N, D, ih, D_app]; grind
def Pos (l : List Q2) : Prop := ∀ f ∈ l, 1 ≤ f.2
theorem foldl_low {l : List Q2} : ∀ {p : Q2}, Low p → Pos l → Low (l.foldl plus p) := by
  induction l with
  | nil => intro p h _; exact h
  | cons x r ih => intro p h k; exact ih (plus_low h.pos (k x (by simp))) fun f hf => k f (by simp [hf])
theorem low01 : Low (0, 1) := ⟨Int.le_refl 1, rfl⟩
theorem tot_low {l : List Q2} (h : Pos l) : Low (tot l) := foldl_low low01 h
theorem foldl_cross {l : List Q2} : ∀ {p : Q2}, 1 ≤ p.2 → Pos l → (l.foldl plus p).1 * (p.2 * D l) = (p.1 * D l + p.2 * N l) * (l.foldl plus p).2 := by
  induction l with
  | nil => intro p h _; simp [D, N]
  | cons x r ih =>
    intro p h k
    have hx := k x (by simp)
    have kr : Pos r := fun f hf => k f (by simp [hf])
    have c := plus_cross h hx
    have hl := plus_low h hx
    have i := ih hl.pos kr
    simp only [List.foldl_cons, D, N]
    generalize (List.foldl plus (plus p x) r).1 = a at *
    generalize (List.foldl plus (plus p x) r).2 = b at *
    have ne : (plus p x).2 ≠ 0 := by have := hl.pos; omega
    generalize (plus p x).1 = u at *
    generalize (plus p x).2 = v at *
    generalize D r = d at *
    generalize N r = n at *
    have : v * (a * (p.2 * (x.2 * d))) = v * ((p.1 * (x.2 * d) + p.2 * (x.1 * d + x.2 * n)) * b) := by grind
    exact Int.eq_of_mul_eq_mul_left ne this
theorem tot_cross {l : List Q2} (h : Pos l) : (tot l).1 * D l = N l * (tot l).2 := by
  have := foldl_cross (p := (0, 1)) (Int.le_refl 1) h
  unfold tot
  simpa using this
theorem foldl_bd {k : Nat} {l : List Q2} : ∀ {n : Nat} {p : Q2}, Bd n p → Low p → Pos l → (∀ f ∈ l, Bd k f) → Bd (n + (k + 1) * l.length) (l.foldl plus p) := by
  induction l with
  | nil => intro n p h _ _ _; simpa using h
  | cons x r ih =>
    intro n p h hl hp hb
    have q := plus_bd h (hb x (by simp)) hl.pos (hp x (by simp))
    have := ih q (plus_low hl.pos (hp x (by simp))) (fun f hf => hp f (by simp [hf])) fun f hf => hb f (by simp [hf])
    refine this.mono ?_
    simp only [List.length_cons, Nat.mul_add, Nat.mul_one]
    omega
theorem tot_bd {k : Nat} {l : List Q2} (hp : Pos l) (hb : ∀ f ∈ l, Bd k f) : Bd (1 + (k + 1) * l.length) (tot l) :=
  foldl_bd ⟨show (0 : Nat) < 2 ^ 1 by decide, show (1 : Nat) < 2 ^ 1 by decide⟩ low01 hp hb
end Mq

set_option Elab.async false
set_option linter.all false
set_option maxRecDepth 100000
set_option maxHeartbeats 1000000
namespace L2
open PySem PySem.Spec PyProof.Rows
section
variable {X : Cx} {e st : Expr} {te ts : TE} {p2 pos : Pos}
end

structure FunD (K : PySem.W.Frag) (x qual : Str) (st : Stmt) (dV : Value) (f : Addr) (fd : FuncData) : Prop where
  ex : ∃ (oc : Value) (od : Option Addr) (kV doc pm : Value) (an : Option Addr) (cdv ct : Value) (osl : Array (Option Value)),
    fd = PySem.W.fnOf x qual (defArgs st) (defBody st) (defScope st) dV kV doc pm an cdv ct ∧ K.lookup f = some ⟨oc, od, .func fd, osl⟩ ∧ PySem.W.codeIn K cdv qual = true
  kp : PySem.W.keepIn K (.ref f) = true
section
variable {P : Program} {w : World} {K : PySem.W.Frag} {mg : Str → Option Value} {base : Heap} {CX : CXT}
theorem FunD.okX {x qual : Str} {st : Stmt} {dV : Value} {f : Addr} {fd : FuncData} {N ps : List Str} {k : Nat} {sp : Sp} (F : FunD K x qual st dV f fd) (S : FnScope N ps (defScope st)) (len : ∀ vs H Q E, sp vs H Q E → vs.length = ps.length)
    (hbody : ∀ (cdv : Value) (A : Around) (outer : List Env) (s : Shared) (H : Hp) (vs : List V) (Q : VK) (E : XK), Room k (A.deeper (envOfC qual (defScope st) s.heap.objs.size f cdv)) → sp vs H Q E →
      ∃ t, PSs (cxOf CX P w K mg base N qual (defScope st) f cdv A outer s H E) (defBody st) t ∧ t { nx := fun _ H' => Q .non H', rt := Q } (start N vs) H) : FnOk P w K mg base CX (k + 1) f fd ps sp := by
  obtain ⟨oc, od, kV, doc, pm, an, cdv, ct, osl, rfl, lk, hcd⟩ := F.ex
  exact fn_of lk hcd S len fun A outer s H vs Q E hr hsp => hbody cdv A outer s H vs Q E hr hsp
theorem FunD.ok {x qual : Str} {st : Stmt} {dV : Value} {f : Addr} {fd : FuncData} {N ps : List Str} {k : Nat} {sp : Sp} (F : FunD K x qual st dV f fd) (S : FnScope N ps (defScope st)) (len : ∀ vs H Q E, sp vs H Q E → vs.length = ps.length)
    (hbody : ∀ (cdv : Value) (A : Around) (outer : List Env) (s : Shared) (H : Hp) (vs : List V) (Q : VK) (E : XK), Room k (A.deeper (envOfC qual (defScope st) s.heap.objs.size f cdv)) → sp vs H Q E →
      ∃ t, PSs (cxOf CX P w K mg base N qual (defScope st) f cdv A outer s H E).nox (defBody st) t ∧ t { nx := fun _ H' => Q .non H', rt := Q } (start N vs) H) : FnOk P w K mg base CX (k + 1) f fd ps sp :=
  F.okX S len fun cdv A outer s H vs Q E hr hsp => by
    obtain ⟨t, h, q⟩ := hbody cdv A outer s H vs Q E hr hsp
    exact ⟨t, h.nox, q⟩
theorem FunD.binds {x qual : Str} {st : Stmt} {dV : Value} {f : Addr} {fd : FuncData} {ps : List Str} (F : FunD K x qual st dV f fd)
    (h : ∀ (kV doc pm : Value) (an : Option Addr) (cdv ct : Value) (us : List Value), us.length = ps.length → bindArgs (PySem.W.fnOf x qual (defArgs st) (defBody st) (defScope st) dV kV doc pm an cdv ct) ⟨us, []⟩ = pure (ps.zip us)) : Binds K fd ps [] := by
  obtain ⟨oc, od, kV, doc, pm, an, cdv, ct, osl, rfl, lk, hcd⟩ := F.ex
  exact .all (h kV doc pm an cdv ct)
theorem fund_mk {x qual : Str} {st : Stmt} {dV : Value} {f : Addr} {oc : Value} {od an : Option Addr} {osl : Array (Option Value)} {kV doc pm cdv ct : Value} (l : K.lookup f = some ⟨oc, od, .func (PySem.W.fnOf x qual (defArgs st) (defBody st) (defScope st) dV kV doc pm an cdv ct), osl⟩)
    (c : PySem.W.codeIn K cdv qual = true) (k : PySem.W.keepIn K (.ref f) = true) : FunD K x qual st dV f (PySem.W.fnOf x qual (defArgs st) (defBody st) (defScope st) dV kV doc pm an cdv ct) := ⟨⟨oc, od, kV, doc, pm, an, cdv, ct, osl, rfl, l, c⟩, k⟩
end

abbrev fT (p : Mq.Q2) : HO := .tup [.int p.1, .int p.2]
def Fq (K : PySem.W.Frag) (H : Hp) (a : Addr) (p : Mq.Q2) : Prop := SqT K H a [.int p.1, .int p.2]
theorem Same.seqT {K : PySem.W.Frag} {H H' : Hp} {a : Addr} {xs : List V} (e : Same H H') (h : SqT K H a xs) : SqT K H' a xs := by
  rcases h with (h | ⟨o, h⟩) | h
  · exact .inl (.inl (e _ _ h))
  · exact .inl (.inr ⟨o, e _ _ h⟩)
  · exact .inr h
theorem same_new {H : Hp} {p : Addr} (h : H p = none) (o : HO) : Same H (upd H p o) := fun b u q => by rw [upd_ne (ne_of_none q h)]; exact q
theorem Same.fq {K : PySem.W.Frag} {H H' : Hp} {a : Addr} {p : Mq.Q2} (e : Same H H') (h : Fq K H a p) : Fq K H' a p := e.seqT h
theorem Fq.of {K : PySem.W.Frag} {H : Hp} {a : Addr} {p : Mq.Q2} (h : H a = some (fT p)) : Fq K H a p := SqT.of h
theorem rd_ix0 {K : PySem.W.Frag} {σ : St} {H : Hp} {i : Nat} {a : Addr} {p : Mq.Q2} {Q : VK} (hv : σ[i]? = some (some (.ref a))) (h : Fq K H a p) (q : Q (.int p.1) H) : tOp (rIxT K) (tVar i) (tC (.int 0)) σ H Q :=
  ⟨_, hv, a, _, _, _, rfl, rfl, h, rfl, q⟩
theorem rd_ix1 {K : PySem.W.Frag} {σ : St} {H : Hp} {i : Nat} {a : Addr} {p : Mq.Q2} {Q : VK} (hv : σ[i]? = some (some (.ref a))) (h : Fq K H a p) (q : Q (.int p.2) H) : tOp (rIxT K) (tVar i) (tC (.int 1)) σ H Q :=
  ⟨_, hv, a, _, _, _, rfl, rfl, h, rfl, q⟩
theorem rd_mulB {H : Hp} {n m : Nat} {i j : Int} {Q : VK} (h1 : Mq.B n i) (h2 : Mq.B m j) (h3 : n ≤ 1048576) (h4 : m ≤ 1048576) (q : Q (.int (i * j)) H) : rI CBig (fun i j => .int (i * j)) (.int i) (.int j) H Q :=
  ⟨_, _, rfl, rfl, ⟨n, m, h1, h2, h3, h4⟩, q⟩
theorem rd_fdivB {H : Hp} {n : Nat} {i j : Int} {Q : VK} (h1 : j ≠ 0) (h2 : Mq.B n j) (h3 : n ≤ 9000) (q : Q (.int (i.fdiv j)) H) : rI CDivB (fun i j => .int (i.fdiv j)) (.int i) (.int j) H Q :=
  ⟨_, _, rfl, rfl, ⟨h1, n, h2, h3⟩, q⟩
structure Bl (mg : Str → Option Value) : Prop where
  isi : mg "isinstance" = none
  int : mg "int" = none
  bool : mg "bool" = none
  abs : mg "abs" = none
end L2

set_option Elab.async false
set_option linter.all false
namespace L2
open PySem PySem.Spec PyProof.Rows
def NotWhole (t : Value) : Prop := t = .type "bool" ∨ t = .type "str" ∨ t = .type "NoneType" ∨ t = .type "tuple" ∨ t = .type "list"
def spWhole (K : PySem.W.Frag) : Sp := fun vs H Q _ => ∃ x, vs = [x] ∧ ((∃ i, x = .int i ∧ Q (.bl true) H) ∨ (∃ t, TyOf K H x t ∧ NotWhole t ∧ Q (.bl false) H))
def spGc : Sp := fun vs H Q _ => ∃ a b : Int, vs = [.int a, .int b] ∧ Q (.int (Mq.gc a b)) H
def NewF (H : Hp) (Q : VK) (p : Mq.Q2) : Prop := ∀ a H', Same H H' → H' a = some (fT p) → Q (.ref a) H'
def spFrac : Sp := fun vs H Q _ => ∃ (t b : Int) (n : Nat), vs = [.int t, .int b] ∧ b ≠ 0 ∧ Mq.B n b ∧ n ≤ 9000 ∧ NewF H Q (Mq.red t b)
def spTwo (K : PySem.W.Frag) (f : Mq.Q2 → Mq.Q2 → Mq.Q2) : Sp := fun vs H Q _ => ∃ (a b : Addr) (p q : Mq.Q2) (n m : Nat), vs = [.ref a, .ref b] ∧ Fq K H a p ∧ Fq K H b q ∧ 1 ≤ p.2 ∧ 1 ≤ q.2 ∧ Mq.Bd n p ∧ Mq.Bd m q ∧ n + m + 1 ≤ 9000 ∧ NewF H Q (f p q)
inductive Fqs (K : PySem.W.Frag) (H : Hp) : List V → List Mq.Q2 → Prop where
  | nil : Fqs K H [] []
  | cons {a : Addr} {p : Mq.Q2} {xs : List V} {ps : List Mq.Q2} (h : Fq K H a p) (q : Fqs K H xs ps) : Fqs K H (.ref a :: xs) (p :: ps)
theorem Fqs.same {K : PySem.W.Frag} {H H' : Hp} (e : Same H H') : ∀ {xs : List V} {ps : List Mq.Q2}, Fqs K H xs ps → Fqs K H' xs ps
  | _, _, .nil => .nil
  | _, _, .cons h q => .cons (e.fq h) (Fqs.same e q)
theorem Fqs.length {K : PySem.W.Frag} {H : Hp} : ∀ {xs : List V} {ps : List Mq.Q2}, Fqs K H xs ps → xs.length = ps.length
  | _, _, .nil => rfl
  | _, _, .cons _ q => by simp [Fqs.length q]
theorem Fqs.get {K : PySem.W.Frag} {H : Hp} : ∀ {xs : List V} {ps : List Mq.Q2} {i : Nat} {x : V}, Fqs K H xs ps → xs[i]? = some x → ∃ a p, x = .ref a ∧ ps[i]? = some p ∧ Fq K H a p
  | _, _, _, _, .nil, h => by simp at h
  | _, _, 0, _, .cons h _, e => by simp at e; exact ⟨_, _, e.symm, rfl, h⟩
  | _, _, i + 1, _, .cons _ q, e => by simpa using Fqs.get q (by simpa using e)
theorem Fqs.app {K : PySem.W.Frag} {H : Hp} : ∀ {xs ys : List V} {ps qs : List Mq.Q2}, Fqs K H xs ps → Fqs K H ys qs → Fqs K H (xs ++ ys) (ps ++ qs)
  | _, _, _, _, .nil, r => r
  | _, _, _, _, .cons h q, r => .cons h (Fqs.app q r)
theorem Fqs.take {K : PySem.W.Frag} {H : Hp} : ∀ {xs : List V} {ps : List Mq.Q2} (n : Nat), Fqs K H xs ps → Fqs K H (xs.take n) (ps.take n)
  | _, _, _, .nil => by simp; exact .nil
  | _, _, 0, .cons _ _ => .nil
  | _, _, n + 1, .cons h q => .cons h (Fqs.take n q)
end L2

set_option Elab.async false
set_option linter.all false
set_option maxHeartbeats 1000000
namespace L2
open PySem PySem.Spec PyProof.Rows
theorem Fq.upd {K : PySem.W.Frag} {H : Hp} {a l : Addr} {p : Mq.Q2} {xs : List V} {o : HO} (h : Fq K H a p) (hl : H l = some (.lst xs)) : Fq K (L2.upd H l o) a p := by
  rcases h with (h | ⟨u, h⟩) | h
  · exact .inl (.inl (by rw [upd_ne (ne_of h hl (fun z => by cases z))]; exact h))
  · exact .inl (.inr ⟨u, by rw [upd_ne (ne_of h hl (fun z => by cases z))]; exact h⟩)
  · exact .inr h
theorem Fqs.upd {K : PySem.W.Frag} {H : Hp} {l : Addr} {ys : List V} {o : HO} (hl : H l = some (.lst ys)) : ∀ {xs : List V} {ps : List Mq.Q2}, Fqs K H xs ps → Fqs K (L2.upd H l o) xs ps
  | _, _, .nil => .nil
  | _, _, .cons h q => .cons (h.upd hl) (Fqs.upd hl q)
theorem Same.change {H H' : Hp} {l : Addr} {o : HO} (s : Same H H') (h : H l = none) : Same H (L2.upd H' l o) := fun b u q => by
  rw [upd_ne (ne_of_none q h)]; exact s b u q
def qd (p : Mq.Q2) : PyData := .tuple [.int p.1, .int p.2]
theorem Fq.dat {K : PySem.W.Frag} {H : Hp} {a : Addr} {p : Mq.Q2} (h : Fq K H a p) : DatV K H (.ref a) (qd p) := .tup h (.cons (.int _) (.cons (.int _) .nil))
theorem Fqs.dat {K : PySem.W.Frag} {H : Hp} : ∀ {xs : List V} {ps : List Mq.Q2}, Fqs K H xs ps → DatVs K H xs (ps.map qd)
  | _, _, .nil => .nil
  | _, _, .cons h q => .cons h.dat (Fqs.dat q)
theorem qd_lay (p : Mq.Q2) : (qd p).canLay0 = true := rfl
theorem qds_lay : ∀ ps : List Mq.Q2, PyData.canLayAll0 (ps.map qd) = true
  | [] => rfl
  | p :: r => by
    show ((qd p).canLay0 && PyData.canLayAll0 (r.map qd)) = true
    rw [qd_lay, qds_lay r]; rfl
theorem qd_depth (p : Mq.Q2) : (qd p).depth ≤ 1 := by simp [qd, PyData.depth, PyData.depthAll]
theorem qds_depth : ∀ ps : List Mq.Q2, PyData.depthAll (ps.map qd) ≤ 1
  | [] => by simp [PyData.depthAll]
  | p :: r => by
    have a := qd_depth p
    have b := qds_depth r
    simp only [List.map_cons, PyData.depthAll]
    omega
theorem list_depth (ps : List Mq.Q2) : (PyData.list (ps.map qd)).depth ≤ 2 := by
  have := qds_depth ps
  simp only [PyData.depth]; omega
theorem qd_eqv (p q : Mq.Q2) : PyData.eqv (qd p) (qd q) = decide (p = q) := by
  unfold qd
  simp only [PyData.eqv, PyData.eqvAll]
  by_cases h : p = q
  · subst h; simp
  · rw [decide_eq_false h]
    by_cases h1 : p.1 = q.1
    · have h2 : p.2 ≠ q.2 := fun z => h (Prod.ext h1 z)
      simp [h2]
    · simp [h1]
theorem rd_eqF {K : PySem.W.Frag} {H : Hp} {a b : Addr} {p q : Mq.Q2} {neg : Bool} {Q : VK} (h1 : Fq K H a p) (h2 : Fq K H b q) (z : Q (.bl (if neg then !decide (p = q) else decide (p = q))) H) : rDat K neg (.ref a) (.ref b) H Q := by
  refine ⟨_, _, h1.dat, h2.dat, qd_lay p, qd_lay q, ?_, ?_⟩
  · have := qd_depth p; omega
  · rw [qd_eqv]; exact z
theorem rd_eqL {K : PySem.W.Frag} {H : Hp} {a b : Addr} {xs ys : List V} {ps : List Mq.Q2} {neg : Bool} {Q : VK} (h1 : SqL K H a xs) (h2 : SqL K H b ys) (f1 : Fqs K H xs ps) (f2 : Fqs K H ys ps) (z : Q (.bl (!neg)) H) : rDat K neg (.ref a) (.ref b) H Q := by
  refine ⟨_, _, .lst h1 f1.dat, .lst h2 f2.dat, ?_, ?_, ?_, ?_⟩
  · exact qds_lay ps
  · exact qds_lay ps
  · have := list_depth ps; omega
  · have e : PyData.eqv (.list (ps.map qd)) (.list (ps.map qd)) = true := PySem.SeqAt.eqv_refl _ (qds_lay ps)
    rw [e]
    cases neg <;> exact z
end L2

set_option Elab.async false
set_option linter.all false
set_option maxRecDepth 100000
set_option maxHeartbeats 2000000
namespace L2
open PySem PySem.Spec PyProof.Rows
abbrev CompT (nl : Nat) (fr : List Nat) (g : TG) (tt : TT) (te : TE) (σ : St) (D : Addr) (Pv : Nat → List V → Hp → Prop) (i : Nat) (ys : List V) (x : V) (H : Hp) : Prop :=
  g x (σC nl fr σ) H fun σ2 H4 => σ2.length = (σC nl fr σ).length ∧ (∀ (i : Nat) v, (σC nl fr σ)[i]? = some (some v) → σ2[i]? = some (some v)) ∧
    tt σ2 H4 fun b H5 => if b = true then te σ2 H5 fun y H6 => H6 D = some (.lst ys) ∧ ys.length < sizeLine ∧ Pv (i + 1) (ys ++ [y]) (upd H6 D (.lst (ys ++ [y]))) else Pv (i + 1) ys H5
section
variable {nl : Nat} {fr : List Nat} {g : TG} {tt : TT} {te : TE} {σ : St} {D : Addr} {H1 : Hp} {Q : VK}
theorem comp_range {lo : Int} {n : Nat} (Pv : Nat → List V → Hp → Prop) (h0 : Pv 0 [] (upd H1 D (.lst []))) (hl : ∀ i ys H, Pv i ys H → H D = some (.lst ys))
    (hs : ∀ i ys H, i < n → Pv i ys H → ∀ (C : Nat → List V → Hp → Prop), (∀ ys H, Pv (i + 1) ys H → C (i + 1) ys H) → CompT nl fr g tt te σ D C i ys (.int (lo + i)) H) (hd : ∀ ys H, Pv n ys H → Q (.ref D) H) :
    CompW (Itr lo n) nl fr g tt te σ D H1 Q := by
  refine ⟨fun i m ys H => m = n - i ∧ i ≤ n ∧ Pv i ys H, ⟨n, by simp, Nat.zero_le _, h0⟩, ?_⟩
  rintro i m ys H ⟨rfl, hi, p⟩
  refine ⟨hl i ys H p, ?_⟩
  by_cases hlt : i < n
  · refine .inr ⟨hlt, fun x H' y => ?_⟩
    obtain ⟨e, y⟩ := y
    subst e y
    exact hs i ys _ hlt p (fun j zs Hz => ∃ m', m' < n - i ∧ m' = n - j ∧ j ≤ n ∧ Pv j zs Hz) fun zs Hz z => ⟨n - (i + 1), by omega, rfl, hlt, z⟩
  · have e : i = n := by omega
    subst e
    exact .inl ⟨Nat.le_refl _, hd ys H p⟩
theorem comp_list {K : PySem.W.Frag} {a : Addr} {xs : List V} (Pv : Nat → List V → Hp → Prop) (h0 : Pv 0 [] (upd H1 D (.lst []))) (hl : ∀ i ys H, Pv i ys H → H D = some (.lst ys)) (hx : ∀ i ys H, i ≤ xs.length → Pv i ys H → SqL K H a xs)
    (hs : ∀ i ys x H, xs[i]? = some x → Pv i ys H → ∀ (C : Nat → List V → Hp → Prop), (∀ ys H, Pv (i + 1) ys H → C (i + 1) ys H) → CompT nl fr g tt te σ D C i ys x H) (hd : ∀ ys H, Pv xs.length ys H → Q (.ref D) H) :
    CompW (Itl K a) nl fr g tt te σ D H1 Q := by
  refine ⟨fun i m ys H => m = xs.length - i ∧ i ≤ xs.length ∧ Pv i ys H, ⟨xs.length, by simp, Nat.zero_le _, h0⟩, ?_⟩
  rintro i m ys H ⟨rfl, hi, p⟩
  refine ⟨hl i ys H p, ?_⟩
  have q := hx i ys H hi p
  by_cases hlt : i < xs.length
  · refine .inr ⟨⟨xs, xs[i], q, by simp [hlt]⟩, fun x H' y => ?_⟩
    obtain ⟨e, y⟩ := y
    subst e
    exact hs i ys x _ (y xs q) p (fun j zs Hz => ∃ m', m' < xs.length - i ∧ m' = xs.length - j ∧ j ≤ xs.length ∧ Pv j zs Hz) fun zs Hz z => ⟨xs.length - (i + 1), by omega, rfl, hlt, z⟩
  · have e : i = xs.length := by omega
    subst e
    exact .inl ⟨⟨xs, q, Nat.le_refl _⟩, hd ys H p⟩
end
theorem keep1 {fr : List Nat} {σ : St} {x : V} : ((σC 1 fr σ).set 0 (some x)).length = (σC 1 fr σ).length ∧ ∀ (i : Nat) v, (σC 1 fr σ)[i]? = some (some v) → ((σC 1 fr σ).set 0 (some x))[i]? = some (some v) := by
  refine ⟨by simp, fun i v h => ?_⟩
  match i with
  | 0 => unfold σC at h; simp at h
  | k + 1 => rw [List.getElem?_set_ne (by omega)]; exact h
theorem has_of {names : List (Str × NameKind)} {cl : List (Str × Addr)} (h : names.all (fun y => !(y.2 == .cell || y.2 == .free) || (cl.lookup y.1).isSome) = true) (x : Str) (hx : names.lookup x = some .cell ∨ names.lookup x = some .free) : ∃ c, cl.lookup x = some c := by
  have key : ∀ k, (k = NameKind.cell ∨ k = NameKind.free) → names.lookup x = some k → ∃ c, cl.lookup x = some c := fun k hk e => by
    have m := List.all_eq_true.mp h _ (PySem.mem_of_lookup e)
    have : (k == NameKind.cell || k == NameKind.free) = true := by rcases hk with rfl | rfl <;> rfl
    simp only [this, Bool.not_true, Bool.false_or] at m
    exact Option.isSome_iff_exists.mp m
  rcases hx with e | e
  · exact key _ (.inl rfl) e
  · exact key _ (.inr rfl) e
end L2

set_option Elab.async false
set_option linter.all false
set_option maxRecDepth 100000
set_option maxHeartbeats 2000000
namespace L2
open PySem PySem.Spec PyProof.Rows
section
variable {X : Cx} {pins : List (Addr × Obj)} {σ : St} {H : Hp} {s : Shared} {h' : Heap}
theorem Inv.turnedL {t' : Nat} {fp : List Addr} (I : Inv X pins σ H s) (k : ∀ b o, b ∉ fp → s.heap.get? b = some o → h'.get? b = some o) (hf : ∀ b ∈ fp, FpOk X pins H b) : Inv X pins σ H { s with heap := h', toks := t' } := by
  have nit : ∀ b u, H b = some u → b ∉ fp := fun b u e z => by rw [(hf b z).1] at e; cases e
  have nL : X.env.locals ∉ fp := fun z => (hf _ z).2.1 rfl
  refine I.step (g' := s.gens) (d' := s.drawn) (ch := fp) (fun b hb => ?_) (fun b o _ _ hc e _ => k b o hc e) (fun b o _ _ hc e _ => ⟨o.slots, k b o hc e⟩) (fun _ _ _ _ n => n)
    (fun b o hc e => ⟨o, k b o hc e⟩) (fun _ _ e => e) (fun _ _ _ e => e) (fun b ps e => ⟨#[], by rw [e]; simp⟩) (fun m hm => ?_) (fun b u e => ?_) I.bare
  · obtain ⟨f0, f1, f2, f3, f4, f5⟩ := hf b hb
    exact ⟨f3, f1, f4, f5⟩
  · obtain ⟨o, es, ep, ho, r⟩ := hm
    exact ⟨o, es, ep, k _ o nL ho, r⟩
  · refine (I.hok b u e).stay (fun c v hc q => k c v ?_ q) (fun _ q => q) fun _ _ q => q
    rcases hc with z | z
    · rw [z]; exact nit b u e
    · exact nit c _ z
end
def Itz (K : PySem.W.Frag) (a b : Addr) : It :=
  ⟨fun i H => ∃ xs ys x y, SqL K H a xs ∧ SqL K H b ys ∧ xs[i]? = some x ∧ ys[i]? = some y,
   fun i H v H' => ∃ T x y, v = .ref T ∧ H T = none ∧ H' = upd H T (.tup [x, y]) ∧ ∀ xs ys, SqL K H a xs → SqL K H b ys → xs[i]? = some x ∧ ys[i]? = some y,
   fun i H => ∃ xs ys, SqL K H a xs ∧ SqL K H b ys ∧ (xs.length ≤ i ∨ ys.length ≤ i)⟩
def ZipTn (z TI TO i1 i2 l1 l2 : Addr) (i : Nat) (h : Heap) : Prop :=
  ZipApart z TI TO i1 i2 l1 l2 ∧ IsZip h z TI TO .none ∧ IsPair h TI (.ref i1) (.ref i2) ∧ (∃ a b, IsPair h TO a b) ∧ h.IsListIter i1 l1 i ∧ h.IsListIter i2 l2 i
theorem turn_zip {P : Program} {w : World} {K : PySem.W.Frag} {elts : List Expr} {kk : Nat} {tpos : Pos} (z TI TO i1 i2 l1 l2 : Addr) :
    Turn P w K (.Tuple elts kk tpos) (Itz K l1 l2) [z, TI, TO, i1, i2] z (ZipTn z TI TO i1 i2 l1 l2) where
  mem := by simp
  obj := fun i h st b hb => by
    obtain ⟨ap, hz, hi, ⟨a, c, ho⟩, ⟨o1, e1, c1, d1⟩, ⟨o2, e2, c2, d2⟩⟩ := st
    simp only [List.mem_cons, List.not_mem_nil, or_false] at hb
    rcases hb with rfl | rfl | rfl | rfl | rfl
    · exact ⟨_, hz, fun v q => by cases q⟩
    · exact ⟨_, hi, fun v q => by cases q⟩
    · exact ⟨_, ho, fun v q => by cases q⟩
    · exact ⟨o1, e1, fun v q => by rw [d1] at q; cases q⟩
    · exact ⟨o2, e2, fun v q => by rw [d2] at q; cases q⟩
  keep := fun i h h' st k => by
    obtain ⟨ap, hz, hi, ⟨a, c, ho⟩, ⟨o1, e1, c1, d1⟩, ⟨o2, e2, c2, d2⟩⟩ := st
    exact ⟨ap, k _ (by simp) _ hz, k _ (by simp) _ hi, ⟨a, c, k _ (by simp) _ ho⟩, ⟨o1, k _ (by simp) _ e1, c1, d1⟩, ⟨o2, k _ (by simp) _ e2, c2, d2⟩⟩
  item := by
    intro X hP hw hK hc i pins s σ H E I hf st hg
    subst hP hw hK
    obtain ⟨ap, hz, hi, ⟨a, c, ho⟩, t1, t2⟩ := st
    obtain ⟨xs, ys, x, y, hx, hy, ex, ey⟩ := hg
    obtain ⟨its1, rv1, p1, z1⟩ := I.list hx
    obtain ⟨its2, rv2, p2, z2⟩ := I.list hy
    obtain ⟨u1, hu1, ru1⟩ := rv1.get ex
    obtain ⟨u2, hu2, ru2⟩ := rv2.get ey
    refine wpAny_pyNext_zip_item ap hz hi ho t1 t2 p1.isList p2.isList (x := u1) (y := u2) (by simpa using hu1) (by simpa using hu2) fun h' g1 g2 g3 g4 g5 g6 kk' => ?_
    have hn : H s.heap.objs.size = none := I.hok.fresh (Nat.le_refl _)
    have lt : ∀ b ∈ [z, TI, TO, i1, i2], b < s.heap.objs.size := fun b hb => by
      simp only [List.mem_cons, List.not_mem_nil, or_false] at hb
      obtain ⟨o1, e1, _⟩ := t1
      obtain ⟨o2, e2, _⟩ := t2
      rcases hb with rfl | rfl | rfl | rfl | rfl
      · exact Heap.lt_size hz
      · exact Heap.lt_size hi
      · exact Heap.lt_size ho
      · exact Heap.lt_size e1
      · exact Heap.lt_size e2
    have I1 : Inv X pins σ (upd H s.heap.objs.size (.tup [x, y])) { s with heap := s.heap.push { cls := .type "tuple", data := .seq #[u1, u2] } } :=
      I.laid (t' := s.toks) (fun b o e => Heap.get?_push_of_some _ e) (Nat.le_refl _) (show ObjOk X.prog X.w _ _ _ (.tup [x, y]) from ⟨by show 2 ≤ sizeLine; decide, [u1, u2], .cons ru1 (.cons ru2 .nil), IsTup.new _ _⟩)
    have hf1 : ∀ b ∈ [z, TI, TO, i1, i2], FpOk X pins (upd H s.heap.objs.size (.tup [x, y])) b := fun b hb => ⟨by rw [upd_ne (Nat.ne_of_lt (lt b hb))]; exact (hf b hb).1, (hf b hb).2⟩
    have k1 : ∀ b o, b ∉ [z, TI, TO, i1, i2] → (s.heap.push { cls := .type "tuple", data := .seq #[u1, u2] }).get? b = some o → h'.get? b = some o := fun b o nb e => by
      simp only [List.mem_cons, List.not_mem_nil, or_false, not_or] at nb
      by_cases hb : b = s.heap.objs.size
      · subst hb
        rw [Heap.get?_push_size _ rfl] at e
        cases e
        exact g5
      · have e0 : s.heap.get? b = some o := by rw [Heap.get?_push_ne _ _ _ hb] at e; exact e
        exact kk' b o nb.1 nb.2.2.1 nb.2.2.2.1 nb.2.2.2.2 e0
    have I2 : Inv X pins σ (upd H s.heap.objs.size (.tup [x, y])) { s with heap := h', toks := s.toks } := I1.turnedL (t' := s.toks) k1 hf1
    refine ⟨_, rfl, wpAny_letOwnedTupleGo_zip (s := { s with heap := h' }) g1 fun h2 q1 q2 => ?_⟩
    have kz : ∀ b o, b ≠ z → h'.get? b = some o → h2.get? b = some o := fun b o nb e => (q2.2 b nb).trans e
    have I3 : Inv X pins σ (upd H s.heap.objs.size (.tup [x, y])) { s with heap := h2, toks := s.toks } := Inv.turnedL (s := { s with heap := h', toks := s.toks }) (t' := s.toks) (fp := [z]) I2 (fun b o nb e => kz b o (by simpa using nb) e) fun b hb => hf1 b (by simp at hb; simp [hb])
    have hTI : h'.get? TI = some { cls := .type "tuple", data := .seq #[.ref i1, .ref i2] } := kk' TI _ ap.TIz ap.TITO ap.TIi1 ap.TIi2 hi
    obtain ⟨o3, e3, c3, d3⟩ := g3
    obtain ⟨o4, e4, c4, d4⟩ := g4
    refine ⟨.ref s.heap.objs.size, _, I3, rfl, ⟨_, x, y, rfl, hn, rfl, fun xs' ys' h1 h2 => ?_⟩, ⟨ap, q1, kz _ _ ap.TIz hTI, ⟨_, _, kz _ _ ap.TOz g2⟩, ⟨o3, kz _ _ ap.i1z e3, c3, d3⟩, ⟨o4, kz _ _ ap.i2z e4, c4, d4⟩⟩, fun b hb => (hf1 b hb).1⟩
    rw [I.list_inj h1 hx, I.list_inj h2 hy]
    exact ⟨ex, ey⟩
  done := by
    intro X hP hw hK hc i pins s σ H E I hf st hg
    subst hP hw hK
    obtain ⟨ap, hz, hi, ⟨a, c, ho⟩, t1, t2⟩ := st
    obtain ⟨xs, ys, hx, hy, hor⟩ := hg
    obtain ⟨its1, rv1, p1, z1⟩ := I.list hx
    obtain ⟨its2, rv2, p2, z2⟩ := I.list hy
    have l1' := rv1.length
    have l2' := rv2.length
    refine wpAny_pyNext_zip_end (I.ok.hd hc) ap hz hi ho t1 t2 p1.isList p2.isList (by rcases hor with h | h; left; simp; omega; right; simp; omega) fun h' kk' => ⟨rfl, ?_⟩
    refine I.turnedL (t' := s.toks) (fun b o nb e => ?_) hf
    simp only [List.mem_cons, List.not_mem_nil, or_false, not_or] at nb
    exact kk' b o nb.1 nb.2.2.1 nb.2.2.2.1 nb.2.2.2.2 e
  self := fun A i s Q E st h => by
    obtain ⟨ap, hz, hi, ⟨a, c, ho⟩, t1, t2⟩ := st
    exact wpAny_pyIter_zip hz h
section
variable {X : Cx}
def iZip (K : PySem.W.Frag) (ta : TA) : TI := fun σ H R => ta σ H fun vs H1 => ∃ a b, vs = [.ref a, .ref b] ∧ (∃ xs, SqL K H1 a xs) ∧ (∃ ys, SqL K H1 b ys) ∧ R (Itz K a b) H1
theorem pi_zip {e1 e2 : Expr} {ta : TA} {p pos : Pos} {elts : List Expr} {kk : Nat} {tpos : Pos} (hg : Gl X "zip") (hm : X.mg "zip" = none) (hv : bootBuiltins "zip" = some (.type "zip")) (ha : PA X [e1, e2] ta)
    (hs : starEach [e1, e2] X.env = (false, eval e1 X.env) :: starEach [e2] X.env := by rfl) (hpl : (backTo pos (starEach [e2] X.env)).any (·.1) = false := by rfl) : PI X (.Tuple elts kk tpos) (.Call (.Name "zip" p) [e1, e2] [] pos) (iZip X.K ta) := by
  intro pins s σ H R I h
  refine Call_ (ld_blt I hg hm hv (PyProof.Rows.callWith_type1 (thn (ha pos pins s σ H _ I h) fun us s1 ⟨vs, H1, I1, r1, q1⟩ => ?_) hs hpl))
  obtain ⟨a, b, rfl, ⟨xs, hx⟩, ⟨ys, hy⟩, q⟩ := q1
  obtain ⟨u, w', rfl, ra, rb⟩ := vals2 r1
  cases (show u = Value.ref a from ra)
  cases (show w' = Value.ref b from rb)
  obtain ⟨its1, rv1, p1, z1⟩ := I1.list hx
  obtain ⟨its2, rv2, p2, z2⟩ := I1.list hy
  have la : a < s1.heap.objs.size := by obtain ⟨o, e, _⟩ := p1.isList; exact Heap.lt_size e
  have lb : b < s1.heap.objs.size := by obtain ⟨o, e, _⟩ := p2.isList; exact Heap.lt_size e
  refine call_zip_2 p1.isList p2.isList fun h' g1 g2 g3 g4 g5 g6 kk' => ?_
  refine wpAny_pyIter_zip g1 ?_
  have ne : ∀ i j : Nat, i ≠ j → s1.heap.objs.size + i ≠ s1.heap.objs.size + j := fun i j n e => n (Nat.add_left_cancel e)
  have nl : ∀ (c : Addr) (i : Nat), c < s1.heap.objs.size → c ≠ s1.heap.objs.size + i := fun c i l e => absurd (Nat.lt_of_lt_of_le l (Nat.le_add_right _ i)) (by rw [← e]; exact Nat.lt_irrefl _)
  have n0 : ∀ j : Nat, j ≠ 0 → s1.heap.objs.size + j ≠ s1.heap.objs.size := fun j n e => n (Nat.add_left_cancel (e.trans (Nat.add_zero _).symm))
  refine ⟨s1.heap.objs.size + 4, [s1.heap.objs.size + 4, s1.heap.objs.size + 2, s1.heap.objs.size + 3, s1.heap.objs.size, s1.heap.objs.size + 1], _, Itz X.K a b, H1, rfl, I1.kept (t' := s1.toks) kk', turn_zip _ _ _ _ _ a b, ⟨?_, g1, g2, ⟨_, _, g3⟩, g4, g5⟩, fun c hc => ?_, q⟩
  · exact ⟨ne 2 4 (by decide), ne 3 4 (by decide), (n0 4 (by decide)).symm, ne 1 4 (by decide), ne 2 3 (by decide), n0 2 (by decide), ne 2 1 (by decide), n0 3 (by decide), ne 3 1 (by decide), (n0 1 (by decide)).symm,
      nl a 4 la, nl a 3 la, Nat.ne_of_lt la, nl a 1 la, nl b 4 lb, nl b 3 lb, Nat.ne_of_lt lb, nl b 1 lb⟩
  · have hle : s1.heap.objs.size ≤ c := by
      simp only [List.mem_cons, List.not_mem_nil, or_false] at hc
      rcases hc with rfl | rfl | rfl | rfl | rfl <;> first | exact Nat.le_add_right _ _ | exact Nat.le_refl _
    exact I1.fpOk hle (I1.hok.fresh hle)
theorem for_zip {K : PySem.W.Frag} {a b : Addr} {xs ys : List V} {g : TG} {tb : TS} {D : Ends} {σ : St} {H : Hp} (Pv : Nat → St → Hp → Prop) (h0 : Pv 0 σ H) (hl : ∀ i σ H, i ≤ min xs.length ys.length → Pv i σ H → SqL K H a xs ∧ SqL K H b ys)
    (hs : ∀ i x y σ H T, xs[i]? = some x → ys[i]? = some y → Pv i σ H → H T = none → g (.ref T) σ (upd H T (.tup [x, y])) fun σ2 H2 => tb { D with nx := Pv (i + 1), ct := Pv (i + 1), bk := D.nx } σ2 H2) (hd : ∀ σ H, Pv (min xs.length ys.length) σ H → D.nx σ H) :
    ∃ W : Nat → Nat → St → Hp → Prop, (∃ m, W 0 m σ H) ∧ ∀ i m σ H, W i m σ H →
      ((Itz K a b).stop i H ∧ D.nx σ H) ∨ ((Itz K a b).go i H ∧ ∃ N : St → Hp → Prop, (∀ σ' H', N σ' H' → ∃ m', m' < m ∧ W (i + 1) m' σ' H') ∧ ∀ x H', (Itz K a b).yld i H x H' → g x σ H' fun σ2 H2 => tb { D with nx := N, ct := N, bk := D.nx } σ2 H2) := by
  refine ⟨fun i m σ H => m = min xs.length ys.length - i ∧ i ≤ min xs.length ys.length ∧ Pv i σ H, ⟨_, rfl, Nat.zero_le _, h0⟩, ?_⟩
  rintro i m σ H ⟨rfl, hi, p⟩
  obtain ⟨qx, qy⟩ := hl i σ H hi p
  by_cases hlt : i < min xs.length ys.length
  · have hx : i < xs.length := by omega
    have hy : i < ys.length := by omega
    refine .inr ⟨⟨xs, ys, xs[i], ys[i], qx, qy, by simp [hx], by simp [hy]⟩, Pv (i + 1), fun σ' H' p' => ⟨min xs.length ys.length - (i + 1), by omega, rfl, hlt, p'⟩, fun v H' z => ?_⟩
    obtain ⟨T, x, y, rfl, hT, rfl, hh⟩ := z
    obtain ⟨ex, ey⟩ := hh xs ys qx qy
    exact hs i x y σ H T ex ey p hT
  · have e : i = min xs.length ys.length := by omega
    subst e
    exact .inl ⟨⟨xs, ys, qx, qy, by omega⟩, hd σ H p⟩
theorem comp_zip {K : PySem.W.Frag} {a b : Addr} {xs ys : List V} {nl : Nat} {fr : List Nat} {g : TG} {tt : TT} {te : TE} {σ : St} {D : Addr} {H1 : Hp} {Q : VK} (Pv : Nat → List V → Hp → Prop) (h0 : Pv 0 [] (upd H1 D (.lst []))) (hl : ∀ i zs H, Pv i zs H → H D = some (.lst zs)) (hx : ∀ i zs H, i ≤ min xs.length ys.length → Pv i zs H → SqL K H a xs ∧ SqL K H b ys)
    (hs : ∀ i zs x y H T, xs[i]? = some x → ys[i]? = some y → Pv i zs H → H T = none → ∀ (C : Nat → List V → Hp → Prop), (∀ zs H, Pv (i + 1) zs H → C (i + 1) zs H) → CompT nl fr g tt te σ D C i zs (.ref T) (upd H T (.tup [x, y]))) (hd : ∀ zs H, Pv (min xs.length ys.length) zs H → Q (.ref D) H) :
    CompW (Itz K a b) nl fr g tt te σ D H1 Q := by
  refine ⟨fun i m zs H => m = min xs.length ys.length - i ∧ i ≤ min xs.length ys.length ∧ Pv i zs H, ⟨_, rfl, Nat.zero_le _, h0⟩, ?_⟩
  rintro i m zs H ⟨rfl, hi, p⟩
  refine ⟨hl i zs H p, ?_⟩
  obtain ⟨qx, qy⟩ := hx i zs H hi p
  by_cases hlt : i < min xs.length ys.length
  · have hx' : i < xs.length := by omega
    have hy' : i < ys.length := by omega
    refine .inr ⟨⟨xs, ys, xs[i], ys[i], qx, qy, by simp [hx'], by simp [hy']⟩, fun v H' z => ?_⟩
    obtain ⟨T, x, y, rfl, hT, rfl, hh⟩ := z
    obtain ⟨ex, ey⟩ := hh xs ys qx qy
    exact hs i zs x y H T ex ey p hT (fun j zs Hz => ∃ m', m' < min xs.length ys.length - i ∧ m' = min xs.length ys.length - j ∧ j ≤ min xs.length ys.length ∧ Pv j zs Hz) fun zs Hz z => ⟨min xs.length ys.length - (i + 1), by omega, rfl, hlt, z⟩
  · have e : i = min xs.length ys.length := by omega
    subst e
    exact .inl ⟨⟨xs, ys, qx, qy, by omega⟩, hd zs H p⟩
end
end L2

set_option Elab.async false
set_option linter.all false
set_option maxRecDepth 100000
set_option maxHeartbeats 2000000
namespace L2
open PySem PySem.Spec PyProof.Rows
section
variable {X : Cx}
end
end L2

set_option Elab.async false
set_option linter.all false
set_option maxRecDepth 100000
set_option maxHeartbeats 1000000
namespace L2
open PySem PySem.Spec PyProof.Rows

def Tb (h0 : Heap) (H : Hp) (h : Heap) (a : Addr) (v : Value) : Prop :=
  v = .none ∨ ∃ T oT ts, v = .ref T ∧ T ≠ a ∧ h0.get? T = none ∧ H T = none ∧ h.get? T = some oT ∧ oT.data = .fields ts ∧ ts[3]? = some .none
structure Fl (h0 : Heap) (H : Hp) (h : Heap) (a : Addr) (C : Value) (d : Option Addr) : Prop where
  new : h0.get? a = none
  free : H a = none
  at_ : ∃ oe vs v, h.get? a = some oe ∧ oe.cls = C ∧ oe.dict = d ∧ oe.data = .fields vs ∧ vs[1]? = some v ∧ Tb h0 H h a v
theorem Fl.older {h0 h1 : Heap} {H : Hp} {h : Heap} {a : Addr} {C : Value} {d : Option Addr} (F : Fl h0 H h a C d) (k : ∀ b, h0.get? b = none → h1.get? b = none) : Fl h1 H h a C d := by
  obtain ⟨n, f, oe, vs, v, e1, e2, e3, e4, e5, t⟩ := F
  refine ⟨k _ n, f, oe, vs, v, e1, e2, e3, e4, e5, ?_⟩
  rcases t with t | ⟨T, oT, ts, t1, t2, t3, t4⟩
  · exact .inl t
  · exact .inr ⟨T, oT, ts, t1, t2, k _ t3, t4⟩

theorem dict_mapFields (f : Array Value → Array Value) (o : Obj) : (o.mapFields f).dict = o.dict := by
  obtain ⟨c, d, dt, sl⟩ := o
  cases dt <;> rfl
section
variable {M : Model} {A : Around} {E : Value → Shared → Prop} {s : Shared}
theorem entry_raw {base : Heap} {env : Env} {outer : List Env} {L e : Addr} {oe : Obj} {vs : Array Value} {head : Value} {hadNext : Bool} {Q : Unit → Shared → Prop}
    (hfr : A.frames = some (env :: outer)) (hl : s.heap.FunFrames base (env :: outer)) (hf : env.frame = some L)
    (he : s.heap.get? e = some oe) (hd : oe.data = .fields vs) (hsz : 1 < vs.size)
    (h : ∀ h' T oT ts, s.heap.objs.size ≤ T → (∀ b o, b ∉ frs (env :: outer) → b ≠ e → s.heap.get? b = some o → h'.get? b = some o) → (∀ b o, b ∈ frs (env :: outer) → s.heap.get? b = some o → ∃ sl, h'.get? b = some { o with slots := sl }) →
      h'.get? e = some (oe.mapFields (·.setIfInBounds 1 (.ref T))) → h'.get? T = some oT → oT.data = .fields ts → ts[3]? = some .none → T ≠ e → Q () { s with heap := h' }) :
    wpAny M A (do let a ← frameOf env; let pl ← entryPlaceOf L hadNext; let b ← EntryCells.newEntry head a .none (rawInt L) .none pl; setField (.ref e) 1 b) (fun _ s' => wpAny M A (setFlight (.ref e) none) Q E s') E s := by
  have hene : e ∉ frs (env :: outer) := fun hm => by
    obtain ⟨_, o, ho, hnf⟩ := hl.mem hm
    rw [he] at ho; injection ho with ho; subst ho; exact hnf vs hd
  refine wpAny_bind (wpAny_frameOf_fun hfr hl hf fun h₁ hs₁ => ?_)
  refine wpAny_bind (wpAny_entryPlaceOf fun pl hpl => ?_)
  unfold EntryCells.newEntry newFields
  refine wpAny_bind (wpAny_newObj_type ?_ (hpl.sizeOk5 _ _ _ _ _))
  have he₁ : h₁.get? e = some oe := (hs₁.2.1 e hene).trans he
  have he₂ := Heap.get?_push_of_some (h := h₁) { cls := .type "traceback", dict := none, data := .fields ([head, .ref L, .none, rawInt L, .none] ++ (if pl.isEmpty then List.replicate 6 Value.none else pl)).toArray } he₁
  refine wpAny_setField he₂ hd hsz ?_
  have hTe : h₁.objs.size ≠ e := Nat.ne_of_gt (Heap.lt_size he₁)
  have hd₃ := Obj.data_mapFields hd (·.setIfInBounds 1 (Value.ref h₁.objs.size))
  have he₃ := Heap.get?_update_self (Obj.mapFields (·.setIfInBounds 1 (Value.ref h₁.objs.size))) he₂ (Obj.isFreed_of_fields hd₃)
  have hT₃ := (Heap.get?_update_other (h₁.push { cls := .type "traceback", dict := none, data := .fields ([head, .ref L, .none, rawInt L, .none] ++ (if pl.isEmpty then List.replicate 6 Value.none else pl)).toArray })
    (Obj.mapFields (·.setIfInBounds 1 (Value.ref h₁.objs.size))) (Ne.symm hTe)).trans (Heap.get?_push_size h₁ rfl)
  unfold setFlight
  refine wpAny_bind (wpAny_field he₃ hd₃ (x := .ref h₁.objs.size) (by simp [hsz]) ?_)
  rw [if_pos (show (Value.ref h₁.objs.size != Value.none) = true from by simp)]
  have keep : ∀ b o, b ≠ e → h₁.get? b = some o →
      (((h₁.push { cls := .type "traceback", dict := none, data := .fields ([head, .ref L, .none, rawInt L, .none] ++ (if pl.isEmpty then List.replicate 6 Value.none else pl)).toArray }).update e (Obj.mapFields (·.setIfInBounds 1 (Value.ref h₁.objs.size)))).update h₁.objs.size
        (Obj.mapFields (·.setIfInBounds 3 ((none : Option Addr).elim Value.none fun f => rawInt f)))).get? b = some o := fun b o hbe hb => by
    have hbT : h₁.objs.size ≠ b := Nat.ne_of_gt (Heap.lt_size hb)
    rw [Heap.get?_update_other _ _ hbT, Heap.get?_update_other _ _ (Ne.symm hbe)]
    exact Heap.get?_push_of_some _ hb
  refine wpAny_setField hT₃ rfl (by simp only [List.size_toArray, List.length_append, List.length_cons, List.length_nil] <;> omega) (h _ h₁.objs.size _ _ (Nat.le_of_eq hs₁.1.symm) ?_ ?_ ?_
    (Heap.get?_update_self _ hT₃ (Obj.isFreed_of_fields (Obj.data_mapFields rfl _))) (Obj.data_mapFields rfl _) ?_ hTe)
  · exact fun b o hb hbe q => keep b o hbe ((hs₁.2.1 b hb).trans q)
  · intro b o hb q
    obtain ⟨sl, e1⟩ := hs₁.2.2 b o q
    exact ⟨sl, keep b _ (fun z => hene (z ▸ hb)) e1⟩
  · rw [Heap.get?_update_other _ _ hTe]; exact he₃
  · first | (simp; done) | (rcases hpl with rfl | ⟨_, _, _, _, _, _, _, rfl⟩ <;> simp)

theorem note_raw {base h0 : Heap} {H : Hp} {env : Env} {outer : List Env} {L e : Addr} {C : Value} {d : Option Addr} {Q : Unit → Shared → Prop}
    (hfr : A.frames = some (env :: outer)) (hl : s.heap.FunFrames base (env :: outer)) (hf : env.frame = some L) (F : Fl h0 H s.heap e C d)
    (hnew : ∀ b, s.heap.objs.size ≤ b → h0.get? b = none ∧ H b = none)
    (h : ∀ (h' : Heap) (ch : List Addr), (∀ b ∈ ch, h0.get? b = none ∧ H b = none ∧ ∃ o vs, s.heap.get? b = some o ∧ o.data = .fields vs) → (∀ b o, b ∉ frs (env :: outer) → b ∉ ch → s.heap.get? b = some o → h'.get? b = some o) →
      (∀ b o, b ∈ frs (env :: outer) → s.heap.get? b = some o → ∃ sl, h'.get? b = some { o with slots := sl }) → Fl h0 H h' e C d → Q () { s with heap := h' }) :
    wpAny M A (noteFrame (.ref e) env) (fun _ s' => wpAny M A (setFlight (.ref e) none) Q E s') E s := by
  obtain ⟨n, f, oe, vs, v, e1, e2, e3, e4, e5, t⟩ := F
  have hsz : 1 < vs.size := (Array.getElem?_eq_some_iff.mp e5).1
  have fin : ∀ {h' : Heap} {T : Addr} {oT : Obj} {ts : Array Value}, s.heap.objs.size ≤ T → h'.get? e = some (oe.mapFields (·.setIfInBounds 1 (.ref T))) → h'.get? T = some oT → oT.data = .fields ts → ts[3]? = some .none → T ≠ e → Fl h0 H h' e C d := by
    intro h' T oT ts z he hT hd h3 hTe
    refine ⟨n, f, _, _, .ref T, he, ?_, ?_, Obj.data_mapFields e4 _, by simp [hsz], .inr ⟨T, oT, ts, rfl, hTe, (hnew T z).1, (hnew T z).2, hT, hd, h3⟩⟩
    · rw [Obj.cls_mapFields]; exact e2
    · rw [dict_mapFields]; exact e3
  rcases t with rfl | ⟨T, oT, ts, rfl, t2, t3, t4, t5, t6, t7⟩
  · unfold noteFrame
    simp only [hf]
    refine wpAny_bind (wpAny_field e1 e4 e5 ?_)
    rw [if_neg (by decide)]
    refine entry_raw hfr hl hf e1 e4 hsz fun h' T oT ts z k1 k2 he hT hd h3 hTe => ?_
    refine h h' [e] (fun b hb => ?_) (fun b o h1 h2 q => k1 b o h1 (fun w => h2 (by simp [w])) q) k2 (fin z he hT hd h3 hTe)
    have hb : b = e := by simpa using hb
    subst hb
    exact ⟨n, f, _, _, e1, e4⟩
  · unfold noteFrame
    simp only [hf]
    refine wpAny_bind (wpAny_field e1 e4 e5 ?_)
    rw [if_pos (show (Value.ref T != Value.none) = true from by simp)]
    refine wpAny_bind (wpAny_field t5 t6 t7 ?_)
    rw [if_neg (show ¬ ((Value.none == rawInt L) = true) from by simp [rawInt])]
    refine wpAny_bind (wpAny_setField t5 t6 (Array.getElem?_eq_some_iff.mp t7).1 ?_)
    have other : ∀ b, b ≠ T → (s.heap.update T (Obj.mapFields (·.setIfInBounds 3 Value.none))).get? b = s.heap.get? b := fun b hb => Heap.get?_update_other _ _ (Ne.symm hb)
    have noRecord : ∀ b o, s.heap.get? b = some o → (∀ vs, o.data ≠ .fields vs) → b ≠ T := fun b o hb hnf q => by
      rw [q, t5] at hb; injection hb with hb; subst hb; exact hnf ts t6
    have nofr : ∀ b, b ∈ frs (env :: outer) → b ≠ T := fun b hb => by
      obtain ⟨_, o, ho, hnf⟩ := hl.mem hb
      exact noRecord b o ho hnf
    refine entry_raw (s := { s with heap := s.heap.update T (Obj.mapFields (·.setIfInBounds 3 Value.none)) }) (base := base) hfr (hl.of_keeps fun b o hb hnf => ⟨o, (other b (noRecord b o hb hnf)).trans hb, rfl⟩) hf ((other e (Ne.symm t2)).trans e1) e4 hsz
      fun h' T' oT' ts' z k1 k2 he hT hd h3 hTe => ?_
    have z' : s.heap.objs.size ≤ T' := by
      have := Heap.size_after_update s.heap T (Obj.mapFields (·.setIfInBounds 3 Value.none))
      exact Nat.le_trans (Nat.le_of_eq this.symm) z
    refine h h' [e, T] (fun b hb => ?_) (fun b o h1 h2 q => ?_) (fun b o hb q => ?_) (fin z' he hT hd h3 hTe)
    · rcases List.mem_cons.mp hb with hb | hb
      · subst hb; exact ⟨n, f, _, _, e1, e4⟩
      · have hb : b = T := by simpa using hb
        subst hb; exact ⟨t3, t4, _, _, t5, t6⟩
    · exact k1 b o h1 (fun w => h2 (by simp [w])) ((other b fun w => h2 (by simp [w])).trans q)
    · exact k2 b o hb ((other b (nofr b hb)).trans q)
end

section
variable {X : Cx} {pins : List (Addr × Obj)} {σ : List (Option V)} {H H' : Hp} {s : Shared} {h' : Heap}
theorem ObjOk.ex {P : Program} {w : World} {h : Heap} {a : Addr} {o : HO} (x : ObjOk P w H h a o) : ∃ u, h.get? a = some u := by
  cases o with
  | lst xs => obtain ⟨_, _, _, _, e⟩ := x; exact ⟨_, e⟩
  | tup xs => obtain ⟨_, _, _, o, e, _⟩ := x; exact ⟨_, e⟩
  | dK kvs => obtain ⟨_, _, _, _, o, _, _, e, _⟩ := x; exact ⟨_, e⟩
  | dT kvs => obtain ⟨_, _, _, _, o, _, _, e, _⟩ := x; exact ⟨_, e⟩
  | set S n => obtain ⟨o, _, _, _, e, _⟩ := x; exact ⟨_, e⟩
  | ins C dx fs => obtain ⟨_, _, _, e, _⟩ := x; exact ⟨_, e⟩
  | own y => obtain ⟨_, e⟩ := x; exact ⟨_, e⟩
  | xd fs => obtain ⟨_, ⟨_, _, _, e, _⟩, _⟩ := x; exact ⟨_, e⟩
  | rng lo hi => obtain ⟨_, _, _, e⟩ := x; exact ⟨_, e⟩
  | frz ob u => obtain ⟨e, _⟩ := x; exact ⟨_, e⟩
  | tbl ps => exact ⟨_, (show h.get? a = some _ from x)⟩
  | met f y => exact ⟨_, (show h.get? a = some _ from x)⟩
  | ext φ => obtain ⟨_, ⟨_, e⟩, _⟩ := x; exact ⟨_, e⟩
theorem HOk.none_of {P : Program} {w : World} {h : Heap} {a : Addr} (x : HOk P w H h) (e : h.get? a = none) : H a = none := by
  cases q : H a with
  | none => rfl
  | some o =>
    obtain ⟨u, hu⟩ := (x a o q).ex
    rw [e] at hu; cases hu
theorem Inv.stepN {g' : Array GenState} {t' : Nat} {d' : Drawn} {ch : List Addr} (I : Inv X pins σ H s)
    (hch : ∀ b ∈ ch, X.s₀.heap.get? b = none ∧ b ≠ X.env.locals ∧ (∀ x c, X.env.cells.lookup x = some c → c ≠ b) ∧ ∀ p ∈ X.pn ++ pins, p.1 ≠ b)
    (keep : ∀ b o, b ≠ X.env.locals → b ∉ X.fs → b ∉ ch → s.heap.get? b = some o → H b = none → h'.get? b = some o)
    (slot : ∀ b o, b ≠ X.env.locals → b ∈ X.fs → b ∉ ch → s.heap.get? b = some o → H b = none → ∃ sl, h'.get? b = some { o with slots := sl })
    (there : ∀ b o, b ∉ ch → s.heap.get? b = some o → ∃ o', h'.get? b = some o')
    (ns : ∀ m, s.heap.Ns X.env.locals m → h'.Ns X.env.locals m) (hok : HOk X.prog X.w H h') (hg : AllBare g') :
    Inv X pins σ H { s with heap := h', gens := g', drawn := d', toks := t' } := by
  have neL : ∀ b o, X.s₀.heap.get? b = some o → b ≠ X.env.locals := fun b o e => Nat.ne_of_lt (Nat.lt_of_lt_of_le (Heap.lt_size e) I.ok.above)
  have neC : ∀ b o, X.s₀.heap.get? b = some o → b ∉ ch := fun b o e hb => by rw [(hch b hb).1] at e; cases e
  have cellK : ∀ x c, X.env.cells.lookup x = some c → ∀ v, s.heap.IsCell c v → h'.IsCell c v := fun x c e v ⟨o, ho, hd⟩ => by
    have nch : c ∉ ch := fun z => (hch c z).2.2.1 x c e rfl
    by_cases hc : c ∈ X.fs
    · obtain ⟨sl, q⟩ := slot c o (I.cne x c e) hc nch ho (I.freeC x c e)
      exact ⟨_, q, hd⟩
    · exact ⟨o, keep c o (I.cne x c e) hc nch ho (I.freeC x c e), hd⟩
  refine ⟨I.ok, I.os, hg, ⟨fun b o e n hb hx => ?_, fun b o e n hb hx => ?_, fun b o e n hx => ?_, fun b o e hx => ?_, fun b xs e => I.base.tups b xs e, fun b o xs e => I.base.frzs b o xs e, fun b ps e => I.base.tbls b ps e⟩, ?_, fun x c e => ?_, I.free, I.freeC, fun p hp => ?_, hok, I.len⟩
  · exact keep b o (neL b o e) hb (neC b o e) (I.base.keep b o e n hb hx) (I.base.free b o e n hx)
  · obtain ⟨sl, e1⟩ := I.base.slot b o e n hb hx
    obtain ⟨sl', e2⟩ := slot b _ (neL b o e) hb (neC b o e) e1 (I.base.free b o e n hx)
    exact ⟨sl', e2⟩
  · exact I.base.free b o e n hx
  · obtain ⟨o', e1⟩ := I.base.there b o e hx
    exact there b o' (neC b o e) e1
  · obtain ⟨m, hn, hl⟩ := I.loc
    refine ⟨m, ns m hn, fun i x v e1 e2 e3 => ?_⟩
    obtain ⟨u, r, l⟩ := hl i x v e1 e2 e3
    refine ⟨u, r, ?_⟩
    rcases l with l | ⟨k, c, e, z⟩
    · exact .inl l
    · exact .inr ⟨k, c, e, cellK x c e _ z⟩
  · obtain ⟨v, z⟩ := I.cell x c e
    exact ⟨v, cellK x c e v z⟩
  · obtain ⟨e, n, ne, nf, d⟩ := I.pin p hp
    have nch : p.1 ∉ ch := fun z => (hch p.1 z).2.2.2 p hp rfl
    exact ⟨keep p.1 p.2 ne nf nch e n, n, ne, nf, d⟩

structure Frm (X : Cx) : Prop where
  ex : X.ex = []
  st : X.stack = X.env :: X.outer
  fr : X.env.frame = some X.env.locals
def Lies (X : Cx) (pins : List (Addr × Obj)) (σ : List (Option V)) (H : Hp) (s : Shared) (a : Addr) (C : Value) (d : Option Addr) : Prop :=
  Inv X pins σ H s ∧ ∃ h0 : Heap, (∀ p ∈ X.pn ++ pins, h0.get? p.1 ≠ none) ∧ (∀ b o, X.s₀.heap.get? b = some o → ∃ o', h0.get? b = some o') ∧ (∀ b o, h0.get? b = some o → ∃ o', s.heap.get? b = some o') ∧ Fl h0 H s.heap a C d
theorem none_back {h1 h2 : Heap} (k : ∀ b o, h1.get? b = some o → ∃ o', h2.get? b = some o') (b : Addr) (e : h2.get? b = none) : h1.get? b = none := by
  cases q : h1.get? b with
  | none => rfl
  | some o => obtain ⟨o', z⟩ := k b o q; rw [e] at z; cases z
theorem none_le {h : Heap} {b : Addr} (e : h.objs.size ≤ b) : h.get? b = none := Heap.get?_none_of_le e

theorem fields_ne {h : Heap} {b c : Addr} {o : Obj} {vs : Array Value} (e : h.get? b = some o) (hd : o.data = .fields vs) {o' : Obj} (e' : h.get? c = some o') (hd' : ∀ vs, o'.data ≠ .fields vs) : b ≠ c := by
  intro z; subst z; rw [e] at e'; cases e'; exact hd' vs hd

theorem lies_ch {a : Addr} {C : Value} {d : Option Addr} {h0 : Heap} (I : Inv X pins σ H s) (hp : ∀ p ∈ X.pn ++ pins, h0.get? p.1 ≠ none) (hs : ∀ b o, X.s₀.heap.get? b = some o → ∃ o', h0.get? b = some o') {b : Addr}
    (hb : h0.get? b = none ∧ H b = none ∧ ∃ o vs, s.heap.get? b = some o ∧ o.data = .fields vs) :
    X.s₀.heap.get? b = none ∧ b ≠ X.env.locals ∧ (∀ x c, X.env.cells.lookup x = some c → c ≠ b) ∧ ∀ p ∈ X.pn ++ pins, p.1 ≠ b := by
  obtain ⟨h1, h2, o, vs, h3, h4⟩ := hb
  refine ⟨none_back hs b h1, ?_, fun x c e => ?_, fun p hq z => hp p hq (by rw [z]; exact h1)⟩
  · obtain ⟨m, ⟨o', es, ep, ho', hd', _⟩, _⟩ := I.loc
    exact fields_ne h3 h4 ho' fun vs z => by rw [hd'] at z; cases z
  · obtain ⟨v, o', ho', hd'⟩ := I.cell x c e
    exact Ne.symm (fields_ne h3 h4 ho' fun vs z => by rw [hd'] at z; cases z)

theorem note_ok {A' : Around} {E : Value → Shared → Prop} {a : Addr} {C : Value} {d : Option Addr} {Q : Unit → Shared → Prop} (hA : A'.frames = some X.stack) (fm : Frm X) (L : Lies X pins σ H s a C d)
    (h : ∀ s', Lies X pins σ H s' a C d → Q () s') :
    wpAny (model X.prog X.w) A' (noteFrame (.ref a) X.env) (fun _ s2 => wpAny (model X.prog X.w) A' (setFlight (.ref a) none) Q E s2) E s := by
  obtain ⟨I, h0, hp, hs, ht, F⟩ := L
  have hstk := I.stack
  have hfree := I.stkFree
  rw [fm.st] at hA hstk hfree
  have hfrs : frs (X.env :: X.outer) = X.env.locals :: X.fs := by unfold frs; rw [List.filterMap_cons, fm.fr]; rfl
  refine note_raw (base := X.base) hA hstk fm.fr F (fun b hb => ⟨none_back ht b (none_le hb), I.hok.fresh hb⟩) fun h' ch c1 c2 c3 F' => ?_
  have tr : ∀ c u, H c = some u → ∀ v, s.heap.get? c = some v → h'.get? c = some v := fun c u e v q =>
    c2 c v (fun z => by rw [hfree c z] at e; cases e) (fun z => by rw [(c1 c z).2.1] at e; cases e) q
  have th : ∀ b o, b ∉ ch → s.heap.get? b = some o → ∃ o', h'.get? b = some o' := fun b o hb q => by
    by_cases hf : b ∈ frs (X.env :: X.outer)
    · obtain ⟨sl, e⟩ := c3 b o hf q; exact ⟨_, e⟩
    · exact ⟨o, c2 b o hf hb q⟩
  have J : Inv X pins σ H { s with heap := h', gens := s.gens, drawn := s.drawn, toks := s.toks } := by
    refine I.stepN (ch := ch) (fun b hb => lies_ch (a := a) (C := C) (d := d) I hp hs (c1 b hb)) (fun b o h1 h2 h3 e _ => c2 b o (by rw [hfrs]; intro z; rcases List.mem_cons.mp z with z | z; exact h1 z; exact h2 z) h3 e)
      (fun b o _ h2 _ e _ => c3 b o (by rw [hfrs]; exact List.mem_cons_of_mem _ h2) e) th (fun m hm => ?_) (fun b u e => ?_) I.bare
    · obtain ⟨o, es, ep, ho, r⟩ := hm
      obtain ⟨sl, e⟩ := c3 _ o (by rw [hfrs]; exact List.mem_cons_self) ho
      exact ⟨_, es, ep, e, r⟩
    · refine (I.hok b u e).stay (fun c v hc q => ?_) (fun _ q => q) fun _ _ q => q
      rcases hc with rfl | hc
      · exact tr c u e v q
      · exact tr c _ hc v q
  refine h _ ⟨J, h0, hp, hs, fun b o e => ?_, F'⟩
  obtain ⟨o', e'⟩ := ht b o e
  exact th b o' (fun z => by rw [(c1 b z).1] at e; cases e) e'

theorem land_ok {A' : Around} {E : Value → Shared → Prop} {a : Addr} {C : Value} {d : Option Addr} {Q : Unit → Shared → Prop} (L : Lies X pins σ H s a C d)
    (h : ∀ s', Lies X pins σ H s' a C d → Q () s') : wpAny (model X.prog X.w) A' (setFlight (.ref a) none) Q E s := by
  have L' := L
  obtain ⟨I, h0, hp, hs, ht, F⟩ := L'
  obtain ⟨n, f, oe, vs, v, e1, e2, e3, e4, e5, t⟩ := F
  unfold setFlight
  refine wpAny_bind (wpAny_field e1 e4 e5 ?_)
  rcases t with rfl | ⟨T, oT, ts, rfl, t2, t3, t4, t5, t6, t7⟩
  · rw [if_neg (by decide)]
    exact wpAny_pure (h s L)
  · rw [if_pos (show (Value.ref T != Value.none) = true from by simp)]
    have hsz3 : 3 < ts.size := (Array.getElem?_eq_some_iff.mp t7).1
    have other : ∀ b, b ≠ T → (s.heap.update T (Obj.mapFields (·.setIfInBounds 3 ((none : Option Addr).elim Value.none fun f => rawInt f)))).get? b = s.heap.get? b := fun b hb => Heap.get?_update_other _ _ (Ne.symm hb)
    have hT' := Heap.get?_update_self (Obj.mapFields (·.setIfInBounds 3 ((none : Option Addr).elim Value.none fun f => rawInt f))) t5 (Obj.isFreed_of_fields (Obj.data_mapFields t6 _))
    refine wpAny_setField t5 t6 hsz3 ?_
    have c1 : ∀ b ∈ [T], h0.get? b = none ∧ H b = none ∧ ∃ o vs, s.heap.get? b = some o ∧ o.data = .fields vs := fun b hb => by
      have hb : b = T := by simpa using hb
      subst hb; exact ⟨t3, t4, _, _, t5, t6⟩
    have nT : ∀ b, b ∉ [T] → b ≠ T := fun b hb z => hb (by simp [z])
    have J : Inv X pins σ H { s with heap := (s.heap.update T (Obj.mapFields (·.setIfInBounds 3 ((none : Option Addr).elim Value.none fun f => rawInt f)))), gens := s.gens, drawn := s.drawn, toks := s.toks } := by
      refine I.stepN (ch := [T]) (fun b hb => lies_ch (a := a) (C := C) (d := d) I hp hs (c1 b hb)) (fun b o _ _ h3 e _ => (other b (nT b h3)).trans e) (fun b o _ _ h3 e _ => ⟨o.slots, (other b (nT b h3)).trans e⟩)
        (fun b o h3 e => ⟨o, (other b (nT b h3)).trans e⟩) (fun m hm => ?_) (fun b u e => ?_) I.bare
      · obtain ⟨o, es, ep, ho, hd, r⟩ := hm
        exact ⟨o, es, ep, (other _ (Ne.symm (fields_ne t5 t6 ho fun vs z => by rw [hd] at z; cases z))).trans ho, hd, r⟩
      · refine (I.hok b u e).stay (fun c v hc q => (other c ?_).trans q) (fun _ q => q) fun _ _ q => q
        rintro rfl
        rcases hc with rfl | hc
        · rw [t4] at e; cases e
        · rw [t4] at hc; cases hc
    refine h _ ⟨J, h0, hp, hs, fun b o e => ?_, ⟨n, f, oe, vs, .ref T, (other a (Ne.symm t2)).trans e1, e2, e3, e4, e5, .inr ⟨T, _, _, rfl, t2, t3, t4, hT', Obj.data_mapFields t6 _, by simp [hsz3]⟩⟩⟩
    obtain ⟨o', e'⟩ := ht b o e
    exact ⟨o', (other b (fun z => by rw [z, t3] at e; cases e)).trans e'⟩
end

def CX1 (P : Program) (w : World) : CXT := fun outer H s E e s' => ∃ a C d H', e = .ref a ∧ s'.os = s.os ∧ AllBare s'.gens ∧ Un (frs outer) [] H H' s.heap s'.heap ∧ HOk P w H' s'.heap ∧ Fl s.heap H' s'.heap a C d ∧ E C d H'
def XeOk (X : Cx) (E : XK) : Prop := ∀ (pins : List (Addr × Obj)) (σ : St) (H : Hp) (s : Shared) (a : Addr) (C : Value) (d : Option Addr), Lies X pins σ H s a C d → E C d H → X.xe (.ref a) s
section
variable {X : Cx} {pins : List (Addr × Obj)} {σ : List (Option V)} {H : Hp} {s s' : Shared} {E : XK} {e : Value}
theorem lies_of_call (fm : Frm X) (I : Inv X pins σ H s) (hcx : CX1 X.prog X.w X.stack H s E e s') : ∃ a C d H', e = .ref a ∧ Lies X pins σ H' s' a C d ∧ E C d H' := by
  obtain ⟨a, C, d, H', rfl, os, bare, un, hok, F, q⟩ := hcx
  refine ⟨a, C, d, H', rfl, ⟨I.call' (ch := []) os un hok bare (fun b z => absurd z (by simp)), s.heap, fun p hp z => ?_, fun b o e => I.base.there b o e (by rw [fm.ex]; simp), fun b o e => un.there b o e (by simp), F⟩, q⟩
  rw [(I.pin p hp).1] at z; cases z
end
theorem frm_cxOf {CX : CXT} {P : Program} {w : World} {K : PySem.W.Frag} {mg : Str → Option Value} {base : Heap} {N : List Str} {qual : Str} {scope : Scope} {f : Addr} {cd : Value} {A : Around} {outer : List Env} {s : Shared} {H : Hp} {E : XK} :
    Frm (cxOf CX P w K mg base N qual scope f cd A outer s H E) := ⟨rfl, rfl, rfl⟩
theorem xe_cxOf {P : Program} {w : World} {K : PySem.W.Frag} {mg : Str → Option Value} {base : Heap} {N : List Str} {qual : Str} {scope : Scope} {f : Addr} {cd : Value} {A : Around} {outer : List Env} {s : Shared} {H : Hp} {E : XK} :
    XeOk (cxOf (CX1 P w) P w K mg base N qual scope f cd A outer s H E) E := by
  intro pins σ H' s' a C d L q
  show wpAny (model P w) (A.deeper (envOfC qual scope s.heap.objs.size f cd)) (leaving (envOfC qual scope s.heap.objs.size f cd) (.ref a)) (fun _ s'' => CX1 P w outer H s E (.ref a) s'') (fun e' s'' => CX1 P w outer H s E e' s'') s'
  unfold leaving
  refine wpAny_bind (note_ok (X := cxOf (CX1 P w) P w K mg base N qual scope f cd A outer s H E) L.1.ok.frames frm_cxOf L fun s'' L'' => ?_)
  obtain ⟨J, h0, hp, hs0, hth, F⟩ := L''
  exact ⟨a, C, d, H', rfl, J.os, J.bare, J.base, J.hok, F.older fun b z => none_back hs0 b z, q⟩
end L2

set_option Elab.async false
set_option linter.all false
set_option maxRecDepth 100000
set_option maxHeartbeats 1000000
namespace L2
open PySem PySem.Spec PyProof.Rows

abbrev bmVE : List Value := [.type "ValueError", .type "Exception", .type "BaseException", .type "object"]
def ExcC (K : PySem.W.Frag) (C : Addr) : Prop := PySem.W.excIn K C bmVE "ValueError.__new__" = true
theorem exc_of {K : PySem.W.Frag} {h : Heap} {C : Addr} {bmB : List Value} {newId : String} (X : K.In h) (q : PySem.W.excIn K C bmB newId = true) :
    ∃ bm N nm qn bs hdct sn sub ab col dd k0 k1 k2 k3 k5 mN, h.get? C = some (excClassObj nm qn C N bs bm hdct sn sub ab col dd k0 k1 k2 k3 k5 newId) ∧ h.Ns N mN ∧ mN "__init__" = none ∧ OwnTail h bmB bm := by
  unfold PySem.W.excIn at q
  split at q
  · rename_i dd cd sl ho
    split at q
    · rename_i C' bm k0 k1 k2 k3 n k5 hm hs
      simp only [Bool.and_eq_true, beq_iff_eq, Bool.not_eq_true'] at q
      obtain ⟨⟨⟨⟨⟨rfl, rfl⟩, hdel⟩, ht⟩, hok⟩, hni⟩ := q
      obtain ⟨nm, bs, mro, ns, qn, hd, sn, sub, ab, col, del⟩ := cd
      dsimp only at hm hdel hok hni
      subst hm hdel
      have hsl : sl = #[k0, k1, k2, k3, some (.builtin n), k5] := by
        obtain ⟨l⟩ := sl
        simp only at hs
        rw [hs]
      subst hsl
      exact ⟨bm, ns, nm, qn, bs, hd, sn, sub, ab, col, dd, k0, k1, k2, k3, k5, _, X _ _ ho, .of_isNs (PySem.W.isNs_of_in X hok), PySem.W.nsMap_none_of_in X hok hni, PySem.W.tail_of_in X ht⟩
    · cases q
  · cases q

section
variable {X : Cx} {pins : List (Addr × Obj)} {σ : List (Option V)} {H : Hp} {s : Shared}
def tRaise (C : Addr) (E : XK) (ta : TA) : TS := fun _ σ H => ta σ H fun vs H1 => vs.length ≤ sizeLine ∧ E (.ref C) none H1
theorem ps_raise {E : XK} {x : Str} {C : Addr} {np cpos pos : Pos} {e₀ : Expr} {es : List Expr} {ta : TA} (fm : Frm X) (xo : XeOk X E) (hc : X.calm = true) (hg : Gl X x) (hm : X.mg x = some (.ref C)) (q : ExcC X.K C) (ha : PA X (e₀ :: es) ta)
    (hdb : (x == ("__debug__" : Str)) = false := by decide) (he : starEach (e₀ :: es) X.env = (false, eval e₀ X.env) :: starEach es X.env := by rfl) (hpl : (backTo cpos (starEach es X.env)).any (·.1) = false := by rfl) :
    PS X (.Raise (some (.Call (.Name x np) (e₀ :: es) [] cpos)) none pos) (tRaise C E ta) := by
  intro pins s σ H D I h
  obtain ⟨tl, N, nm, qn, bs, hdct, sn, sub, ab, col, dd, k0, k1, k2, k3, k5, mN, hC, hN, hni, T⟩ := exc_of I.mod.kin q
  have FB := PySem.F.excBase_ValueError
  refine wpAny_Raise_call_subU (C := C) (nm := nm) (q := qn) (N := N) (bs := bs) (bm := tl) (hdct := hdct) (sn := sn) (sub := sub) (ab := ab) (col := col) (dd := dd) (k0 := k0) (k1 := k1) (k2 := k2) (k3 := k3) (k5 := k5)
    FB (by decide) FB (mN := mN) (T.hasType FB.hasBase) (I.ok.hd hc) (by rw [he]; show (false || (backTo cpos (starEach es X.env)).any (·.1)) = false; rw [hpl]; rfl) hni (ld_glob I hg hm ⟨rfl, ?_⟩ hdb)
  have ha' := ha cpos pins s σ H _ I h
  rw [he] at ha' ⊢
  refine Calls.evalArgs_plain (wpAny_mono ha' (fun vs s2 h2 => ?_) fun _ _ y => y)
  obtain ⟨xs, H1, I1, r, hz, q1⟩ := h2
  refine ⟨rfl, by rw [← r.length]; exact hz, I1.bk _ _ hC, hN.keeps I1.bk, T.keeps I1.bk, fun h' e hx => ?_⟩
  obtain ⟨t, he1, htn, ht⟩ := hx.there
  refine xo pins σ H1 _ e (.ref C) none ⟨I1.kept (t' := s2.toks) hx.keeps, s2.heap, fun p hp z => ?_, fun b o e => I1.base.there b o e (by rw [fm.ex]; simp), fun b o z => ⟨o, hx.keeps b o z⟩, ⟨hx.new, I1.hok.none_of hx.new, _, _, .none, he1, rfl, rfl, rfl, rfl, .inl rfl⟩⟩ q1
  rw [(I1.pin p hp).1] at z; cases z
end

abbrev TEX := St → Hp → VK → XK → Prop
abbrev TSX := Ends → (St → XK) → St → Hp → Prop
def XP (X : Cx) (pins : List (Addr × Obj)) (E : St → XK) (e : Value) (s' : Shared) : Prop := ∃ a C d σ' H', e = .ref a ∧ Lies X pins σ' H' s' a C d ∧ E σ' C d H'
def PX (X : Cx) (e : Expr) (t : TEX) : Prop :=
  ∀ (pins : List (Addr × Obj)) (s : Shared) (σ : St) (H : Hp) (Q : VK) (E : XK), Inv X pins σ H s → t σ H Q E → wpAny (model X.prog X.w) X.A (eval e X.env) (EP X pins σ Q) (XP X pins fun σ' C d H' => σ' = σ ∧ E C d H') s
def PSX (X : Cx) (st : Stmt) (t : TSX) : Prop :=
  ∀ (pins : List (Addr × Obj)) (s : Shared) (σ : St) (H : Hp) (D : Ends) (E : St → XK), Inv X pins σ H s → t D E σ H → wpAny (model X.prog X.w) X.A (exec st X.env) (SP X pins D) (XP X pins E) s
def PSXs (X : Cx) (st : List Stmt) (t : TSX) : Prop :=
  ∀ (pins : List (Addr × Obj)) (s : Shared) (σ : St) (H : Hp) (D : Ends) (E : St → XK), Inv X pins σ H s → t D E σ H → wpAny (model X.prog X.w) X.A (execs st X.env) (SP X pins D) (XP X pins E) s
theorem XP.at {X : Cx} {pins : List (Addr × Obj)} {σ : St} {E : St → XK} {e : Value} {s' : Shared} (h : XP X pins (fun σ' C d H' => σ' = σ ∧ E σ C d H') e s') : XP X pins E e s' := by
  obtain ⟨a, C, d, σ', H', rfl, L, rfl, q⟩ := h
  exact ⟨a, C, d, σ', H', rfl, L, q⟩
section
variable {X : Cx} {k : Nat} {f C : Addr} {fd : FuncData} {ps : List Str} {sp : Sp} {dvs : List V} {ds : List Value} {x m : Str} {p pos apos : Pos} {e o : Expr} {es : List Expr} {ta : TE} {t : TA}
theorem run_x {pins : List (Addr × Obj)} {σ : St} {H : Hp} {s : Shared} {Q : VK} {E : XK} {us : List Value} {vs : List V} (F : FnOk X.prog X.w X.K X.mg X.base (CX1 X.prog X.w) k f fd ps sp) (fm : Frm X) (hr : Room k X.A) (hb : Binds X.K fd ps ds) (hd : Vals dvs ds)
    (I : Inv X pins σ H s) (r : Vals vs us) (h : sp (vs ++ dvs) H Q E) : wpAny (model X.prog X.w) X.A (call (.ref f) us) (EP X pins σ Q) (XP X pins fun σ' C d H' => σ' = σ ∧ E C d H') s := by
  have r2 : Vals (vs ++ dvs) (us ++ ds) := r.append hd
  have hl : (us ++ ds).length = ps.length := by rw [← r2.length]; exact F.len _ _ _ _ h
  refine wpAny_call (codeAny_mono (F.run X.A X.stack s H ⟨us, []⟩ (us ++ ds) (vs ++ dvs) Q E hr I.env0 (hb s us I.kIn hl) r2 h) fun r s' hq => ?_)
  cases r with
  | error e =>
    obtain ⟨a, C, d, H', rfl, L, q⟩ := lies_of_call fm I hq
    exact ⟨a, C, d, σ, H', rfl, L, rfl, q⟩
  | ok fl =>
    cases fl with
    | ret u => exact I.after hq
    | next => exact False.elim hq
    | brk => exact False.elim hq
    | cont => exact False.elim hq
def xMeth (C : Addr) (m : Str) (sp : Sp) (dvs : List V) (ta : TE) (t : TA) : TEX := fun σ H Q E => ta σ H fun x H1 => ∃ a dx fs, x = .ref a ∧ H1 a = some (.ins C dx fs) ∧ fs.lookup m = none ∧ t σ H1 fun vs H2 => sp (x :: (vs ++ dvs)) H2 Q E
theorem px_meth {pl : Sem Bool} (he : PE X.nox o ta) (c : Cls X.K C) (hm : Meth X.K C m f) (F : FnOk X.prog X.w X.K X.mg X.base (CX1 X.prog X.w) k f fd ps sp) (fm : Frm X) (hr : Room k X.A) (hb : Binds X.K fd ps ds) (hd : Vals dvs ds) (ha : PA X.nox (e :: es) t)
    (hst : starEach (e :: es) X.env = (false, eval e X.env) :: starEach es X.env := by rfl) (hpl : (backTo pos (starEach es X.env)).any (·.1) = false := by rfl)
    (ht : eval (.Call (.Attribute o m apos) (e :: es) [] pos) X.env = (do
      let ov ← eval o X.env
      standAt apos.atName
      let (f, first) ← holding [ov] (getMethod ov m pl)
      callWith pos f first (backTo pos (starEach (e :: es) X.env)) (backToKw pos (keywordEach [] X.env))) := by rfl) :
    PX X (.Call (.Attribute o m apos) (e :: es) [] pos) (xMeth C m sp dvs ta t) := by
  intro pins s σ H Q E I h
  refine PySem.W.methodCall_KW (pl := pl) (wpAny_mono (he pins s σ H _ (I.wish _) h) (fun u s1 h1 => ?_) fun _ _ z => False.elim z) ht
  obtain ⟨x, H1, I1, rx, a, dx, fs, ex, ea, l, q⟩ := h1
  subst ex
  obtain rfl : u = Value.ref a := rx
  refine getmeth_ok (X := X.nox) I1 ea c hm l ?_
  refine PySem.W.callWith_K (first := [.ref a]) (h₀ := X.base) I.ok.mod.kin hm.kp (wpAny_mono (ha pos pins s1 σ H1 _ I1 q) (fun us s2 h2 => ?_) fun _ _ z => False.elim z) hst hpl
  obtain ⟨vs, H2, I2, r, q2⟩ := h2
  exact ⟨I2.kIn, run_x (us := .ref a :: us) (vs := .ref a :: vs) F fm hr hb hd I2.unwish (.cons rfl r) q2⟩

def xExpr (te : TEX) : TSX := fun D E σ H => te σ H (fun _ H1 => D.nx σ H1) (E σ)
theorem psx_expr (he : PX X e te) (hs : swapsWith e none pos.line X.env = pure false := by rfl) : PSX X (.Expr e pos) (xExpr te) := by
  intro pins s σ H D E I h
  exact wpAny_Expr_any (wpAny_mono (he pins s σ H _ _ I h) (fun v s1 ⟨x, H1, I1, r1, q1⟩ => ⟨σ, H1, I1, q1⟩) fun _ _ z => XP.at z) I.quiet hs
theorem psxs_one {st : Stmt} {t : TSX} (h1 : PSX X st t) : PSXs X [st] t := by
  intro pins s σ H D E I h
  refine wpAny_execs_cons (wpAny_mono (h1 pins s σ H D E I h) (fun f s1 q => ?_) fun _ _ z => z)
  cases f with
  | next => exact wpAny_execs_nil q
  | ret v => exact q
  | brk => exact q
  | cont => exact q
end

abbrev Cx.sup (X : Cx) (a : Addr) : Cx := { X with A := X.A.mark (some (.ref a)), calm := false, xe := fun _ _ => False }
section
variable {X : Cx} {pins : List (Addr × Obj)} {σ : List (Option V)} {H : Hp} {s : Shared} {a : Addr}
theorem Cx.Ok.sup (ok : X.Ok) (a : Addr) : (X.sup a).Ok :=
  ⟨ok.mod, ok.kind, ok.glob, ok.blt, ok.above, ok.inj, ok.has, ok.cab, fun z => Bool.noConfusion z, ok.frames, ok.stk, ok.exf, ok.bs, ok.bsz, ok.noex, ok.exfs, ok.funs, ok.frf⟩
theorem Inv.sup (I : Inv X pins σ H s) (a : Addr) : Inv (X.sup a) pins σ H s := ⟨I.ok.sup a, I.os, I.bare, I.base, I.loc, I.cell, I.free, I.freeC, I.pin, I.hok, I.len⟩
theorem Inv.unsup (ok : X.Ok) (I : Inv (X.sup a) pins σ H s) : Inv X pins σ H s := ⟨ok, I.os, I.bare, I.base, I.loc, I.cell, I.free, I.freeC, I.pin, I.hok, I.len⟩
theorem SP.unsup (ok : X.Ok) {D : Ends} {f : Flow} {s' : Shared} (h : SP (X.sup a) pins D f s') : SP X pins D f s' := by
  cases f with
  | next => obtain ⟨σ', H', I, q⟩ := h; exact ⟨σ', H', I.unsup ok, q⟩
  | brk => obtain ⟨σ', H', I, q⟩ := h; exact ⟨σ', H', I.unsup ok, q⟩
  | cont => obtain ⟨σ', H', I, q⟩ := h; exact ⟨σ', H', I.unsup ok, q⟩
  | ret u => obtain ⟨v, σ', H', I, r, q⟩ := h; exact ⟨v, σ', H', I.unsup ok, r, q⟩
def excO (a : Addr) (C : Value) (d : Option Addr) : HO := .ext fun h => ∃ o vs, h.get? a = some o ∧ o.cls = C ∧ o.dict = d ∧ o.data = .fields vs
theorem Lies.track {C : Value} {d : Option Addr} (L : Lies X pins σ H s a C d) (fm : Frm X) : Inv X pins σ (upd H a (excO a C d)) s := by
  obtain ⟨I, h0, hp, hs, ht, F⟩ := L
  obtain ⟨n, f, oe, vs, v, e1, e2, e3, e4, e5, t⟩ := F
  obtain ⟨c1, c2, c3, c4⟩ := lies_ch (a := a) (C := C) (d := d) I hp hs (b := a) ⟨n, f, _, _, e1, e4⟩
  have tr : ∀ b u, H b = some u → upd H a (excO a C d) b = some u := fun b u e => by rw [upd_ne (ne_of_none e f)]; exact e
  refine ⟨I.ok, I.os, I.bare, ⟨I.base.keep, I.base.slot, fun b o e n' hx => ?_, I.base.there, fun b xs e => tr _ _ (I.base.tups b xs e), fun b o u e => tr _ _ (I.base.frzs b o u e), fun b ps e => ?_⟩, I.loc, I.cell, ?_, fun x c e => ?_, fun p hp' => ?_, fun b o e => ?_, I.len⟩
  · have : b ≠ a := fun z => by rw [z, c1] at e; cases e
    rw [upd_ne this]; exact I.base.free b o e n' hx
  · obtain ⟨more, z⟩ := I.base.tbls b ps e
    exact ⟨more, tr _ _ z⟩
  · rw [upd_ne (Ne.symm c2)]; exact I.free
  · rw [upd_ne (c3 x c e)]; exact I.freeC x c e
  · obtain ⟨z1, z2, z3⟩ := I.pin p hp'
    exact ⟨z1, by rw [upd_ne (c4 p hp')]; exact z2, z3⟩
  · by_cases hb : b = a
    · subst hb
      rw [upd_same] at e; cases e
      refine ⟨⟨oe, vs, e1, e2, e3, e4⟩, ⟨oe, e1⟩, fun h1 h2 p k => ?_⟩
      obtain ⟨o, vs', z1, z2⟩ := p
      exact ⟨o, vs', k o z1, z2⟩
    · rw [upd_ne hb] at e
      exact (I.hok b o e).stay (fun _ _ _ q => q) (fun c q => tr _ _ q) fun c xs q => tr _ _ q
theorem forget_ok {A' : Around} {E : Value → Shared → Prop} {j : Nat} {n : Str} {pos : Pos} {Q : Unit → Shared → Prop} (I : Inv X pins σ H s) (hN : X.N.Nodup) (hj : X.N[j]? = some n) (hl : X.env.scope.names.lookup n = some .local)
    (h : ∀ s', Inv X pins (σ.set j none) H s' → Q () s') : wpAny (model X.prog X.w) A' (do bindName X.env n .none; unbindBehindTheSuite X.env n pos) Q E s := by
  obtain ⟨m, hn, hlk⟩ := id I.loc
  have hcls : (X.env.scope.kind == .class || (X.env.scope.kind == .module && X.env.locals != X.env.globals)) = false := by rw [I.ok.kind]; rfl
  have hiσ : j < σ.length := by rw [I.len]; exact (List.getElem?_eq_some_iff.mp hj).1
  have cne := I.cne
  refine wpAny_nameGoes_keeps hl hn hcls fun h' v hn' hs => ?_
  obtain ⟨oL, _, _, hoL, _⟩ := id hn
  refine h _ ⟨I.ok, I.os, I.bare, ⟨fun b o e n hb hx => ?_, fun b o e n hb hx => ?_, I.base.free, fun b o e hx => ?_, I.base.tups, I.base.frzs, I.base.tbls⟩, ⟨_, hn', fun i y v' e1 e2 e3 => ?_⟩, fun y c e => ?_, I.free, I.freeC, fun p hp => ?_, fun b ob e => ?_, by simpa using I.len⟩
  · exact (hs.2 b (Nat.ne_of_lt (Nat.lt_of_lt_of_le (Heap.lt_size e) I.ok.above))).trans (I.base.keep b o e n hb hx)
  · obtain ⟨sl, e1⟩ := I.base.slot b o e n hb hx
    exact ⟨sl, (hs.2 b (Nat.ne_of_lt (Nat.lt_of_lt_of_le (Heap.lt_size e) I.ok.above))).trans e1⟩
  · obtain ⟨o', e1⟩ := I.base.there b o e hx
    exact ⟨o', (hs.2 b (Nat.ne_of_lt (Nat.lt_of_lt_of_le (Heap.lt_size e) I.ok.above))).trans e1⟩
  · by_cases hij : i = j
    · subst hij
      rw [List.getElem?_set_self hiσ] at e2
      cases e2
    · rw [List.getElem?_set_ne (Ne.symm hij)] at e2
      obtain ⟨u', r', q⟩ := hlk i y v' e1 e2 e3
      refine ⟨u', r', ?_⟩
      rcases q with ⟨k, e⟩ | ⟨k, c, e, z⟩
      · refine .inl ⟨k, ?_⟩
        have : y ≠ n := fun e => hij (nodup_ix hN e1 (e ▸ hj))
        simp [this, e]
      · exact .inr ⟨k, c, e, z.sameBut hs (cne y c e)⟩
  · obtain ⟨w', z⟩ := I.cell y c e
    exact ⟨w', z.sameBut hs (cne y c e)⟩
  · obtain ⟨e, n, ne, nf, d⟩ := I.pin p hp
    exact ⟨(hs.2 p.1 ne).trans e, n, ne, nf, d⟩
  · refine (I.hok b ob e).stay (fun c w' hc q => (hs.2 c ?_).trans q) (fun _ q => q) fun _ _ q => q
    rintro rfl
    rcases hc with rfl | hc
    · rw [I.free] at e; cases e
    · rw [I.free] at hc; cases hc
end

abbrev TH := Addr → Value → Option Addr → Ends → St → Hp → Prop
def PH (X : Cx) (hs : List ExceptHandler) (t : TH) : Prop :=
  ∀ (pins : List (Addr × Obj)) (s : Shared) (σ : St) (H : Hp) (D : Ends) (a : Addr) (C : Value) (d : Option Addr), Lies X pins σ H s a C d → t a C d D σ H → wpAny (model X.prog X.w) X.A (handleBy (.ref a) X.env hs) (SP X pins D) X.xe s
section
variable {X : Cx} {pos np : Pos} {T : Str} {tc : Value} {b₀ : Stmt} {suite : List Stmt} {rest : List ExceptHandler} {ts : TS} {tr : TH}
def hNever : TH := fun _ _ _ _ _ _ => False
theorem ph_never {hs : List ExceptHandler} : PH X hs hNever := fun _ _ _ _ _ _ _ _ _ h => h.elim
def NameC (X : Cx) (T : Str) (c : Value) : Prop := X.mg T = some c ∨ (X.mg T = none ∧ bootBuiltins T = some c ∧ T ≠ "__name__")
theorem ld_cls {E : Value → Shared → Prop} {pins : List (Addr × Obj)} {s : Shared} {σ : St} {H : Hp} {Q : Value → Shared → Prop} (I : Inv X pins σ H s) (hg : Gl X T) (hc : NameC X T tc) (h : Q tc s)
    (hd : (T == ("__debug__" : Str)) = false := by decide) : wpAny (model X.prog X.w) X.A (eval (.Name T np) X.env) Q E s := by
  rcases hc with e | ⟨e, hv, hn⟩
  · exact ld_glob I hg e h hd
  · exact ld_blt I hg e hv h hn hd
def hTest (K : PySem.W.Frag) (tc : Value) (ts : TS) (tr : TH) : TH := fun a C d D σ H => ∃ b, PySem.W.exmOne K C tc = some b ∧ if b = true then ts D σ H else tr a C d D σ H
theorem Lies.ty {M : Model} {pins : List (Addr × Obj)} {s : Shared} {σ : St} {H : Hp} {a : Addr} {C : Value} {d : Option Addr} (L : Lies X pins σ H s a C d) : PySem.W.Looks M s.heap (typeOf (.ref a)) C := by
  obtain ⟨I, h0, hp, hs, ht, n, f, oe, vs, v, e1, e2, _⟩ := L
  subst e2
  exact (PySem.W.Looks.ld e1).andThen .now
theorem ph_cons (hg : Gl X T) (hc : NameC X T tc) (hs : ∀ a, PSs (X.sup a) (b₀ :: suite) ts) (hr : PH X rest tr) (hd : (T == ("__debug__" : Str)) = false := by decide) :
    PH X (.ExceptHandler (some (.Name T np)) none (b₀ :: suite) pos :: rest) (hTest X.K tc ts tr) := by
  intro pins s σ H D a C d L h
  obtain ⟨b, hb, h⟩ := h
  have I := L.1
  refine wpAny_handleBy_cons (codeAny_handlers_test (ld_cls (X := X.sup a) (I.sup a) hg hc ((PySem.W.exm_one I.kIn L.ty hb).here ?_) hd)) (by intro q; cases q)
  cases b with
  | false =>
    rw [if_neg Bool.false_ne_true] at h
    exact hr pins s σ H D a C d L h
  | true =>
    rw [if_pos rfl] at h
    refine codeAny_handlers_suite (land_ok (X := X) L fun s' L' => ?_)
    exact wpAny_mono (hs a pins s' σ H D (L'.1.sup a) h) (fun f s2 q => SP.unsup I.ok q) fun _ _ z => False.elim z
def hTestAs (K : PySem.W.Frag) (tc : Value) (j : Nat) (ts : TS) (tr : TH) : TH := fun a C d D σ H => ∃ b, PySem.W.exmOne K C tc = some b ∧
  if b = true then ts { nx := fun σ' H' => D.nx (σ'.set j none) H', rt := D.rt, bk := fun σ' H' => D.bk (σ'.set j none) H', ct := fun σ' H' => D.ct (σ'.set j none) H' } (σ.set j (some (.ref a))) (upd H a (excO a C d)) else tr a C d D σ H
theorem ph_as {j : Nat} {n : Str} (fm : Frm X) (hN : X.N.Nodup) (hj : X.N[j]? = some n) (hl : X.env.scope.names.lookup n = some .local) (hg : Gl X T) (hc : NameC X T tc) (hs : ∀ a, PSs (X.sup a) (b₀ :: suite) ts) (hr : PH X rest tr) (hd : (T == ("__debug__" : Str)) = false := by decide) :
    PH X (.ExceptHandler (some (.Name T np)) (some n) (b₀ :: suite) pos :: rest) (hTestAs X.K tc j ts tr) := by
  intro pins s σ H D a C d L h
  obtain ⟨b, hb, h⟩ := h
  have I := L.1
  refine wpAny_handleBy_cons (codeAny_handlers_test (ld_cls (X := X.sup a) (I.sup a) hg hc ((PySem.W.exm_one I.kIn L.ty hb).here ?_) hd)) (by intro q; cases q)
  cases b with
  | false =>
    rw [if_neg Bool.false_ne_true] at h
    exact hr pins s σ H D a C d L h
  | true =>
    rw [if_pos rfl] at h
    refine codeAny_handlers_suite_as (land_ok (X := X) L fun s' L' => ?_)
    refine store_ok (X := X.sup a) ((L'.track fm).sup a) hN hj (.inl hl) (v := .ref a) rfl (fun s2 I2 => ?_) (.inr hl)
    refine wpAny_mono (hs a pins s2 _ _ _ I2 h) (fun f s3 q => ?_) fun _ _ z => False.elim z
    cases f with
    | next =>
      obtain ⟨σ', H', J, q⟩ := q
      exact forget_ok (J.unsup I.ok) hN hj hl fun s4 J4 => ⟨_, H', J4, q⟩
    | brk =>
      obtain ⟨σ', H', J, q⟩ := q
      exact forget_ok (J.unsup I.ok) hN hj hl fun s4 J4 => ⟨_, H', J4, q⟩
    | cont =>
      obtain ⟨σ', H', J, q⟩ := q
      exact forget_ok (J.unsup I.ok) hN hj hl fun s4 J4 => ⟨_, H', J4, q⟩
    | ret u =>
      obtain ⟨v, σ', H', J, r, q⟩ := q
      exact forget_ok (J.unsup I.ok) hN hj hl fun s4 J4 => ⟨v, _, H', J4, r, q⟩
def tTry (tb : TSX) (to : TS) (th : TH) : TS := fun D σ H => tb { D with nx := to D } (fun σ' C d H' => ∀ a, H' a = none → th a C d D σ' H') σ H
theorem ps_try {body orelse : List Stmt} {h₀ : ExceptHandler} {hs : List ExceptHandler} {tb : TSX} {to : TS} {th : TH} (fm : Frm X) (hb : PSXs X body tb) (ho : PSs X orelse to) (hh : PH X (h₀ :: hs) th) : PS X (.Try body (h₀ :: hs) orelse [] pos) (tTry tb to th) := by
  intro pins s σ H D I h
  refine wpAny_Try_except (wpAny_mono (hb pins s σ H _ _ I h) (fun f s1 q => ?_) fun e s1 q => ?_)
  · cases f with
    | next =>
      obtain ⟨σ', H', I', q⟩ := q
      exact ho pins s1 σ' H' D I' q
    | ret v => exact q
    | brk => exact q
    | cont => exact q
  · obtain ⟨a, C, d, σ', H', rfl, L, q⟩ := q
    refine note_ok I.ok.frames fm L fun s2 L2 => ?_
    exact hh pins s2 σ' H' D a C d L2 (q a L2.2.choose_spec.2.2.2.free)
end

structure ExcK (K : PySem.W.Frag) (C : Addr) : Prop where
  ga : PySem.W.findIn K (.ref C) "__getattribute__" = some (some (.builtin "BaseException.__getattribute__"))
  gn : PySem.W.findIn K (.ref C) "__getattr__" = some none
  bx : PySem.W.mroIn K C (.type "BaseException") = some true
  ob : PySem.W.mroIn K C (.type "object") = some true
  ca : PySem.W.findIn K (.ref C) "__class__" = some (some (.builtin "object.__class__"))
  hn : PySem.W.specialIn K (.builtin "object.__class__") "__get__" = some (some (.builtin "getset_descriptor.__get__"))
  tk : PySem.W.takesIn K (.builtin "object.__class__") = some true
  cl : (PySem.W.clsIn K C).isSome = true
end L2

set_option Elab.async false
set_option linter.all false
set_option maxHeartbeats 1000000
namespace L2
open PySem PySem.Spec PyProof.Rows
section
variable {X : Cx}
end
end L2

set_option Elab.async false
set_option linter.all false
set_option maxRecDepth 100000
set_option maxHeartbeats 1000000
namespace L2
open PySem PySem.Spec PyProof.Rows

section
variable {prog : Program} {w : World} {A : Around} {E : Value → Shared → Prop} {s : Shared} {K : PySem.W.Frag} {x D : Addr} {ox : Obj} {odo : Option Obj} {name : Str}
theorem exc_check {nameV : Value} {Q : Unit → Shared → Prop} (k : ExcK K D) (X : K.In s.heap) (I : PySem.W.InstAt s.heap x ox D odo) (h : Q () s) :
    wpAny (model prog w) A (checkBuiltinCall "BaseException.__getattribute__" ⟨[.ref x, nameV], []⟩) Q E s := by
  have hk : builtinKind "BaseException.__getattribute__" = some .slot := by decide +kernel
  have hsplit : splitId "BaseException.__getattribute__" = some ("BaseException", "__getattribute__") := by decide +kernel
  obtain ⟨hh, g, d, t, os⟩ := s
  have L0 := I.type (M := model prog w)
  have L1 := PySem.W.looks_mroIn (M := model prog w) X k.bx
  have LI : PySem.W.Looks (model prog w) hh (isInstance (.ref x) (.type "BaseException")) true := L0.andThen L1
  have ha := PySem.F.args_bexc_ga (.ref x) nameV
  simp only [checkBuiltinCall, hk, hsplit]
  refine wpAny_bind (LI.at ?_)
  repeat (first | lk | wp_step)
  exact h
theorem exc_by {v : Value} {tk : Tok} {fill expr : Bool} {P : Value → Shared → Prop} (k : ExcK K D) (X : K.In s.heap) (I : PySem.W.InstAt s.heap x ox D odo) (hv : PySem.W.handedIn v = true)
    (hf : PySem.W.findObj K D odo name = some (.value v) ∨ ∃ g a, PySem.W.findObj K D odo name = some (.bind g a) ∧ ∀ (A' : Around) (R : Result → Shared → Prop), R (.ok (.ret v)) s → codeAny (model prog w) A' (.call g ⟨[a, .ref x, .ref D], []⟩) R s) (h : P v s) :
    wpAny (model prog w) A (getAttrBy (.ref x) (.str name tk) fill expr) P E s := by
  obtain ⟨hh, g, d, t, os⟩ := s
  have L0 := I.type (M := model prog w)
  have L1 := PySem.W.looks_findIn (M := model prog w) X k.ga
  have L2 := PySem.W.looks_findIn (M := model prog w) X k.gn
  unfold getAttrBy
  refine wpAny_holding (wpAny_bind (L0.at (wpAny_bind (L1.at ?_))))
  show wpAny _ _ (getAttrByItsOwn (.ref x) (.str name tk) (.ref D) (.builtin "BaseException.__getattribute__") fill expr) _ _ _
  unfold getAttrByItsOwn hookBefore
  have f3 := PySem.F.attr_ValueError.ga.bind (.ref x)
  refine wpAny_bind (L2.at ?_)
  refine wpAny_bind (wpAny_attempt (wpAny_holding ?_))
  unfold callGetattribute boundAndCalled
  rw [if_neg (by cases expr <;> decide)]
  refine wpAny_bind (wpAny_of_eq f3 ?_)
  refine wpAny_call (codeAny_call_builtin PySem.F.attr_ValueError.ga.plain PySem.F.entry_bexc_ga (exc_check k X I ?_))
  unfold Builtin.«object.__getattribute__»
  refine wpAny_bind (wpAny_pure ?_)
  refine wpAny_bind (wpAny_pure ?_)
  refine wpAny_bind (L0.at ?_)
  rcases hf with hf | ⟨gg, a, hf, hc⟩
  · refine wpAny_bind ((PySem.W.looks_find (M := model prog w) X I hf).at ?_)
    refine wpAny_pure ?_
    show wpAny _ _ (handedOut v) _ _ _
    rw [PySem.W.handedOut_of hv]
    exact wpAny_pure h
  · refine wpAny_bind ((PySem.W.looks_find (M := model prog w) X I hf).at ?_)
    show wpAny _ _ (Builtin.ObjectAttr.bindTo gg a (.ref x) (.ref D)) _ _ _
    show wpAny _ _ (holding [a] (call gg [a, .ref x, .ref D]) >>= ret) _ _ _
    refine wpAny_bind (wpAny_holding (wpAny_call (hc _ _ ?_)))
    refine wpAny_pure ?_
    show wpAny _ _ (handedOut v) _ _ _
    rw [PySem.W.handedOut_of hv]
    exact wpAny_pure h
end
section
variable {X : Cx}
end
end L2

set_option maxHeartbeats 1000000
namespace Mq
theorem minus_low {p q : Q2} (hp : 1 ≤ p.2) (hq : 1 ≤ q.2) : Low (minus p q) := red_low (mul_ne hp hq)
theorem times_low {p q : Q2} (hp : 1 ≤ p.2) (hq : 1 ≤ q.2) : Low (times p q) := red_low (mul_ne hp hq)
theorem minus_bd {n m : Nat} {p q : Q2} (h : Bd n p) (g : Bd m q) (hp : 1 ≤ p.2) (hq : 1 ≤ q.2) : Bd (n + m + 1) (minus p q) := by
  have k := red_le (t := p.1 * q.2 - q.1 * p.2) (mul_ne hp hq)
  have a2 : B (n + m) (q.1 * p.2) := by rw [Nat.add_comm]; exact g.a.mul h.b
  exact ⟨((h.a.mul g.b).sub a2).le k.1, ((h.b.mul g.b).mono (Nat.le_succ _)).le k.2⟩
theorem times_bd {n m : Nat} {p q : Q2} (h : Bd n p) (g : Bd m q) (hp : 1 ≤ p.2) (hq : 1 ≤ q.2) : Bd (n + m) (times p q) := by
  have k := red_le (t := p.1 * q.1) (mul_ne hp hq)
  exact ⟨(h.a.mul g.a).le k.1, (h.b.mul g.b).le k.2⟩
end Mq

set_option Elab.async false
set_option linter.all false
set_option maxHeartbeats 1000000
namespace L2
open PySem PySem.Spec PyProof.Rows
end L2

set_option Elab.async false
set_option linter.all false
set_option maxRecDepth 100000
set_option maxHeartbeats 2000000
namespace L2
open PySem PySem.Spec PyProof.Rows
inductive TyQ (K : PySem.W.Frag) (H : Hp) : V → Value → Prop where
  | of {x : V} {t : Value} (h : TyOf K H x t) : TyQ K H x t
  | tup {a : Addr} {xs : List V} (h : SqT K H a xs) : TyQ K H (.ref a) (.type "tuple")
  | lst {a : Addr} {xs : List V} (h : SqL K H a xs) : TyQ K H (.ref a) (.type "list")
section
variable {X : Cx} {pins : List (Addr × Obj)} {σ : St} {H : Hp} {s : Shared} {A : Around} {E : Value → Shared → Prop} {Q : Value → Shared → Prop} {c : Value} {b : Bool}
theorem isinst_okQ {x : V} {u t : Value} (I : Inv X pins σ H s) (rx : RelV x u) (ty : TyQ X.K H x t) (e : PySem.W.kitOne X.K t c = some b) (h : ∀ tk, Q (.bool b) { s with toks := tk }) :
    wpAny (model X.prog X.w) A (call (.builtin "isinstance") [u, c]) Q E s := by
  cases ty with
  | of ty => exact isinst_ok I rx ty e h
  | @tup a xs ht =>
    cases (show u = Value.ref a from rx)
    obtain ⟨its, _, p, _⟩ := I.tuple ht
    obtain ⟨o, h1, h2, _⟩ := p
    exact PySem.W.kia_one PySem.W.kitx_tuple I.kIn ⟨o, h1, h2⟩ e (fun z => nomatch z) h
  | @lst a xs ht =>
    cases (show u = Value.ref a from rx)
    obtain ⟨its, _, p, _⟩ := I.list ht
    obtain ⟨o, h1, h2, _⟩ := p.isList
    exact PySem.W.kia_one PySem.W.kitx_list I.kIn ⟨_, h1, h2⟩ e (fun z => nomatch z) h
end
section
variable {X : Cx}
theorem call_isiQ : CallR X (.builtin "isinstance") (fun xs H Q => ∃ x n t b, xs = [x, .ty n] ∧ TyQ X.K H x t ∧ PySem.W.kitOne X.K t (.type n) = some b ∧ Q (.bl b) H) := by
  intro pins s σ H vs us Q I rv h
  obtain ⟨x, n, t, b, rfl, ty, e, q⟩ := h
  obtain ⟨u, u2, rfl, r1, r2⟩ := vals2 rv
  cases (show u2 = Value.type n from r2)
  exact isinst_okQ I r1 ty e fun tk => ⟨.bl b, H, I.tok tk, rfl, q⟩
theorem pe_isiQ {i : Nat} {x T : Str} {T' : String} {p1 p2 p3 pos : Pos} (hN : X.N[i]? = some x) (hv : Vis X.env.scope x) (b : X.mg "isinstance" = none) (b2 : X.mg T = none) (g1 : Gl X "isinstance") (g2 : Gl X T) (hT : bootBuiltins T = some (.type T'))
    (hd : (x == ("__debug__" : Str)) = false := by decide) (hcd : (x == ("__classdict__" : Str)) = false := by decide) (hTn : T ≠ "__name__" := by decide) (hTd : (T == ("__debug__" : Str)) = false := by decide)
    (he : starEach [.Name x p2, .Name T p3] X.env = (false, eval (.Name x p2) X.env) :: starEach [.Name T p3] X.env := by rfl)
    (he2 : starEach [.Name T p3] X.env = (false, eval (.Name T p3) X.env) :: starEach [] X.env := by rfl) (hpl : (backTo pos (starEach [.Name T p3] X.env)).any (·.1) = false := by rfl) :
    PE X (.Call (.Name "isinstance" p1) [.Name x p2, .Name T p3] [] pos) (fun σ H Q => ∃ v t b, σ[i]? = some (some v) ∧ TyQ X.K H v t ∧ PySem.W.kitOne X.K t (.type T') = some b ∧ Q (.bl b) H) := by
  have h := pe_callB (X := X) (pos := pos) (p := p1) call_isiQ g1 b PyProof.Rows.boot_isinstance (pa_cons (pe_var (i := i) (pos := p2) hN hv hd hcd) (pa_cons (pe_bltn (v := .ty T') (pos := p3) g2 b2 hT rfl hTn hTd) pa_nil he2) he) (by decide) (by decide) he hpl
  intro pins s σ H Q I q
  obtain ⟨v, t, bb, h1, h2, h3, h4⟩ := q
  exact h pins s σ H Q I ⟨v, h1, v, T', t, bb, rfl, h2, h3, h4⟩
end
theorem SqL.upd {K : PySem.W.Frag} {H : Hp} {a l : Addr} {xs : List V} {o : HO} (h : SqL K H a xs) (ne : a ≠ l) : SqL K (L2.upd H l o) a xs := by
  rcases h with (h | ⟨u, h⟩) | h
  · exact .inl (.inl (by rw [upd_ne ne]; exact h))
  · exact .inl (.inr ⟨u, by rw [upd_ne ne]; exact h⟩)
  · exact .inr h
theorem SqT.upd {K : PySem.W.Frag} {H : Hp} {a l : Addr} {xs ys : List V} {o : HO} (h : SqT K H a xs) (hl : H l = some (.lst ys)) : SqT K (L2.upd H l o) a xs := by
  rcases h with (h | ⟨u, h⟩) | h
  · exact .inl (.inl (by rw [upd_ne (ne_of h hl (fun z => by cases z))]; exact h))
  · exact .inl (.inr ⟨u, by rw [upd_ne (ne_of h hl (fun z => by cases z))]; exact h⟩)
  · exact .inr h
theorem ints_dat {K : PySem.W.Frag} {H : Hp} : ∀ ns : List Int, DatVs K H (ns.map V.int) (ns.map PyData.int)
  | [] => .nil
  | n :: r => .cons (.int n) (ints_dat r)
theorem ints_lay : ∀ ns : List Int, PyData.canLayAll0 (ns.map PyData.int) = true
  | [] => rfl
  | n :: r => by
    show ((PyData.int n).canLay0 && PyData.canLayAll0 (r.map PyData.int)) = true
    rw [ints_lay r]; rfl
theorem cut_ints (ns : List Int) (lo hi : Option Int) : ∃ ms : List Int, cutV (ns.map V.int) lo hi = ms.map V.int ∧ ms.length ≤ ns.length := by
  refine ⟨(ns.drop (HT.sIx (ns.map V.int).length 0 lo)).take (HT.sIx (ns.map V.int).length (ns.map V.int).length hi - HT.sIx (ns.map V.int).length 0 lo), ?_, ?_⟩
  · unfold cutV; rw [List.map_take, List.map_drop]
  · rw [List.length_take, List.length_drop]; omega
theorem keep2 {fr : List Nat} {σ : St} {x y : V} : (((σC 2 fr σ).set 0 (some x)).set 1 (some y)).length = (σC 2 fr σ).length ∧ ∀ (i : Nat) v, (σC 2 fr σ)[i]? = some (some v) → (((σC 2 fr σ).set 0 (some x)).set 1 (some y))[i]? = some (some v) := by
  refine ⟨by simp, fun i v h => ?_⟩
  match i with
  | 0 => unfold σC at h; simp at h
  | 1 => unfold σC at h; simp at h
  | k + 2 => rw [List.getElem?_set_ne (by omega), List.getElem?_set_ne (by omega)]; exact h
theorem Fqs.set {K : PySem.W.Frag} {H : Hp} {a : Addr} {p : Mq.Q2} (h : Fq K H a p) : ∀ {xs : List V} {ps : List Mq.Q2} (i : Nat), Fqs K H xs ps → Fqs K H (xs.set i (.ref a)) (ps.set i p)
  | _, _, _, .nil => .nil
  | _, _, 0, .cons _ q => .cons h q
  | _, _, i + 1, .cons g q => .cons g (Fqs.set h i q)
theorem Fqs.at {K : PySem.W.Frag} {H : Hp} : ∀ {xs : List V} {ps : List Mq.Q2} {i : Nat} {p : Mq.Q2}, Fqs K H xs ps → ps[i]? = some p → ∃ a, xs[i]? = some (.ref a) ∧ Fq K H a p
  | _, _, _, _, .nil, h => by simp at h
  | _, _, 0, _, .cons h _, e => by simp at e; subst e; exact ⟨_, rfl, h⟩
  | _, _, i + 1, _, .cons _ q, e => by simpa using Fqs.at q (by simpa using e)
theorem B_of {n : Nat} {i : Int} (lo : -(2 ^ n : Int) < i) (hi : i < 2 ^ n) : Mq.B n i := by
  unfold Mq.B
  have e : ((2 ^ n : Nat) : Int) = 2 ^ n := by simp
  omega
theorem ixN_nat {n k : Nat} (h : k < n) : ixN n (k : Int) = some k := by
  unfold ixN
  rw [if_pos (by omega), if_pos (by omega)]
  simp
end L2

set_option Elab.async false
set_option linter.all false
set_option maxRecDepth 100000
set_option maxHeartbeats 2000000
namespace L2
open PySem PySem.Spec PyProof.Rows
section
variable {X : Cx} {tg : Expr}
def rAll (K : PySem.W.Frag) : List V → Hp → VK → Prop := fun xs H Q => ∃ (p : Addr) (bs : List Bool), xs = [.ref p] ∧ SqL K H p (bs.map V.bl) ∧ Q (.bl (bs.all id)) H
theorem call_all (hc : X.calm = true) : CallR X (.builtin "all") (rAll X.K) := by
  intro pins s σ H xs us Q I r h
  obtain ⟨p, bs, rfl, hq, q⟩ := h
  obtain ⟨u, rfl, rx⟩ := vals1 r
  cases rx
  obtain ⟨its, rv, pl, hz⟩ := I.list hq
  have hlen : its.toArray.size = bs.length := by rw [List.size_toArray, ← rv.length, List.length_map]
  have hne : p ≠ s.heap.objs.size := by
    obtain ⟨o, e, _⟩ := pl.isList
    exact Nat.ne_of_lt (Heap.lt_size e)
  refine call_all_walk (wpAny_pyIter_list pl.isList ?_)
  refine ⟨s.heap.objs.size, _, _, _, _, _, fun i => bs.getD i false, rfl, Walks.list (by exact I.ok.hd hc) s.heap.objs.size p hne its.toArray, ⟨⟨_, Heap.get?_push_size _ rfl, rfl, rfl⟩, ?_⟩, ?_, ?_⟩
  · obtain ⟨o, e, c⟩ := pl.isList
    exact ⟨o, Heap.get?_push_of_some _ e, c⟩
  · intro i v s' Q' E' hv q'
    have hv' : its[i]? = some v := by simpa using hv
    have hi : i < its.length := (List.getElem?_eq_some_iff.mp hv').1
    have hb : (bs.map V.bl)[i]? = some (.bl (bs.getD i false)) := by
      rw [List.getElem?_map, List.getElem?_eq_getElem (by rw [← hlen]; simpa using hi)]
      simp [List.getD, List.getElem?_eq_getElem (show i < bs.length by rw [← hlen]; simpa using hi)]
    obtain ⟨u, hu, ru⟩ := rv.get hb
    have e : u = v := by rw [hv'] at hu; cases hu; rfl
    subst e
    cases ru
    exact wpAny_truthy_bool q'
  · intro h' tk kk
    have e : (List.range its.toArray.size).all (fun i => bs.getD i false) = bs.all id := by
      rw [hlen, Bool.eq_iff_iff, List.all_eq_true, List.all_eq_true]
      constructor
      · intro z b hb
        obtain ⟨i, hi, rfl⟩ := List.getElem_of_mem hb
        have := z i (List.mem_range.mpr hi)
        simpa [List.getD, List.getElem?_eq_getElem hi] using this
      · intro z i hi
        have hi' := List.mem_range.mp hi
        have := z bs[i] (List.getElem_mem hi')
        simpa [List.getD, List.getElem?_eq_getElem hi'] using this
    rw [e]
    refine ⟨.bl _, H, I.kept (t' := tk) fun b o hb => ?_, rfl, q⟩
    have hb2 : b ≠ s.heap.objs.size := Nat.ne_of_lt (Heap.lt_size hb)
    exact kk b o (by simpa using hb2) (Heap.get?_push_of_some _ hb)
end
end L2

set_option Elab.async false
set_option linter.all false
set_option maxRecDepth 100000
set_option maxHeartbeats 2000000
namespace L2
open PySem PySem.Spec PyProof.Rows
section
variable {X : Cx}
end
section
variable {X : Cx} {ι : Type} {C f : ι → Addr} {fd : ι → FuncData} {sp : ι → Sp} {m : Str} {CX : CXT} {k : Nat} {ps : List Str} {ds : List Value} {dvs : List V} {E : XK} {o e : Expr} {es : List Expr} {ta : TE} {t : TA} {apos pos : Pos}
end
section
variable {K : PySem.W.Frag} {mg : Str → Option Value} {CR : Addr} {CK : Kd → Addr} {H : Hp} {x : Addr} {k : Kd} {s g z : V}
end
end L2
namespace L2
open PySem PySem.Spec PyProof.Rows
theorem rd_eqS {K : PySem.W.Frag} {H : Hp} {x y : V} {d : PyData} {neg : Bool} {Q : VK} (h1 : DatV K H x d) (h2 : DatV K H y d) (hl : d.canLay0 = true) (hd : d.depth ≤ 16) (z : Q (.bl (!neg)) H) : rDat K neg x y H Q := by
  refine ⟨d, d, h1, h2, hl, hl, by omega, ?_⟩
  have e : PyData.eqv d d = true := PySem.SeqAt.eqv_refl _ hl
  rw [e]
  cases neg <;> exact z
theorem ifT {c : Bool} {A B : Prop} (h : c = true) (x : A) : if c = true then A else B := by rw [if_pos h]; exact x
theorem ifF {c : Bool} {A B : Prop} (h : c = false) (x : B) : if c = true then A else B := by rw [if_neg (by rw [h]; decide)]; exact x
end L2
namespace L2
open PySem PySem.Spec PyProof.Rows
end L2
namespace L2
end L2

set_option maxHeartbeats 1000000
namespace Mq
def AllLow (ps : List Q2) : Prop := ∀ p ∈ ps, Low p
end Mq

set_option Elab.async false
set_option linter.all false
set_option maxRecDepth 100000
namespace L2
open PySem PySem.Spec PyProof.Rows

section
variable {κ : Type} [DecidableEq κ]
def valV (kvs : List (κ × V)) (k : κ) : Option V := (kvs.find? fun kv => decide (kv.1 = k)).map (·.2)
def putK (kvs : List (κ × V)) (k : κ) (v : V) : List (κ × V) :=
  if (kvs.any fun kv => decide (kv.1 = k)) = true then kvs.map (fun kv => if kv.1 = k then (kv.1, v) else kv) else kvs ++ [(k, v)]
theorem valV_pos {p : κ × V} {r : List (κ × V)} {k : κ} (e : p.1 = k) : valV (p :: r) k = some p.2 := by simp [valV, List.find?_cons, e]
theorem valV_neg {p : κ × V} {r : List (κ × V)} {k : κ} (e : ¬ p.1 = k) : valV (p :: r) k = valV r k := by simp [valV, List.find?_cons, e]
theorem length_putK (kvs : List (κ × V)) (k : κ) (v : V) : (putK kvs k v).length ≤ kvs.length + 1 := by
  unfold putK
  split
  · rw [List.length_map]; omega
  · rw [List.length_append, List.length_cons, List.length_nil]; omega
theorem KV.val {kvs : List (κ × V)} {vs : List (κ × Value)} (r : KV kvs vs) (k : κ) : RelO (valV kvs k) (valueAt vs k) := by
  unfold KV at r
  induction r with
  | nil => exact True.intro
  | @cons p q ps qs h t ih =>
    obtain ⟨h1, h2⟩ := h
    by_cases e : p.1 = k
    · have e' : q.1 = k := h1.symm.trans e
      have b : valueAt (q :: qs) k = some q.2 := by simp [valueAt, List.find?_cons, e']
      rw [valV_pos e, b]; exact h2
    · have e' : ¬ q.1 = k := fun z => e (h1.trans z)
      have b : valueAt (q :: qs) k = valueAt qs k := by simp [valueAt, List.find?_cons, e']
      rw [valV_neg e, b]; exact ih
theorem KV.any {kvs : List (κ × V)} {vs : List (κ × Value)} (r : KV kvs vs) (k : κ) : (kvs.any fun kv => decide (kv.1 = k)) = vs.any fun kv => decide (kv.1 = k) := by
  unfold KV at r
  induction r with
  | nil => rfl
  | cons h t ih => rw [List.any_cons, List.any_cons, ih, h.1]
theorem KV.repl {kvs : List (κ × V)} {vs : List (κ × Value)} (r : KV kvs vs) (k : κ) {y : V} {u : Value} (ry : RelV y u) :
    KV (kvs.map fun kv => if kv.1 = k then (kv.1, y) else kv) (vs.map fun kv => if kv.1 = k then (kv.1, u) else kv) := by
  unfold KV at r ⊢
  induction r with
  | nil => exact .nil
  | @cons p q ps qs h t ih =>
    rw [List.map_cons, List.map_cons]
    refine .cons ?_ ih
    obtain ⟨h1, h2⟩ := h
    by_cases e : p.1 = k
    · rw [if_pos e, if_pos (h1.symm.trans e)]; exact ⟨h1, ry⟩
    · rw [if_neg e, if_neg (fun z => e (h1.trans z))]; exact ⟨h1, h2⟩
theorem KV.put {kvs : List (κ × V)} {vs : List (κ × Value)} (r : KV kvs vs) (k : κ) {y : V} {u : Value} (ry : RelV y u) : KV (putK kvs k y) (stored vs k u) := by
  unfold putK stored
  rw [r.any k]
  by_cases e : (vs.any fun kv => decide (kv.1 = k)) = true
  · rw [if_pos e, if_pos e]; exact r.repl k ry
  · rw [if_neg e, if_neg e]; exact Paired.snoc r ⟨rfl, ry⟩
end


theorem kV_is {P : Program} {w : World} {k : Key} {u : Value} (r : RelV (kV k) u) : (mixKind P w).is k u = true := by
  cases k with
  | inl i => obtain ⟨t, e⟩ := (show ∃ t, u = Value.int i t from r); subst e; exact mixKind_int P w i t
  | inr x => obtain ⟨t, e⟩ := (show ∃ t, u = Value.str x t from r); subst e; exact mixKind_str P w x t
theorem items_are {P : Program} {w : World} : ∀ {ks : List Key} {us : List Value}, Vals (ks.map kV) us → ItemsAre (mixKind P w) ks us
  | [], _, r => by rw [List.map_nil] at r; cases r; exact .nil
  | k :: ks, _, r => by
    rw [List.map_cons] at r
    cases r with
    | cons h t => exact .cons (kV_is h) (items_are t)

abbrev KT (H : Hp) : List (List Key × V) → List (List Key × Addr × Value) → Prop := Paired fun p q => p.1 = q.1 ∧ H q.2.1 = some (.tup (p.1.map kV)) ∧ RelV p.2 q.2.2
theorem KT.val {H : Hp} {kvs : List (List Key × V)} {xs : List (List Key × Addr × Value)} (r : KT H kvs xs) (k : List Key) : RelO (valV kvs k) ((atKey xs k).map (·.2)) := by
  induction r with
  | nil => exact True.intro
  | @cons p q ps qs h t ih =>
    obtain ⟨h1, _, h2⟩ := h
    by_cases e : p.1 = k
    · have e' : q.1 = k := h1.symm.trans e
      have b : atKey (q :: qs) k = some q.2 := by simp [atKey, List.find?_cons, e']
      rw [valV_pos e, b]; exact h2
    · have e' : ¬ q.1 = k := fun z => e (h1.trans z)
      have b : atKey (q :: qs) k = atKey qs k := by simp [atKey, List.find?_cons, e']
      rw [valV_neg e, b]; exact ih
section
variable {P : Program} {w : World} {H : Hp} {h : Heap} {a : Addr}
theorem rd_of {u : HO} (ok : HOk P w H h) (e : Rd H a u) : ObjOk P w H h a u := e.ok ok
theorem dk_rd {kvs : List (Key × V)} (ok : HOk P w H h) (e : Rd H a (.dK kvs)) : kvs.length ≤ sizeLine ∧ (a == sysModules) = false ∧ ∃ vs, KV kvs vs ∧ h.DictOf (mixKind P w) a vs :=
  show ObjOk P w H h a (.dK kvs) from rd_of ok e
theorem dk_of {kvs : List (Key × V)} (ok : HOk P w H h) (e : H a = some (.dK kvs)) : kvs.length ≤ sizeLine ∧ (a == sysModules) = false ∧ ∃ vs, KV kvs vs ∧ h.DictOf (mixKind P w) a vs := dk_rd ok (.inl e)
theorem key_of {ks : List Key} (ok : HOk P w H h) (e : H a = some (.tup (ks.map kV))) : (tupleKind (mixKind P w)).is h ks a := by
  obtain ⟨_, its, r, o, h1, h2, n, h3⟩ := (show ObjOk P w H h a (.tup (ks.map kV)) from ok a _ e)
  exact ⟨o, its.toArray, n, h1, h2, h3, by simpa using items_are r⟩
theorem dt_rd {kvs : List (List Key × V)} (ok : HOk P w H h) (e : Rd H a (.dT kvs)) : kvs.length ≤ sizeLine ∧ (a == sysModules) = false ∧
    ∃ xs, KT H kvs xs ∧ h.DictOfH (tupleKind (mixKind P w)) a xs := by
  obtain ⟨z, y, xs, r, o, es, ep, h1, h2, h3, h4, h5⟩ := (show ObjOk P w H h a (.dT kvs) from rd_of ok e)
  refine ⟨z, y, xs, r, o, es, ep, h1, h2, h3, h4, fun x hx => ?_, h5⟩
  have all : ∀ {l : List (List Key × V)} {m : List (List Key × Addr × Value)}, KT H l m → ∀ x ∈ m, (tupleKind (mixKind P w)).is h x.1 x.2.1 := by
    intro l m q
    induction q with
    | nil => intro x hx; exact nomatch hx
    | @cons p q ps qs hq t ih =>
      intro x hx
      rcases List.mem_cons.mp hx with e | hx
      · subst e
        exact key_of ok (by rw [← hq.1]; exact hq.2.1)
      · exact ih x hx
  exact all r x hx
end

def DGet (H : Hp) (a : Addr) (y : V) (r : Option V) : Prop :=
  (∃ kvs k, Rd H a (.dK kvs) ∧ y = kV k ∧ r = valV kvs k) ∨ ∃ kvs k b, Rd H a (.dT kvs) ∧ y = .ref b ∧ H b = some (.tup (k.map kV)) ∧ r = valV kvs k
theorem DGet.k {H : Hp} {a : Addr} {kvs : List (Key × V)} {k : Key} (e : H a = some (.dK kvs)) : DGet H a (kV k) (valV kvs k) := .inl ⟨kvs, k, .inl e, rfl, rfl⟩
section
variable {X : Cx} {pins : List (Addr × Obj)} {σ : St} {H : Hp} {s : Shared} {a : Addr} {y v : V} {u r : Value} {o : Option V} {A : Around} {E : Value → Shared → Prop}

theorem Inv.big (I : Inv X pins σ H s) : sysModules < s.heap.objs.size := by
  have h : mainGlobals < s.heap.objs.size := (I.mod.glob.keeps I.bk).lt
  exact Nat.lt_trans (by decide) h

theorem d_getItem {Q : Value → Shared → Prop} (hu : A.units + 1 < cLine) (I : Inv X pins σ H s) (g : DGet H a y (some v)) (ry : RelV y u) (h : ∀ w' s', Inv X pins σ H s' → RelV v w' → Q w' s') :
    wpAny (model X.prog X.w) A (getItem (.ref a) u) Q E s := by
  rcases g with ⟨kvs, k, e, ey, l⟩ | ⟨kvs, k, b, e, ey, eb, l⟩
  · subst ey
    obtain ⟨z, hd, vs, rel, dd⟩ := dk_rd I.hok e
    obtain ⟨w', hw, rw'⟩ := RelO.some_of (v := v) (o := valueAt vs k) (by rw [l]; exact rel.val k)
    exact wpAny_getItem_of (kV_is ry) dd.mapOf hw (h w' _ (I.tok _) rw')
  · subst ey
    cases (show u = Value.ref b from ry)
    obtain ⟨z, hd, xs, rel, dd⟩ := dt_rd I.hok e
    obtain ⟨w', hw, rw'⟩ := RelO.some_of (v := v) (o := (atKey xs k).map (·.2)) (by rw [l]; exact rel.val k)
    obtain ⟨p, hp, hp2⟩ := Option.map_eq_some_iff.mp hw
    refine wpAny_getItem_heap (tupleKind_room_in1 hu) (key_of I.hok eb) dd hp ?_
    rw [hp2]
    exact h w' _ (I.tok _) rw'
theorem d_write {h' : Heap} {t' : Nat} {ob : HO} (I : Inv X pins σ H s) (mu : Mut (H a)) (hs : Heap.SameBut a s.heap h') (he : ∃ q, h'.get? a = some q) (new : ObjOk X.prog X.w (upd H a ob) h' a ob) :
    Inv X pins σ (upd H a ob) { s with heap := h', toks := t' } :=
  I.write (x := a) (e := a) mu (.inl rfl) (fun b q hb z => (hs.2 b hb).trans z) he new
theorem dk_new {P : Program} {w : World} {H' : Hp} {h' : Heap} {kvs : List (Key × V)} {vs : List (Key × Value)} (z : kvs.length ≤ sizeLine) (hd : (a == sysModules) = false) (rel : KV kvs vs) (dd : h'.DictOf (mixKind P w) a vs) :
    ObjOk P w H' h' a (.dK kvs) := ⟨z, hd, vs, rel, dd⟩
end

section
variable {X : Cx} {pins : List (Addr × Obj)} {σ : St} {H : Hp} {s : Shared} {a : Addr} {kvs : List (Key × V)} {k : Key} {u : Value} {A : Around} {E : Value → Shared → Prop}
end


def NoSl (i : Expr) : Prop := ∀ ov iv, subscripted i false ov iv = operate [ov, iv] (getItem ov iv)
theorem subD_of {prog : Program} {w : World} {A : Around} {E : Value → Shared → Prop} {s : Shared} {env : Env} {value slice : Expr} {pos : Pos} {T id : String} {Q : Value → Shared → Prop}
    (hl : typeLookup (.type T) "__getitem__" = pure (some (.builtin id))) (hs : NoSl slice)
    (h : wpAny (model prog w) A (eval value env) (fun o s₁ => wpAny (model prog w) A (eval slice env) (fun i s₂ => s₂.TypeIs o T ∧ wpAny (model prog w) A (getItem o i) Q E s₂) E s₁) E s) :
    wpAny (model prog w) A (eval (.Subscript value slice pos) env) Q E s := by
  refine Subscript_ (wpAny_mono h (fun o s₁ h₁ => wpAny_mono h₁ (fun i s₂ h₂ => ?_) fun _ _ x => x) fun _ _ x => x)
  obtain ⟨hT, h₂⟩ := h₂
  unfold subscriptTail
  refine wpAny_bind ?_
  rw [getitemInPython_of_ne hT.not_modules]
  refine wpAny_bind (wpAny_specialOf hT hl ?_)
  have fin : wpAny (model prog w) A (subscripted slice false o i) (fun r s₃ => wpAny (model prog w) A (letTemporaryGo value o r >>= fun _ => pure r) Q E s₃) E s₂ := by
    rw [hs o i]
    exact wpAny_operating (wpAny_mono h₂ (fun r s₃ h₃ => wpAny_bind (wpAny_letTemporaryGo (wpAny_pure h₃))) fun _ _ x => x)
  first
    | exact wpAny_pure (wpAny_bind fin)
    | exact wpAny_bind (wpAny_pure (wpAny_bind fin))
    | exact wpAny_bind fin

theorem dict_typeIs {X : Cx} {pins : List (Addr × Obj)} {σ : St} {H : Hp} {s : Shared} {a : Addr} {y : V} {o : Option V} (I : Inv X pins σ H s) (g : DGet H a y o) : s.TypeIs (.ref a) "dict" := by
  rcases g with ⟨kvs, k, e, _, _⟩ | ⟨kvs, k, b, e, _, _, _⟩
  · obtain ⟨_, _, vs, _, dd⟩ := dk_rd I.hok e
    exact dd.typeIs
  · obtain ⟨_, _, xs, _, dd⟩ := dt_rd I.hok e
    exact dd.typeIs
def tDGet (td ty : TE) : TE := fun σ H Q => td σ H fun x H1 => ty σ H1 fun y H2 => ∃ a v, x = .ref a ∧ DGet H2 a y (some v) ∧ Q v H2
section
variable {X : Cx} {o i e value : Expr} {pos pos' tpos : Pos} {td ty tv : TE}
theorem pe_dget (hu : X.A.units + 1 < cLine) (ho : PE X o td) (hi : PE X i ty) (hs : NoSl i) : PE X (.Subscript o i pos) (tDGet td ty) := by
  intro pins s σ H Q I h
  refine subD_of PySem.F.slot_dict_getitem.lookup hs (thn (ho pins s σ H _ I h) fun u s1 ⟨x, H1, I1, rx, q1⟩ => thn (hi pins s1 σ H1 _ I1 q1) fun iv s2 ⟨y, H2, I2, ry, a, v, ex, g, q2⟩ => ?_)
  subst ex
  obtain rfl : u = Value.ref a := rx
  exact ⟨dict_typeIs I2 g, d_getItem hu I2 g ry fun w' s3 I3 rw' => ⟨v, H2, I3, rw', q2⟩⟩
end


theorem dk_empty {P : Program} {w : World} {H : Hp} (h : Heap) (hb : sysModules < h.objs.size) : ObjOk P w H (h.push { cls := .type "dict", data := .dict #[] }) h.objs.size (.dK []) :=
  ⟨Nat.zero_le _, beq_eq_false_iff_ne.mpr (Ne.symm (Nat.ne_of_lt hb)), [], .nil, Heap.DictOf.new h⟩
section
variable {X : Cx} {pos : Pos}
end

def tPairs : List (TE × TE) → St → Hp → (List (V × V) → Hp → Prop) → Prop
  | [], _, H, Q => Q [] H
  | (tk, tv) :: r, σ, H, Q => tk σ H fun x H1 => tv σ H1 fun y H2 => tPairs r σ H2 fun ps H3 => Q ((x, y) :: ps) H3
abbrev VV : List (V × V) → List (Value × Value) → Prop := Paired fun p q => RelV p.1 q.1 ∧ RelV p.2 q.2
def PPs (X : Cx) (pos : Pos) (keys : List (Option Expr)) (values : List Expr) (trs : List (TE × TE)) : Prop :=
  ∀ (pins : List (Addr × Obj)) (s : Shared) (σ : St) (H : Hp) (Q : List (V × V) → Hp → Prop), Inv X pins σ H s → tPairs trs σ H Q →
    wpAny (model X.prog X.w) X.A (evalPairs (pairTrees keys values X.env pos)) (fun vs s' => ∃ ps H', Inv X pins σ H' s' ∧ VV ps vs ∧ Q ps H') X.xe s
theorem pps_nil {X : Cx} {pos : Pos} : PPs X pos [] [] [] := fun pins s σ H Q I h => pairTrees_nil_walk ⟨[], H, I, .nil, h⟩
theorem pps_cons {X : Cx} {pos : Pos} {k v : Expr} {ks : List (Option Expr)} {vs : List Expr} {tk tv : TE} {trs : List (TE × TE)} (hk : PE X k tk) (hv : PE X v tv) (hr : PPs X pos ks vs trs) :
    PPs X pos (some k :: ks) (v :: vs) ((tk, tv) :: trs) := fun pins s σ H Q I h =>
  pairTrees_cons_walk (thn (hk pins s σ H _ I h) fun u s1 ⟨x, H1, I1, rx, q1⟩ => thn (hv pins s1 σ H1 _ I1 q1) fun w2 s2 ⟨y, H2, I2, ry, q2⟩ =>
    thn (hr pins s2 σ H2 _ I2 q2) fun ws s3 ⟨ps, H3, I3, rel, q3⟩ => ⟨(x, y) :: ps, H3, I3, .cons ⟨rx, ry⟩ rel, q3⟩)

def mergeK (kvs more : List (Key × V)) : List (Key × V) := more.foldl (fun acc kv => putK acc kv.1 kv.2) kvs
theorem KV.merge : ∀ {more : List (Key × V)} {rs : List (Key × Value)} {kvs : List (Key × V)} {vs : List (Key × Value)}, KV more rs → KV kvs vs → KV (mergeK kvs more) (merged vs rs) := by
  intro more rs kvs vs r
  unfold KV at r
  induction r generalizing kvs vs with
  | nil => intro q; exact q
  | @cons p q ps qs h t ih =>
    intro r0
    have e : KV (putK kvs p.1 p.2) (stored vs q.1 q.2) := by
      have := r0.put p.1 h.2
      rw [← h.1]; exact this
    exact ih e
theorem length_mergeK : ∀ (more kvs : List (Key × V)), (mergeK kvs more).length ≤ kvs.length + more.length
  | [], kvs => by show kvs.length ≤ kvs.length + 0; omega
  | p :: r, kvs => by
    have h1 := length_mergeK r (putK kvs p.1 p.2)
    have h2 := length_putK kvs p.1 p.2
    show (mergeK (putK kvs p.1 p.2) r).length ≤ _
    rw [List.length_cons]; omega
theorem carries_of {P : Program} {w : World} : ∀ {kvs : List (Key × V)} {ws : List (Value × Value)}, VV (kvs.map fun kv => (kV kv.1, kv.2)) ws → ∃ rs, Carries (mixKind P w) ws rs ∧ KV kvs rs
  | [], _, r => by rw [List.map_nil] at r; cases r; exact ⟨[], True.intro, .nil⟩
  | p :: kvs, _, r => by
    rw [List.map_cons] at r
    cases r with
    | @cons a b as bs h t =>
      obtain ⟨rs, c, q⟩ := carries_of (P := P) (w := w) t
      obtain ⟨b1, b2⟩ := b
      exact ⟨(p.1, b2) :: rs, ⟨kV_is h.1, rfl, c⟩, .cons ⟨rfl, h.2⟩ q⟩
def tDisp (trs : List (TE × TE)) : TE := fun σ H Q => ∀ p, H p = none → tPairs trs σ (upd H p (.dK [])) fun ps H2 => H2 p = some (.dK []) ∧ ∃ kvs : List (Key × V), ps = kvs.map (fun kv => (kV kv.1, kv.2)) ∧ kvs.length ≤ 15 ∧ Q (.ref p) (upd H2 p (.dK (mergeK [] kvs)))
theorem pe_disp {X : Cx} {pos : Pos} {keys : List (Option Expr)} {values : List Expr} {trs : List (TE × TE)} (h : PPs X pos keys values trs) (hall : keys.all (·.isSome) = true) (hl : keys.length = values.length) (h0 : keys ≠ [])
    (h15 : keys.length ≤ 15) : PE X (.Dict keys values pos) (tDisp trs) := by
  intro pins s σ H Q I q
  have hn := I.hok.fresh (Nat.le_refl s.heap.objs.size)
  have I1 := I.laid (a := s.heap.objs.size) (o := .dK []) (h' := s.heap.push { cls := .type "dict", data := .dict #[] }) (t' := s.toks) (fun _ _ q => Heap.get?_push_of_some _ q) (Nat.le_refl _) (dk_empty s.heap I.big)
  refine wpAny_Dict_walk (knd := mixKind X.prog X.w) hall hl h0 h15 (thn (h pins _ σ _ _ I1 (q _ hn)) fun ws s2 ⟨ps, H2, I2, rel, e, kvs, ep, lk, q2⟩ => ?_)
  subst ep
  obtain ⟨rs, c, rk⟩ := carries_of (P := X.prog) (w := X.w) rel
  obtain ⟨z, hd, vs0, r0, dd⟩ := dk_of I2.hok e
  cases r0
  refine ⟨rs, c, dd, fun h' dd' hs => ⟨.ref s.heap.objs.size, _, ?_, rfl, q2⟩⟩
  have hz : (mergeK [] kvs).length ≤ sizeLine := by
    have h1 := length_mergeK kvs []
    rw [List.length_nil] at h1
    rw [sizeLine_eq]; omega
  have he : ∃ q, h'.get? s.heap.objs.size = some q := let ⟨q, _, _, hq, _⟩ := dd'; ⟨q, hq⟩
  exact d_write I2 (by rw [e]; exact True.intro) hs he (dk_new hz hd (rk.merge .nil) dd')


section
variable {X : Cx} {pins : List (Addr × Obj)} {σ : St} {H : Hp} {s : Shared} {a : Addr} {y d : V} {u r : Value} {o : Option V} {A : Around} {E : Value → Shared → Prop}
end

section
variable {X : Cx} {o e f : Expr} {apos cpos : Pos} {td ty tx : TE}
end

section
variable {X : Cx} {pins : List (Addr × Obj)} {σ : St} {H : Hp} {s : Shared} {a : Addr} {kvs : List (Key × V)} {A : Around} {E : Value → Shared → Prop}
end


section
variable {X : Cx} {pins : List (Addr × Obj)} {σ : St} {H : Hp} {s : Shared} {a : Addr} {y : V} {u : Value} {A : Around} {E : Value → Shared → Prop}
end
end L2

namespace L2
open PySem PySem.Spec PyProof.Rows
section
variable {X : Cx}
end
section
variable {κ : Type} [DecidableEq κ]
end
end L2

set_option Elab.async false
set_option linter.all false
set_option maxRecDepth 100000
set_option maxHeartbeats 2000000
namespace Mq
end Mq
namespace L2
open PySem PySem.Spec PyProof.Rows
theorem ints_depth : ∀ ns : List Int, PyData.depthAll (ns.map PyData.int) ≤ 1
  | [] => by simp [PyData.depthAll]
  | n :: r => by
    have b := ints_depth r
    simp only [List.map_cons, PyData.depthAll, PyData.depth]
    omega
theorem rd_eqI {K : PySem.W.Frag} {H : Hp} {a b : Addr} {ns : List Int} {neg : Bool} {Q : VK} (h1 : SqL K H a (ns.map V.int)) (h2 : SqL K H b (ns.map V.int)) (z : Q (.bl (!neg)) H) : rDat K neg (.ref a) (.ref b) H Q :=
  rd_eqS (d := .list (ns.map PyData.int)) (.lst h1 (ints_dat ns)) (.lst h2 (ints_dat ns)) (ints_lay ns) (by have := ints_depth ns; simp only [PyData.depth]; omega) z
theorem Fq.mod {K : PySem.W.Frag} {a : Addr} {d : Option Addr} {n : Nat} {sl : Array (Option Value)} {i j : Int} {t u : Tok} (l : K.lookup a = some ⟨.type "tuple", d, .seq #[.int i t, .int j u] n, sl⟩) (H : Hp) : Fq K H a (i, j) :=
  .inr ⟨_, _, _, l, rfl, rfl, (by show 2 ≤ sizeLine; decide), .cons ⟨_, rfl⟩ (.cons ⟨_, rfl⟩ .nil)⟩
end L2

set_option Elab.async false
set_option linter.all false
set_option maxRecDepth 100000
set_option maxHeartbeats 2000000
namespace L2
open PySem PySem.Spec PyProof.Rows
section
variable {K : PySem.W.Frag} {H H' : Hp}
end
def SameX (l : Addr) (H H' : Hp) : Prop := ∀ b o, H b = some o → b ≠ l → H' b = some o
section
variable {K : PySem.W.Frag} {H H' : Hp} {l : Addr}
end
end L2

set_option Elab.async false
set_option linter.all false
set_option maxRecDepth 100000
set_option maxHeartbeats 2000000
namespace L2
open PySem PySem.Spec PyProof.Rows
section
variable {K : PySem.W.Frag} {H H' : Hp} {l r : Addr} {as bs : List V}
end
section
variable {CN : Addr} {K : PySem.W.Frag} {H H' : Hp} {N R : Addr} {rs : List NR}
end
end L2

set_option linter.all false
namespace Mq
def val (p : Q2) : Rat := (p.1 : Rat) / (p.2 : Rat)
theorem cast_ne {b : Int} (h : b ≠ 0) : (b : Rat) ≠ 0 := fun e => h (Rat.intCast_inj.mp (by simpa using e))
theorem val_eq_div {p : Q2} {t b : Int} (hp : p.2 ≠ 0) (hb : b ≠ 0) (h : p.1 * b = t * p.2) : val p = (t : Rat) / (b : Rat) := by
  unfold val
  have h1 := cast_ne hp
  have h2 := cast_ne hb
  have h3 : (p.1 : Rat) * (b : Rat) = (t : Rat) * (p.2 : Rat) := by rw [← Rat.intCast_mul, ← Rat.intCast_mul, h]
  grind
theorem val_red {t b : Int} (hb : b ≠ 0) : val (red t b) = (t : Rat) / (b : Rat) := by
  have := (red_low (t := t) hb).pos
  exact val_eq_div (by omega) hb (red_cross hb)
theorem low_ext {p q : Q2} (hp : Low p) (hq : Low q) (h : val p = val q) : p = q := by
  refine low_same hp hq ?_
  have p1 := cast_ne (show p.2 ≠ 0 by have := hp.pos; omega)
  have q1 := cast_ne (show q.2 ≠ 0 by have := hq.pos; omega)
  unfold val at h
  have : (p.1 : Rat) * (q.2 : Rat) = (q.1 : Rat) * (p.2 : Rat) := by grind
  rw [← Rat.intCast_mul, ← Rat.intCast_mul] at this
  exact Rat.intCast_inj.mp this
theorem val_plus {p q : Q2} (hp : 1 ≤ p.2) (hq : 1 ≤ q.2) : val (plus p q) = val p + val q := by
  have p1 := cast_ne (show p.2 ≠ 0 by omega)
  have q1 := cast_ne (show q.2 ≠ 0 by omega)
  unfold plus
  rw [val_red (mul_ne hp hq), Rat.intCast_add, Rat.intCast_mul, Rat.intCast_mul, Rat.intCast_mul]
  unfold val
  grind
theorem val_minus {p q : Q2} (hp : 1 ≤ p.2) (hq : 1 ≤ q.2) : val (minus p q) = val p - val q := by
  have p1 := cast_ne (show p.2 ≠ 0 by omega)
  have q1 := cast_ne (show q.2 ≠ 0 by omega)
  unfold minus
  rw [val_red (mul_ne hp hq), Rat.intCast_sub, Rat.intCast_mul, Rat.intCast_mul, Rat.intCast_mul]
  unfold val
  grind
theorem val_times {p q : Q2} (hp : 1 ≤ p.2) (hq : 1 ≤ q.2) : val (times p q) = val p * val q := by
  have p1 := cast_ne (show p.2 ≠ 0 by omega)
  have q1 := cast_ne (show q.2 ≠ 0 by omega)
  unfold times
  rw [val_red (mul_ne hp hq), Rat.intCast_mul, Rat.intCast_mul]
  unfold val
  grind
theorem val01 : val (0, 1) = 0 := by unfold val; simp; grind
structure Ps (p : Q2) : Prop where
  low : Low p
  pos : 0 < p.1
theorem Ps.b {p : Q2} (h : Ps p) : 1 ≤ p.2 := h.low.pos
theorem red_pos {t b : Int} (ht : 0 < t) (hb : 0 < b) : 0 < (red t b).1 := by
  have h1 := red_cross (t := t) (b := b) (by omega)
  have h2 := (red_low (t := t) (b := b) (by omega)).pos
  have h3 : 0 < t * (red t b).2 := Int.mul_pos ht (by omega)
  rw [← h1] at h3
  exact Int.pos_of_mul_pos_left h3 (by omega)
theorem red_ps {t b : Int} (ht : 0 < t) (hb : 0 < b) : Ps (red t b) := ⟨red_low (by omega), red_pos ht hb⟩
theorem plus_ps {p q : Q2} (hp : 1 ≤ p.2) (h0 : 0 ≤ p.1) (hq : Ps q) : Ps (plus p q) := by
  have b := hq.b
  refine red_ps ?_ (Int.mul_pos (by omega) (by omega))
  have h1 : 0 ≤ p.1 * q.2 := Int.mul_nonneg h0 (by omega)
  have h2 : 0 < q.1 * p.2 := Int.mul_pos hq.pos (by omega)
  omega
def rsum : List Rat → Rat
  | [] => 0
  | x :: l => x + rsum l
theorem val_foldl : ∀ {l : List Q2} {p : Q2}, 1 ≤ p.2 → Pos l → val (l.foldl plus p) = val p + rsum (l.map val)
  | [], p, _, _ => by simp [rsum]; grind
  | q :: l, p, hp, h => by
    have hq := h q (by simp)
    rw [List.foldl_cons, val_foldl (plus_low hp hq).pos (fun f hf => h f (List.mem_cons_of_mem _ hf)), val_plus hp hq]
    simp only [List.map_cons, rsum]
    grind
theorem val_tot {l : List Q2} (h : Pos l) : val (tot l) = rsum (l.map val) := by
  unfold tot
  rw [val_foldl (by decide) h, val01]
  grind
def rs (n : Nat) (F : Nat → Rat) : Rat := match n with
  | 0 => 0
  | n + 1 => rs n F + F n
theorem rs_congr {n : Nat} {F G : Nat → Rat} (h : ∀ i, i < n → F i = G i) : rs n F = rs n G := by
  induction n with
  | zero => rfl
  | succ n ih => simp only [rs]; rw [ih (fun i hi => h i (by omega)), h n (by omega)]
end Mq

set_option linter.all false
namespace Mq
abbrev z0 : Q2 := (0, 1)
def inv (p : Q2) : Q2 := (p.2, p.1)
theorem inv_ps {p : Q2} (h : Ps p) : Ps (inv p) := ⟨⟨h.pos, by
  have := h.low.one
  unfold inv
  unfold gc at *
  rw [Int.gcd_comm]
  exact this⟩, by have := h.b; show 0 < p.2; omega⟩
abbrev Row := Nat × Nat × Q2
end Mq

set_option linter.all false
namespace Mq
def lcmS (L b : Int) : Int := Int.fdiv L (gc L b) * b
theorem lcmS_parts {L b : Int} (hL : 1 ≤ L) (hb : 1 ≤ b) : 1 ≤ lcmS L b ∧ (∃ j, lcmS L b = L * j) ∧ (∃ k, lcmS L b = k * b ∧ 1 ≤ k) ∧ lcmS L b ≤ L * b := by
  have gp : 0 < gc L b := gc_pos (by omega)
  have d1 : gc L b ∣ L := by unfold gc; exact Int.gcd_dvd_left ..
  have d2 : gc L b ∣ b := by unfold gc; exact Int.gcd_dvd_right ..
  obtain ⟨k, hk⟩ := d1
  obtain ⟨j, hj⟩ := d2
  have ek : Int.fdiv L (gc L b) = k := fdiv_exact (by omega) hk
  have k1 : 1 ≤ k := by
    have : 0 < gc L b * k := by omega
    have := Int.pos_of_mul_pos_right this (by omega)
    omega
  unfold lcmS
  rw [ek]
  refine ⟨?_, ⟨j, ?_⟩, ⟨k, rfl, k1⟩, ?_⟩
  · have : 0 < k * b := Int.mul_pos (by omega) (by omega)
    omega
  · generalize gc L b = g at *
    rw [hk, hj]; grind
  · have : k ≤ L := by
      rw [hk]
      have := Int.mul_le_mul_of_nonneg_right (show 1 ≤ gc L b by omega) (show 0 ≤ k by omega)
      omega
    exact Int.mul_le_mul_of_nonneg_right this (by omega)
def lcmB (ps : List Q2) : Int := ps.foldl (fun L p => lcmS L p.2) 1
theorem lcmB_snoc (ps : List Q2) (p : Q2) : lcmB (ps ++ [p]) = lcmS (lcmB ps) p.2 := by unfold lcmB; rw [List.foldl_append]; rfl
theorem lcmB_take {ps : List Q2} {i : Nat} {p : Q2} (h : ps[i]? = some p) : lcmB (ps.take (i + 1)) = lcmS (lcmB (ps.take i)) p.2 := by
  rw [List.take_add_one, h]; exact lcmB_snoc _ _
theorem lcmB_facts {ps : List Q2} (hp : Pos ps) {n : Nat} (hb : ∀ p ∈ ps, Bd n p) : ∀ i, i ≤ ps.length → 1 ≤ lcmB (ps.take i) ∧ B (1 + n * i) (lcmB (ps.take i)) ∧ ∀ p ∈ ps.take i, ∃ k, lcmB (ps.take i) = k * p.2
  | 0, _ => ⟨by show (1 : Int) ≤ 1; omega, show (1 : Nat) < 2 ^ (1 + n * 0) by simp, fun p h => by simp at h⟩
  | i + 1, hi => by
    obtain ⟨h1, h2, h3⟩ := lcmB_facts hp hb i (by omega)
    have e : ps[i]? = some ps[i] := List.getElem?_eq_getElem (by omega)
    have mem : ps[i] ∈ ps := List.getElem_mem _
    rw [lcmB_take e]
    obtain ⟨l1, ⟨j, l2⟩, ⟨k, l3, l4⟩, l5⟩ := lcmS_parts h1 (hp _ mem)
    refine ⟨l1, ?_, fun p hpp => ?_⟩
    · have := h2.mul (hb _ mem).b
      refine B.mono (n := 1 + n * i + n) (this.le ?_) (by rw [Nat.mul_succ]; omega)
      have h0 : 1 ≤ ps[i].2 := hp _ mem
      have : 0 ≤ lcmB (ps.take i) * ps[i].2 := Int.mul_nonneg (by omega) (by omega)
      omega
    · rw [List.take_add_one, e] at hpp
      rcases List.mem_append.mp hpp with z | z
      · obtain ⟨q, hq⟩ := h3 p z
        exact ⟨q * j, by rw [l2, hq]; grind⟩
      · have : p = ps[i] := by simpa using z
        rw [this]; exact ⟨k, l3⟩
theorem lcmB_ge {ps : List Q2} (hp : Pos ps) : 1 ≤ lcmB ps := by
  have : ∀ (l : List Q2) (L : Int), 1 ≤ L → Pos l → 1 ≤ l.foldl (fun L p => lcmS L p.2) L := fun l => by
    induction l with
    | nil => intro L h _; exact h
    | cons p l ih => intro L h q; exact ih _ (lcmS_parts h (q p (by simp))).1 fun x hx => q x (List.mem_cons_of_mem _ hx)
  exact this ps 1 (by omega) hp
def iwOf (L : Int) (p : Q2) : Int := p.1 * Int.fdiv L p.2
def iw (ps : List Q2) : List Int := ps.map (iwOf (lcmB ps))
theorem iw_val {L k : Int} {p : Q2} (h : 1 ≤ p.2) (e : L = k * p.2) : ((iwOf L p : Int) : Rat) = val p * (L : Rat) := by
  have e1 : Int.fdiv L p.2 = k := fdiv_exact (by omega) (by rw [e, Int.mul_comm])
  have n := cast_ne (show p.2 ≠ 0 by omega)
  unfold iwOf val
  rw [e1, e, Rat.intCast_mul, Rat.intCast_mul]
  grind
theorem lcmB_dvd {ps : List Q2} (hp : Pos ps) : ∀ p ∈ ps, ∃ k, lcmB ps = k * p.2 := fun p hpp => by
  have : ∀ (l : List Q2) (L : Int), 1 ≤ L → Pos l → (∃ j, l.foldl (fun L p => lcmS L p.2) L = L * j) ∧ ∀ p ∈ l, ∃ k, l.foldl (fun L p => lcmS L p.2) L = k * p.2 := fun l => by
    induction l with
    | nil => intro L h _; exact ⟨⟨1, by simp⟩, fun p h => by simp at h⟩
    | cons q l ih =>
      intro L h hq
      obtain ⟨l1, ⟨j, l2⟩, ⟨k, l3, l4⟩, l5⟩ := lcmS_parts h (hq q (by simp))
      obtain ⟨⟨j2, i1⟩, i2⟩ := ih (lcmS L q.2) l1 fun x hx => hq x (List.mem_cons_of_mem _ hx)
      refine ⟨⟨j * j2, by rw [List.foldl_cons, i1, l2]; grind⟩, fun p hp => ?_⟩
      rcases List.mem_cons.mp hp with rfl | hp
      · exact ⟨k * j2, by rw [List.foldl_cons, i1, l3]; grind⟩
      · exact i2 p hp
  exact (this ps 1 (by omega) hp).2 p hpp
theorem getD_pos {row : List Q2} (h : Pos row) (j : Nat) : 1 ≤ (row.getD j z0).2 := by
  rw [List.getD_eq_getElem?_getD]
  cases e : row[j]? with
  | none => exact Int.le_refl 1
  | some v => exact h v (List.mem_of_getElem? e)
end Mq

set_option Elab.async false
set_option linter.all false
set_option maxRecDepth 100000
set_option maxHeartbeats 2000000
namespace L2
open PySem PySem.Spec PyProof.Rows
section
variable {M : Model} {A : Around} {E : Value → Shared → Prop} {s : Shared}
theorem newEnv_comp {scope : Scope} {globals : Addr} {cl : List (Str × Addr)} {qual : Str} {env : Env} {Q : Env → Shared → Prop}
    (hQ : Q { scope := scope, locals := s.heap.objs.size, globals := globals, cells := cellsFrom (s.heap.objs.size + 1) scope.names cl, qual := qual, func := none, code := env.code, frame := env.frame, builtins := env.builtins } { s with heap := pushCells (s.heap.push { cls := .type "dict", data := .dict #[] }) scope.names }) :
    wpAny M A (newFunctionEnv scope globals cl [] qual none .none (some env)) Q E s := by
  simp only [newFunctionEnv, Option.isSome_some, if_true]
  refine wpAny_bind (wpAny_alloc ?_)
  refine wpAny_bind (wpAny_layCells _ (fun name kind cells => by cases hkc : kind == NameKind.cell <;> simp [hkc]) _ _ _ _ ?_)
  rw [show ({ s with heap := s.heap.push { cls := .type "dict", data := .dict #[] } } : Shared).heap.objs.size = s.heap.objs.size + 1 from Heap.size_push ..]
  exact wpAny_bind (wpAny_pure (wpAny_pure hQ))
end
abbrev compEnv1 (scope : Scope) (cl : List (Str × Addr)) (x0 : Str) (C : Addr) (env : Env) : Env := { compEnvC scope cl C env with cells := (x0, C + 1) :: cl }
structure CompOk1 (X : Cx) (scope : Scope) (cl : List (Str × Addr)) (x0 : Str) (Nc : List Str) (nl : Nat) (fr : List Nat) : Prop where
  clos : closureFor scope X.env = pure cl
  kind : scope.kind = .function
  names : ∀ y ∈ scope.names, y.2 = .local → scope.names.lookup y.1 = some .local
  one : ∀ n, cellsFrom n scope.names cl = (x0, n) :: cl
  psh : ∀ h, pushCells h scope.names = h.push { cls := .type "cell", data := .cell none }
  nin : cl.lookup x0 = none
  sub : ∀ x c, cl.lookup x = some c → X.env.cells.lookup x = some c
  has : ∀ C x, (relabel scope X.env).names.lookup x = some .cell ∨ (relabel scope X.env).names.lookup x = some .free → ∃ c, ((x0, C) :: cl).lookup x = some c
  len : Nc.length = nl + fr.length
  tail : ∀ i n, Nc[nl + i]? = some n → ∃ j, fr[i]? = some j ∧ X.N[j]? = some n ∧ X.env.kindOf n = some .cell ∧ cl.lookup n = X.env.cells.lookup n ∧ ((relabel scope X.env).names.lookup n = some .cell ∨ (relabel scope X.env).names.lookup n = some .free)
abbrev compCx1 (X : Cx) (scope : Scope) (cl : List (Str × Addr)) (x0 : Str) (Nc : List Str) (C : Addr) (s3 : Shared) (H3 : Hp) (fp : List Addr) (pins : List (Addr × Obj)) : Cx :=
  { X with N := Nc, s₀ := s3, H₀ := H3, env := compEnv1 scope cl x0 C X.env, outer := X.stack, ex := fp, fn := fun x => x == x0, pn := X.pn ++ pins, xe := fun _ _ => False }
section
variable {X : Cx} {scope : Scope} {cl : List (Str × Addr)} {x0 : Str} {Nc : List Str} {nl : Nat} {fr : List Nat} {pins : List (Addr × Obj)} {σ : St} {H3 : Hp} {s3 : Shared} {fp : List Addr} {h4 : Heap} {tk : Nat}
theorem comp_start1 (ck : CompOk1 X scope cl x0 Nc nl fr) (I : Inv X pins σ H3 s3) (hf : ∀ b ∈ fp, FpOk X pins H3 b) (hfs : ∀ b ∈ fp, b < s3.heap.objs.size)
    (hns : h4.Ns s3.heap.objs.size fun _ => none) (hce : h4.IsCell (s3.heap.objs.size + 1) none) (hk : ∀ b o, s3.heap.get? b = some o → h4.get? b = some o) :
    Inv (compCx1 X scope cl x0 Nc s3.heap.objs.size s3 H3 fp pins) [] (σC nl fr σ) H3 { s3 with heap := h4, toks := tk } := by
  have stk : ∀ b ∈ frs X.stack, b ∈ X.env.locals :: X.fs := I.stkSub
  have nfs : ∀ b, b ≠ X.env.locals → b ∉ X.fs → b ∉ frs X.stack := fun b h1 h2 z => (List.mem_cons.mp (stk b z)).elim h1 h2
  have ltc : ∀ x c, cl.lookup x = some c → c < s3.heap.objs.size := fun x c e => by
    obtain ⟨v, z⟩ := I.cell x c (ck.sub x c e)
    exact z.lt
  have lk : ∀ x c, ((x0, s3.heap.objs.size + 1) :: cl).lookup x = some c → (x = x0 ∧ c = s3.heap.objs.size + 1) ∨ cl.lookup x = some c := fun x c e => by
    rw [List.lookup_cons] at e
    cases q : x == x0 with
    | true => rw [q] at e; cases e; exact .inl ⟨eq_of_beq q, rfl⟩
    | false => rw [q] at e; exact .inr e
  refine ⟨⟨I.ok.mod, ck.kind, I.ok.glob, I.ok.blt, Nat.le_refl _, fun x y c h1 h2 => ?inj, fun x hx => ck.has _ x hx, fun x c hz hl => ?cab, I.ok.hd, I.ok.frames, .inl rfl, fun b hb => ?_, I.bs, Nat.le_trans I.ok.bsz I.sz, fun b o e hb => ?_, fun b hb => ?_, I.stack, I.stkFree⟩,
    rfl, I.bare, Un.kept hk, ⟨_, hns, fun i x v h1 h2 h3 => ?_⟩, fun x c e => ?_, I.hok.fresh (Nat.le_refl _), fun x c e => ?frC, fun p hp => ?_, I.hok.kept hk, ?_⟩
  case inj =>
    rcases lk x c h1 with ⟨e1, e2⟩ | h1 <;> rcases lk y c h2 with ⟨e3, e4⟩ | h2
    · rw [e1, e3]
    · have h := ltc y c h2; rw [e2] at h; exact absurd h (Nat.not_lt.mpr (Nat.le_succ _))
    · have h := ltc x c h1; rw [e4] at h; exact absurd h (Nat.not_lt.mpr (Nat.le_succ _))
    · exact I.ok.inj x y c (ck.sub x c h1) (ck.sub y c h2)
  case cab =>
    rcases lk x c hl with ⟨e1, e2⟩ | h1
    · rw [e2]; exact Nat.le_succ _
    · have hz' : (x == x0) = true := hz
      rw [eq_of_beq hz', ck.nin] at h1; cases h1
  case frC =>
    rcases lk x c e with ⟨e1, e2⟩ | h1
    · rw [e2]; exact I.hok.fresh (Nat.le_succ _)
    · exact I.freeC x c (ck.sub x c h1)
  · obtain ⟨f0, f1, f2, f3, f4, f5⟩ := hf b hb
    refine ⟨Nat.ne_of_lt (hfs b hb), fun x c e => ?_⟩
    rcases lk x c e with ⟨e1, e2⟩ | h1
    · rw [e2]; exact Nat.ne_of_gt (Nat.lt_succ_of_lt (hfs b hb))
    · exact f4 x c (ck.sub x c h1)
  · obtain ⟨f0, f1, f2, f3, f4, f5⟩ := hf b hb
    rcases f3 with z | z
    · exact I.ok.noex b o e z
    · exact absurd (Nat.lt_of_lt_of_le (Heap.lt_size e) (Nat.le_trans I.ok.bsz z)) (Nat.lt_irrefl _)
  · obtain ⟨f0, f1, f2, f3, f4, f5⟩ := hf b hb
    exact nfs b f1 f2
  · -- a name's value
    unfold σC at h2
    by_cases hi : i < nl
    · rw [List.getElem?_append_left (by simpa using hi), List.getElem?_replicate] at h2
      split at h2 <;> cases h2
    · have hi' : nl ≤ i := by omega
      rw [List.getElem?_append_right (by simpa using hi'), List.length_replicate, List.getElem?_map] at h2
      obtain ⟨k, rfl⟩ : ∃ k, i = nl + k := ⟨i - nl, by omega⟩
      obtain ⟨j, e1, e2, e3, e4, e5⟩ := ck.tail k x h1
      rw [Nat.add_sub_cancel_left, e1] at h2
      have h2' : (σ[j]?).join = some v := by simpa using h2
      have h2'' : σ[j]? = some (some v) := by
        cases q : σ[j]? with
        | none => rw [q] at h2'; cases h2'
        | some z => rw [q] at h2'; exact congrArg some h2'
      obtain ⟨m, hn, hl⟩ := I.loc
      obtain ⟨u, r, l⟩ := hl j x v e2 h2'' (.inr (.inl e3))
      refine ⟨u, r, ?_⟩
      rcases l with ⟨k1, _⟩ | ⟨k1, c, ec, z⟩
      · rw [e3] at k1; cases k1
      · obtain ⟨o, ho, hd⟩ := z
        refine .inr ⟨e5, c, ?_, o, hk _ _ ho, hd⟩
        show ((x0, s3.heap.objs.size + 1) :: cl).lookup x = some c
        rw [List.lookup_cons]
        have ec' : cl.lookup x = some c := by rw [e4]; exact ec
        cases q : x == x0 with
        | true => rw [eq_of_beq q, ck.nin] at ec'; cases ec'
        | false => exact ec'
  · rcases lk x c e with ⟨e1, e2⟩ | h1
    · rw [e2]; exact ⟨none, hce⟩
    · obtain ⟨v, o, ho, hd⟩ := I.cell x c (ck.sub x c h1)
      exact ⟨v, o, hk _ _ ho, hd⟩
  · have hp' : p ∈ X.pn ++ pins := by simpa using hp
    obtain ⟨e, n, ne, nf, d⟩ := I.pin p hp'
    exact ⟨hk _ _ e, n, Nat.ne_of_lt (Heap.lt_size e), nfs _ ne nf, d⟩
  · unfold σC
    show _ = Nc.length
    rw [List.length_append, List.length_replicate, List.length_map, ck.len]
theorem comp_end1 {pins' : List (Addr × Obj)} {σ' : St} {H' : Hp} {s' : Shared} (I : Inv X pins σ H3 s3) (hf : ∀ b ∈ fp, FpOk X pins H3 b)
    (J : Inv (compCx1 X scope cl x0 Nc s3.heap.objs.size s3 H3 fp pins) pins' σ' H' s') : Inv X pins σ H' s' ∧ FpOk X pins H' s3.heap.objs.size := by
  refine ⟨I.call' (ch := fp) J.os J.base J.hok J.bare fun b hb => ?_, I.fpOk (Nat.le_refl _) J.free⟩
  obtain ⟨f0, f1, f2, f3, f4, f5⟩ := hf b hb
  exact ⟨f3, f1, f4, f5⟩
end
section
variable {X : Cx} {scope : Scope} {cl : List (Str × Addr)} {x0 : Str} {Nc : List Str} {nl : Nat} {fr : List Nat} {elt tg iter : Expr} {ifs : List Expr} {pos : Pos} {wi : TI} {g : TG} {tt : TT} {te : TE}
theorem comp_run1 (hc : X.calm = true) (ck : CompOk1 X scope cl x0 Nc nl fr) (hi : PI X tg iter wi)
    (hg : ∀ C s3 H3 fp pins, PG (compCx1 X scope cl x0 Nc C s3 H3 fp pins) tg g) (ht : ∀ C s3 H3 fp pins, PIf (compCx1 X scope cl x0 Nc C s3 H3 fp pins) ifs tt) (he : ∀ C s3 H3 fp pins, PE (compCx1 X scope cl x0 Nc C s3 H3 fp pins) elt te)
    {pins : List (Addr × Obj)} {s : Shared} {σ : St} {H : Hp} {Q : VK} (I : Inv X pins σ H s) (h : tComp wi nl fr g tt te σ H Q) {RR : Value → Addr → Result → Shared → Prop}
    (fin : ∀ D C s', (∃ H', (∃ m, s'.heap.Ns C m) ∧ Inv X pins σ H' s' ∧ FpOk X pins H' C ∧ Q (.ref D) H') → RR (.ref D) C (.ok .next) s') :
    wpAny (model X.prog X.w) X.A (eval iter X.env) (fun x s₁ => wpAny (model X.prog X.w) X.A (pyIter x) (fun it s₂ => wpAny (model X.prog X.w) X.A (newList []) (fun acc s₃ =>
      wpAny (model X.prog X.w) X.A (newFunctionEnv scope X.env.globals cl [] X.env.qual none .none (some X.env)) (fun cenv s₄ =>
        codeAny (model X.prog X.w) X.A (.compStart (.ListComp elt [⟨tg, iter, ifs, 0⟩] scope pos) 0 it acc { cenv with scope := relabel scope X.env }) (RR acc cenv.locals) s₄) X.xe s₃) X.xe s₂) X.xe s₁) X.xe s := by
  refine thn (hi pins s σ H _ I h) fun v s1 h1 => thn h1 fun itv s2 h2 => ?_
  obtain ⟨it, fp, tn, J, H2, e, I2, T, st2, f2, hD⟩ := h2
  subst e
  have hn2 : H2 s2.heap.objs.size = none := I2.hok.fresh (Nat.le_refl _)
  obtain ⟨W, ⟨m0, w0⟩, turn⟩ := hD s2.heap.objs.size hn2
  refine wpAny_newObj_type (newEnv_comp ?_)
  dsimp only
  rw [ck.one, ck.psh]
  have I3 : Inv X pins σ (upd H2 s2.heap.objs.size (.lst [])) { s2 with heap := s2.heap.push { cls := .type "list", dict := none, data := .seq ([] : List Value).toArray } } :=
    I2.laid (t' := s2.toks) (fun b u e => Heap.get?_push_of_some _ e) (Nat.le_refl _) ⟨Nat.zero_le _, [], 0, .nil, Heap.get?_push_size _ rfl⟩
  have hfs : ∀ b ∈ fp, b < s2.heap.objs.size := fun b hb => by
    obtain ⟨o, e, _⟩ := T.obj 0 _ st2 b hb
    exact Heap.lt_size e
  have f3 : ∀ b ∈ fp, FpOk X pins (upd H2 s2.heap.objs.size (.lst [])) b := fun b hb => ⟨by rw [upd_ne (Nat.ne_of_lt (hfs b hb))]; exact (f2 b hb).1, (f2 b hb).2⟩
  generalize hH3 : upd H2 s2.heap.objs.size (.lst []) = H3 at *
  generalize hs3 : ({ s2 with heap := s2.heap.push { cls := .type "list", dict := none, data := .seq ([] : List Value).toArray } } : Shared) = s3 at *
  have z3 : s3.heap = s2.heap.push { cls := .type "list", dict := none, data := .seq ([] : List Value).toArray } := by rw [← hs3]
  have hsz3 : s3.heap.objs.size = s2.heap.objs.size + 1 := by rw [z3, Heap.size_push]
  rw [← z3]
  generalize hh4 : (s3.heap.push { cls := .type "dict", data := .dict #[] }).push { cls := .type "cell", data := .cell none } = h4
  have hk4 : ∀ b o, s3.heap.get? b = some o → h4.get? b = some o := fun b o e => by rw [← hh4]; exact Heap.get?_push_of_some _ (Heap.get?_push_of_some _ e)
  have hce4 : h4.IsCell (s3.heap.objs.size + 1) none := by
    rw [← hh4]
    refine ⟨{ cls := .type "cell", data := .cell none }, ?_, rfl⟩
    have := Heap.get?_push_size (s3.heap.push { cls := .type "dict", data := .dict #[] }) (o := { cls := .type "cell", data := .cell none }) rfl
    rw [Heap.size_push] at this
    exact this
  have hfs3 : ∀ b ∈ fp, b < s3.heap.objs.size := fun b hb => Nat.lt_of_lt_of_le (hfs b hb) (by rw [hsz3]; exact Nat.le_succ _)
  have hns' : h4.Ns s3.heap.objs.size fun _ => none := by
    rw [← hh4]
    exact (Heap.Ns.new s3.heap (.type "dict")).keeps fun b o e => Heap.get?_push_of_some _ e
  have K0 := fun tk => comp_start1 (tk := tk) ck I3 f3 hfs3 hns' hce4 hk4
  have stat : ∀ {H' : Hp}, (∀ b ∈ fp, H' b = none) → ∀ b ∈ fp, FpOk (compCx1 X scope cl x0 Nc s3.heap.objs.size s3 H3 fp pins) [] H' b := fun {H'} hn b hb => by
    obtain ⟨f0, g1, g2, g3, g4, g5⟩ := f3 b hb
    refine ⟨hn b hb, Nat.ne_of_lt (hfs3 b hb), fun z => ?_, .inl hb, fun x c e => ?cl, fun p hp => g5 p (by simpa using hp)⟩
    case cl =>
      have e' : ((x0, s3.heap.objs.size + 1) :: cl).lookup x = some c := e
      rw [List.lookup_cons] at e'
      cases q : x == x0 with
      | true => rw [q] at e'; cases e'; exact Nat.ne_of_gt (Nat.lt_succ_of_lt (hfs3 b hb))
      | false => rw [q] at e'; exact g4 x c (ck.sub x c e')
    exact (List.mem_cons.mp (I3.stkSub b z)).elim g1 g2
  have st4 : tn 0 h4 := T.keep 0 _ _ st2 fun b hb o e => hk4 b o (by rw [z3]; exact Heap.get?_push_of_some _ e)
  have loop : ∀ tk, codeAny (model X.prog X.w) X.A (.compLoop (.ListComp elt [⟨tg, iter, ifs, 0⟩] scope pos) 0 (.ref it) (.ref s2.heap.objs.size) (compEnv1 scope cl x0 s3.heap.objs.size X.env)) (RR (.ref s2.heap.objs.size) s3.heap.objs.size) { s3 with heap := h4, toks := tk } := by
    intro tk
    refine comp_loop (fun n s' => ∃ i ys H', Inv (compCx1 X scope cl x0 Nc s3.heap.objs.size s3 H3 fp pins) [] (σC nl fr σ) H' s' ∧ tn i s'.heap ∧ (∀ b ∈ fp, H' b = none) ∧ W i n ys H') ?_ m0 ⟨0, [], H3, K0 tk, st4, fun b hb => (f3 b hb).1, w0⟩
    rintro n s5 ⟨i, ys, H5, I5, st5, fr5, w5⟩
    obtain ⟨hl5, q5⟩ := turn i n ys H5 w5
    rcases q5 with ⟨stop, qn⟩ | ⟨go, step⟩
    · refine wpAny_mono (T.done (compCx1 X scope cl x0 Nc s3.heap.objs.size s3 H3 fp pins) rfl rfl rfl hc i [] s5 (σC nl fr σ) H5 (fun _ _ => False) I5 (stat fr5) st5 stop) (fun r s6 h6 => ?_) fun _ _ z => z
      obtain ⟨hr, I6⟩ := h6
      subst hr
      obtain ⟨z1, z2⟩ := comp_end1 I3 f3 I6
      refine fin _ _ _ ⟨H5, ?_, z1, z2, qn⟩
      obtain ⟨m, hm, _⟩ := I6.loc
      exact ⟨m, hm⟩
    · refine wpAny_mono (T.item (compCx1 X scope cl x0 Nc s3.heap.objs.size s3 H3 fp pins) rfl rfl rfl hc i [] s5 (σC nl fr σ) H5 (fun _ _ => False) I5 (stat fr5) st5 go) (fun r s6 h6 => ?_) fun _ _ z => z
      obtain ⟨u, hr, h6⟩ := h6
      subst hr
      refine wpAny_mono h6 (fun _ s7 h7 => ?_) fun _ _ z => z
      obtain ⟨x, H7, I7, r7, y7, st7, fr7⟩ := h7
      have I7' := I7.pinned (stat fr7) (T.obj _ _ st7)
      refine wpAny_mono (hg s3.heap.objs.size s3 H3 fp pins _ s7 _ H7 x u _ I7' r7 (step x H7 y7)) (fun _ s8 h8 => ?_) fun _ _ z => z
      obtain ⟨σ8, H8, I8, l8, k8, q8⟩ := h8
      refine wpAny_mono (ht s3.heap.objs.size s3 H3 fp pins _ s8 σ8 H8 _ I8 q8) (fun b s9 h9 => ?_) fun _ _ z => z
      obtain ⟨H9, I9, q9⟩ := h9
      have again : ∀ {ys' : List V} {H' : Hp} {s' : Shared} {m' : Nat}, Inv (compCx1 X scope cl x0 Nc s3.heap.objs.size s3 H3 fp pins) ([] ++ pinsAt fp s7.heap) σ8 H' s' → m' < n → W (i + 1) m' ys' H' →
          ∃ m, m < n ∧ ∃ i ys H', Inv (compCx1 X scope cl x0 Nc s3.heap.objs.size s3 H3 fp pins) [] (σC nl fr σ) H' s' ∧ tn i s'.heap ∧ (∀ b ∈ fp, H' b = none) ∧ W i m ys H' := fun {ys' H' s' m'} I' hm w' => by
        refine ⟨m', hm, i + 1, ys', H', I'.unpinned.weak l8.symm k8, T.keep _ _ _ st7 fun b hb o e => (I'.pin (b, o) (List.mem_append_right _ (List.mem_append_right _ (mem_pinsAt hb e)))).1, fun b hb => ?_, w'⟩
        obtain ⟨o, e, d⟩ := T.obj _ _ st7 b hb
        exact (I'.pin (b, o) (List.mem_append_right _ (List.mem_append_right _ (mem_pinsAt hb e)))).2.1
      cases b with
      | false =>
        rw [if_neg Bool.false_ne_true] at q9 ⊢
        obtain ⟨m', hm, w9⟩ := q9
        exact again I9 hm w9
      | true =>
        rw [if_pos rfl] at q9 ⊢
        refine wpAny_mono (he s3.heap.objs.size s3 H3 fp pins _ s9 σ8 H9 _ I9 q9) (fun yv s10 h10 => ?_) fun _ _ z => z
        obtain ⟨y, H10, I10, r10, hl10, hz10, m', hm, w10⟩ := h10
        refine wpAny_mono (mt_append (X := compCx1 X scope cl x0 Nc s3.heap.objs.size s3 H3 fp pins) _ s10 σ8 H10 (.ref s2.heap.objs.size) [y] _ [yv] (fun v H' => H' = upd H10 s2.heap.objs.size (.lst (ys ++ [y]))) I10 rfl (.cons r10 .nil) ⟨_, ys, y, rfl, rfl, hl10, hz10, rfl⟩) (fun _ s11 h11 => ?_) fun _ _ z => z
        obtain ⟨_, H11, I11, _, e11⟩ := h11
        subst e11
        exact again I11 hm w10
  have L := loop s2.toks
  rw [show s3.gens = s2.gens by rw [← hs3], show s3.drawn = s2.drawn by rw [← hs3], show s3.os = s2.os by rw [← hs3]] at L
  exact codeAny_compStart_list L (T.self _ 0 _ _ _ st4 L)
theorem pe_comp1 (hc : X.calm = true) (ck : CompOk1 X scope cl x0 Nc nl fr) (hi : PI X tg iter wi)
    (hg : ∀ C s3 H3 fp pins, PG (compCx1 X scope cl x0 Nc C s3 H3 fp pins) tg g) (ht : ∀ C s3 H3 fp pins, PIf (compCx1 X scope cl x0 Nc C s3 H3 fp pins) ifs tt) (he : ∀ C s3 H3 fp pins, PE (compCx1 X scope cl x0 Nc C s3 H3 fp pins) elt te)
    (hs : ∀ x, foldedSetIterable iter X.env x = pure x := by intro _; rfl) : PE X (.ListComp elt [⟨tg, iter, ifs, 0⟩] scope pos) (tComp wi nl fr g tt te) := by
  intro pins s σ H Q I h
  rw [eval_ListComp]
  refine wpAny_comprehension_free (use := none) rfl hs ck.clos ck.kind ck.names (comp_run1 (RR := fun acc C => compPost (model X.prog X.w) X.A X.xe none (EP X pins σ Q) acc C) hc ck hi hg ht he I h fun D C s' hh => ?_)
  obtain ⟨H', ⟨m, hm⟩, hI, hF, q⟩ := hh
  exact ⟨m, hm, fun h' hs' => ⟨.ref D, H', hI.off hF hs', rfl, q⟩⟩
end
end L2

set_option Elab.async false
set_option linter.all false
set_option maxRecDepth 100000
set_option maxHeartbeats 2000000
namespace L2
open PySem PySem.Spec PyProof.Rows
section
variable {X : Cx}
end
end L2
namespace L2
open PySem PySem.Spec PyProof.Rows
end L2
namespace L2
open PySem PySem.Spec PyProof.Rows
end L2
namespace L2
open PySem PySem.Spec PyProof.Rows
end L2

set_option Elab.async false
set_option linter.all false
set_option maxRecDepth 100000
set_option maxHeartbeats 2000000
namespace L2
open PySem PySem.Spec PyProof.Rows
def Ite (K : PySem.W.Frag) (a : Addr) : It :=
  ⟨fun i H => ∃ xs x, SqL K H a xs ∧ xs[i]? = some x,
   fun i H v H' => ∃ T x, v = .ref T ∧ H T = none ∧ H' = upd H T (.tup [.int (i : Int), x]) ∧ ∀ xs, SqL K H a xs → xs[i]? = some x,
   fun i H => ∃ xs, SqL K H a xs ∧ xs.length ≤ i⟩
def EnumTn (e it l : Addr) (i : Nat) (h : Heap) : Prop := e ≠ it ∧ (∃ old, IsEnum h e it (i : Int) old) ∧ h.IsListIter it l i
theorem turn_enum {P : Program} {w : World} {K : PySem.W.Frag} {elts : List Expr} {kk : Nat} {tpos : Pos} (e it l : Addr) :
    Turn P w K (.Tuple elts kk tpos) (Ite K l) [e, it] e (EnumTn e it l) where
  mem := by simp
  obj := fun i h st b hb => by
    obtain ⟨ne, ⟨old, he⟩, ⟨o1, e1, c1, d1⟩⟩ := st
    simp only [List.mem_cons, List.not_mem_nil, or_false] at hb
    rcases hb with rfl | rfl
    · exact ⟨_, he, fun v q => by cases q⟩
    · exact ⟨o1, e1, fun v q => by rw [d1] at q; cases q⟩
  keep := fun i h h' st k => by
    obtain ⟨ne, ⟨old, he⟩, ⟨o1, e1, c1, d1⟩⟩ := st
    exact ⟨ne, ⟨old, k _ (by simp) _ he⟩, ⟨o1, k _ (by simp) _ e1, c1, d1⟩⟩
  item := by
    intro X hP hw hK hc i pins s σ H E I hf st hg
    subst hP hw hK
    obtain ⟨ne, ⟨old, he⟩, t1⟩ := st
    obtain ⟨xs, x, hx, ex⟩ := hg
    obtain ⟨its1, rv1, p1, z1⟩ := I.list hx
    obtain ⟨u1, hu1, ru1⟩ := rv1.get ex
    refine wpAny_pyNext_enum_item he t1 p1.isList (x := u1) (by simpa using hu1) ne fun h' g1 g2 g3 g4 kk' => ?_
    have hn : H s.heap.objs.size = none := I.hok.fresh (Nat.le_refl _)
    have lt : ∀ b ∈ [e, it], b < s.heap.objs.size := fun b hb => by
      simp only [List.mem_cons, List.not_mem_nil, or_false] at hb
      obtain ⟨o1, e1, _⟩ := t1
      rcases hb with rfl | rfl
      · exact Heap.lt_size he
      · exact Heap.lt_size e1
    have I1 : Inv X pins σ (upd H s.heap.objs.size (.tup [.int (i : Int), x])) { s with heap := s.heap.push { cls := .type "tuple", data := .seq #[.int i s.toks, u1] }, toks := s.toks + 1 } :=
      I.laid (t' := s.toks + 1) (fun b o e => Heap.get?_push_of_some _ e) (Nat.le_refl _) (show ObjOk X.prog X.w _ _ _ (.tup [.int (i : Int), x]) from ⟨by show 2 ≤ sizeLine; decide, [.int i s.toks, u1], .cons ⟨_, rfl⟩ (.cons ru1 .nil), IsTup.new _ _⟩)
    have hf1 : ∀ b ∈ [e, it], FpOk X pins (upd H s.heap.objs.size (.tup [.int (i : Int), x])) b := fun b hb => ⟨by rw [upd_ne (Nat.ne_of_lt (lt b hb))]; exact (hf b hb).1, (hf b hb).2⟩
    have k1 : ∀ b o, b ∉ [e, it] → (s.heap.push { cls := .type "tuple", data := .seq #[.int i s.toks, u1] }).get? b = some o → h'.get? b = some o := fun b o nb e => by
      simp only [List.mem_cons, List.not_mem_nil, or_false, not_or] at nb
      by_cases hb : b = s.heap.objs.size
      · subst hb
        rw [Heap.get?_push_size _ rfl] at e
        cases e
        exact g3
      · have e0 : s.heap.get? b = some o := by rw [Heap.get?_push_ne _ _ _ hb] at e; exact e
        exact kk' b o nb.1 nb.2 e0
    have I2 : Inv X pins σ (upd H s.heap.objs.size (.tup [.int (i : Int), x])) { s with heap := h', toks := s.toks + 1 } := Inv.turnedL (s := { s with heap := s.heap.push { cls := .type "tuple", data := .seq #[.int i s.toks, u1] }, toks := s.toks + 1 }) (t' := s.toks + 1) I1 k1 hf1
    refine ⟨_, rfl, wpAny_letOwnedTupleGo_enum (s := { s with heap := h', toks := s.toks + 1 }) g1 fun h2 q1 q2 => ?_⟩
    have kz : ∀ b o, b ≠ e → h'.get? b = some o → h2.get? b = some o := fun b o nb e => (q2.2 b nb).trans e
    have I3 : Inv X pins σ (upd H s.heap.objs.size (.tup [.int (i : Int), x])) { s with heap := h2, toks := s.toks + 1 } := Inv.turnedL (s := { s with heap := h', toks := s.toks + 1 }) (t' := s.toks + 1) (fp := [e]) I2 (fun b o nb e => kz b o (by simpa using nb) e) fun b hb => hf1 b (by simp at hb; simp [hb])
    obtain ⟨o3, e3, c3, d3⟩ := g2
    refine ⟨.ref s.heap.objs.size, _, I3, rfl, ⟨_, x, rfl, hn, rfl, fun xs' h1 => ?_⟩, ⟨ne, ⟨_, q1⟩, ⟨o3, kz _ _ ne.symm e3, c3, d3⟩⟩, fun b hb => (hf1 b hb).1⟩
    rw [I.list_inj h1 hx]
    exact ex
  done := by
    intro X hP hw hK hc i pins s σ H E I hf st hg
    subst hP hw hK
    obtain ⟨ne, ⟨old, he⟩, t1⟩ := st
    obtain ⟨xs, hx, hor⟩ := hg
    obtain ⟨its1, rv1, p1, z1⟩ := I.list hx
    have l1' := rv1.length
    refine wpAny_pyNext_enum_end (I.ok.hd hc) he t1 p1.isList (by simp; omega) fun h' kk' => ⟨rfl, ?_⟩
    refine I.turnedL (t' := s.toks) (fun b o nb e => ?_) hf
    simp only [List.mem_cons, List.not_mem_nil, or_false, not_or] at nb
    exact kk' b o nb.2 e
  self := fun A i s Q E st h => by
    obtain ⟨ne, ⟨old, he⟩, t1⟩ := st
    exact wpAny_pyIter_enum he h
section
variable {X : Cx}
def iEnum (K : PySem.W.Frag) (ta : TA) : TI := fun σ H R => ta σ H fun vs H1 => ∃ a, vs = [.ref a] ∧ (∃ xs, SqL K H1 a xs) ∧ R (Ite K a) H1
theorem pi_enum {e1 : Expr} {ta : TA} {p pos : Pos} {elts : List Expr} {kk : Nat} {tpos : Pos} (hg : Gl X "enumerate") (hm : X.mg "enumerate" = none) (hv : bootBuiltins "enumerate" = some (.type "enumerate")) (ha : PA X [e1] ta)
    (hs : starEach [e1] X.env = (false, eval e1 X.env) :: starEach [] X.env := by rfl) (hpl : (backTo pos (starEach [] X.env)).any (·.1) = false := by rfl) : PI X (.Tuple elts kk tpos) (.Call (.Name "enumerate" p) [e1] [] pos) (iEnum X.K ta) := by
  intro pins s σ H R I h
  refine Call_ (ld_blt I hg hm hv (PyProof.Rows.callWith_type1 (thn (ha pos pins s σ H _ I h) fun us s1 ⟨vs, H1, I1, r1, q1⟩ => ?_) hs hpl))
  obtain ⟨a, rfl, ⟨xs, hx⟩, q⟩ := q1
  obtain ⟨u, rfl, ra⟩ := vals1 r1
  cases (show u = Value.ref a from ra)
  obtain ⟨its1, rv1, p1, z1⟩ := I1.list hx
  have la : a < s1.heap.objs.size := by obtain ⟨o, e, _⟩ := p1.isList; exact Heap.lt_size e
  refine call_enumerate_list p1.isList fun h' g1 g2 g3 kk' => ?_
  refine wpAny_pyIter_enum g1 ?_
  refine ⟨s1.heap.objs.size + 1, [s1.heap.objs.size + 1, s1.heap.objs.size], _, Ite X.K a, H1, rfl, I1.kept (t' := s1.toks) kk', turn_enum _ _ a, ⟨?_, ⟨_, g1⟩, g2⟩, fun c hc => ?_, q⟩
  · exact Nat.succ_ne_self _
  · have hle : s1.heap.objs.size ≤ c := by
      simp only [List.mem_cons, List.not_mem_nil, or_false] at hc
      rcases hc with rfl | rfl <;> first | exact Nat.le_add_right _ _ | exact Nat.le_refl _
    exact I1.fpOk hle (I1.hok.fresh hle)
theorem comp_enum {K : PySem.W.Frag} {a : Addr} {xs : List V} {nl : Nat} {fr : List Nat} {g : TG} {tt : TT} {te : TE} {σ : St} {D : Addr} {H1 : Hp} {Q : VK} (Pv : Nat → List V → Hp → Prop) (h0 : Pv 0 [] (upd H1 D (.lst []))) (hl : ∀ i zs H, Pv i zs H → H D = some (.lst zs)) (hx : ∀ i zs H, i ≤ xs.length → Pv i zs H → SqL K H a xs)
    (hs : ∀ i zs x H T, xs[i]? = some x → Pv i zs H → H T = none → ∀ (C : Nat → List V → Hp → Prop), (∀ zs H, Pv (i + 1) zs H → C (i + 1) zs H) → CompT nl fr g tt te σ D C i zs (.ref T) (upd H T (.tup [.int (i : Int), x]))) (hd : ∀ zs H, Pv xs.length zs H → Q (.ref D) H) :
    CompW (Ite K a) nl fr g tt te σ D H1 Q := by
  refine ⟨fun i m zs H => m = xs.length - i ∧ i ≤ xs.length ∧ Pv i zs H, ⟨_, rfl, Nat.zero_le _, h0⟩, ?_⟩
  rintro i m zs H ⟨rfl, hi, p⟩
  refine ⟨hl i zs H p, ?_⟩
  have qx := hx i zs H hi p
  by_cases hlt : i < xs.length
  · refine .inr ⟨⟨xs, xs[i], qx, by simp [hlt]⟩, fun v H' z => ?_⟩
    obtain ⟨T, x, rfl, hT, rfl, hh⟩ := z
    exact hs i zs x H T (hh xs qx) p hT (fun j zs Hz => ∃ m', m' < xs.length - i ∧ m' = xs.length - j ∧ j ≤ xs.length ∧ Pv j zs Hz) fun zs Hz z => ⟨xs.length - (i + 1), by omega, rfl, hlt, z⟩
  · have e : i = xs.length := by omega
    subst e
    exact .inl ⟨⟨xs, qx, Nat.le_refl _⟩, hd zs H p⟩
end
end L2

set_option Elab.async false
set_option linter.all false
namespace L2
open PySem PySem.Spec PyProof.Rows
end L2

set_option Elab.async false
set_option linter.all false
set_option maxRecDepth 100000
set_option maxHeartbeats 4000000
namespace Shp
open PySem L2
theorem ix_listK {X : Cx} {K : PySem.W.Frag} (h : X.K = K) : IxR X (rIxL K) := by subst h; exact ix_list
theorem ix_tupK {X : Cx} {K : PySem.W.Frag} (h : X.K = K) : IxR X (rIxT K) := by subst h; exact ix_tup
theorem sub_nil {ec : List (Str × Addr)} : ∀ (x : Str) (c : Addr), ([] : List (Str × Addr)).lookup x = some c → ec.lookup x = some c := fun _ _ h => by cases h
theorem sub_cons {ec cl : List (Str × Addr)} {a : Str} {d : Addr} (h : ec.lookup a = some d) (r : ∀ x c, cl.lookup x = some c → ec.lookup x = some c) : ∀ x c, ((a, d) :: cl).lookup x = some c → ec.lookup x = some c := fun x c e => by
  rw [List.lookup_cons] at e
  cases q : x == a with
  | true => rw [q] at e; rw [eq_of_beq q, h]; exact e
  | false => rw [q] at e; exact r x c e
def spLowP : Sp := fun vs H Q _ => ∃ (t b : Int) (n : Nat), vs = [.int t, .int b] ∧ 0 < b ∧ Mq.B n b ∧ n ≤ 9000 ∧ NewF H Q (Mq.red t b)
theorem dvr_pos {t b : Int} (h : 0 < b) : Mq.dvr t b = Mq.gc t b := by unfold Mq.dvr; rw [if_neg (by omega)]
end Shp

set_option Elab.async false
set_option linter.all false
set_option maxRecDepth 100000
set_option maxHeartbeats 4000000
namespace Shp
open PySem L2
def wh (row : List Mq.Q2) : List Int × Int := (Mq.iw row, Mq.lcmB row)
end Shp

set_option linter.all false
namespace Mq
abbrev Mat := Nat → Nat → Rat
theorem rs_shift (n : Nat) (F : Nat → Rat) : rs (n + 1) F = F 0 + rs n fun i => F (i + 1) := by
  induction n with
  | zero => simp only [rs]; grind
  | succ n ih => rw [show rs (n + 1 + 1) F = rs (n + 1) F + F (n + 1) from rfl, ih]; simp only [rs]; grind
end Mq

set_option linter.all false
namespace Mq
section
variable {m : Nat} {A E : Mat} {r col : Nat} {d : Rat} {c : Nat → Nat}
end
end Mq

set_option linter.all false
namespace Mq
def ent (R : List (List Int)) (i x : Nat) : Int := (R.getD i []).getD x 0
def clrRow (upper row : List Int) (col : Nat) (dv : Int) : List Int := List.zipWith (fun here above => Int.fdiv (upper.getD col 0 * here - row.getD col 0 * above) dv) row upper
def clrRows (R : List (List Int)) (r col : Nat) (dv : Int) : List (List Int) := R.mapIdx fun i row => if i = r then row else clrRow (R.getD r []) row col dv
theorem clr_len (R : List (List Int)) (r col : Nat) (dv : Int) : (clrRows R r col dv).length = R.length := by unfold clrRows; simp
theorem clr_get {R : List (List Int)} {i : Nat} (hi : i < R.length) (r col : Nat) (dv : Int) : (clrRows R r col dv).getD i [] = if i = r then R.getD i [] else clrRow (R.getD r []) (R.getD i []) col dv := by
  unfold clrRows
  rw [List.getD_eq_getElem?_getD, List.getElem?_mapIdx, List.getElem?_eq_getElem hi]
  have : R.getD i [] = R[i] := by rw [List.getD_eq_getElem?_getD, List.getElem?_eq_getElem hi]; rfl
  rw [this]
  rfl
theorem get_some {l : List Int} {x : Nat} (h : x < l.length) : l[x]? = some (l.getD x 0) := by rw [List.getD_eq_getElem?_getD, List.getElem?_eq_getElem h]; rfl
theorem get_none {l : List Int} {x : Nat} (h : l.length ≤ x) : l.getD x 0 = 0 := by rw [List.getD_eq_getElem?_getD, List.getElem?_eq_none h]; rfl
def BdR (n : Nat) (R : List (List Int)) : Prop := ∀ i x, B n (ent R i x)
end Mq

set_option Elab.async false
set_option linter.all false
set_option maxRecDepth 100000
set_option maxHeartbeats 4000000
namespace Shp
open PySem L2
inductive Imx (D : Addr) (H : Hp) : List V → List (List Int) → Prop where
  | nil : Imx D H [] []
  | cons {u : Addr} {r : List Int} {us : List V} {R : List (List Int)} (ne : u ≠ D) (h : H u = some (.lst (r.map V.int))) (q : Imx D H us R) : Imx D H (.ref u :: us) (r :: R)
theorem Imx.same {D : Addr} {H H' : Hp} (e : Same H H') : ∀ {xs : List V} {R : List (List Int)}, Imx D H xs R → Imx D H' xs R
  | _, _, .nil => .nil
  | _, _, .cons n h q => .cons n (e _ _ h) (q.same e)
theorem Imx.upd {D : Addr} {H : Hp} {o : HO} : ∀ {xs : List V} {R : List (List Int)}, Imx D H xs R → Imx D (L2.upd H D o) xs R
  | _, _, .nil => .nil
  | _, _, .cons n h q => .cons n (by rw [upd_ne n]; exact h) q.upd
theorem Imx.length {D : Addr} {H : Hp} : ∀ {xs : List V} {R : List (List Int)}, Imx D H xs R → xs.length = R.length
  | _, _, .nil => rfl
  | _, _, .cons _ _ q => by rw [List.length_cons, List.length_cons, q.length]
theorem Imx.get {D : Addr} {H : Hp} : ∀ {xs : List V} {R : List (List Int)} {i : Nat} {x : V}, Imx D H xs R → xs[i]? = some x → ∃ u r, x = .ref u ∧ R[i]? = some r ∧ u ≠ D ∧ H u = some (.lst (r.map V.int))
  | _, _, 0, _, .cons n h q, e => by simp at e; exact ⟨_, _, e.symm, rfl, n, h⟩
  | _, _, i + 1, _, .cons n h q, e => by simp at e; exact q.get e
theorem Imx.at {D : Addr} {H : Hp} {xs : List V} {R : List (List Int)} (h : Imx D H xs R) {i : Nat} (hi : i < R.length) : ∃ u, xs[i]? = some (.ref u) ∧ u ≠ D ∧ H u = some (.lst ((R.getD i []).map V.int)) := by
  have hx : i < xs.length := by rw [h.length]; exact hi
  obtain ⟨u, r, e1, e2, e3, e4⟩ := h.get (List.getElem?_eq_getElem hx)
  refine ⟨u, by rw [List.getElem?_eq_getElem hx, e1], e3, ?_⟩
  rw [List.getD_eq_getElem?_getD, e2]; exact e4
theorem Imx.app {D : Addr} {H : Hp} : ∀ {xs ys : List V} {R S : List (List Int)}, Imx D H xs R → Imx D H ys S → Imx D H (xs ++ ys) (R ++ S)
  | _, _, _, _, .nil, k => k
  | _, _, _, _, .cons n h q, k => .cons n h (q.app k)
theorem Imx.other {D D' : Addr} {H : Hp} (hD : H D' = none) : ∀ {xs : List V} {R : List (List Int)}, Imx D H xs R → Imx D' H xs R
  | _, _, .nil => .nil
  | _, _, .cons n h q => .cons (fun z => by rw [z, hD] at h; cases h) h (q.other hD)
inductive Wmx (K : PySem.W.Frag) (D : Addr) (H : Hp) : List V → List (List Int × Int) → Prop where
  | nil : Wmx K D H [] []
  | cons {t l : Addr} {r : List Int × Int} {us : List V} {rs : List (List Int × Int)} (ne : l ≠ D) (h : SqT K H t [.ref l, .int r.2]) (f : H l = some (.lst (r.1.map V.int))) (q : Wmx K D H us rs) : Wmx K D H (.ref t :: us) (r :: rs)
theorem Wmx.same {K : PySem.W.Frag} {D : Addr} {H H' : Hp} (e : Same H H') : ∀ {xs : List V} {rs : List (List Int × Int)}, Wmx K D H xs rs → Wmx K D H' xs rs
  | _, _, .nil => .nil
  | _, _, .cons n h f q => .cons n (e.seqT h) (e _ _ f) (q.same e)
theorem Wmx.upd {K : PySem.W.Frag} {D : Addr} {H : Hp} {ys : List V} {o : HO} (hl : H D = some (.lst ys)) : ∀ {xs : List V} {rs : List (List Int × Int)}, Wmx K D H xs rs → Wmx K D (L2.upd H D o) xs rs
  | _, _, .nil => .nil
  | _, _, .cons n h f q => .cons n (h.upd hl) (by rw [upd_ne n]; exact f) (q.upd hl)
theorem Wmx.length {K : PySem.W.Frag} {D : Addr} {H : Hp} : ∀ {xs : List V} {rs : List (List Int × Int)}, Wmx K D H xs rs → xs.length = rs.length
  | _, _, .nil => rfl
  | _, _, .cons _ _ _ q => by rw [List.length_cons, List.length_cons, q.length]
theorem Wmx.get {K : PySem.W.Frag} {D : Addr} {H : Hp} : ∀ {xs : List V} {rs : List (List Int × Int)} {i : Nat} {x : V}, Wmx K D H xs rs → xs[i]? = some x → ∃ t l r, x = .ref t ∧ rs[i]? = some r ∧ SqT K H t [.ref l, .int r.2] ∧ H l = some (.lst (r.1.map V.int))
  | _, _, 0, _, .cons n h f q, e => by simp at e; exact ⟨_, _, _, e.symm, rfl, h, f⟩
  | _, _, i + 1, _, .cons n h f q, e => by simp at e; exact q.get e
theorem Wmx.app {K : PySem.W.Frag} {D : Addr} {H : Hp} : ∀ {xs ys : List V} {rs ss : List (List Int × Int)}, Wmx K D H xs rs → Wmx K D H ys ss → Wmx K D H (xs ++ ys) (rs ++ ss)
  | _, _, _, _, .nil, k => k
  | _, _, _, _, .cons n h f q, k => .cons n h f (q.app k)
theorem map_get {l : List Int} {i : Nat} (h : i < l.length) : (l.map V.int)[i]? = some (.int (l.getD i 0)) := by
  rw [List.getElem?_map, Mq.get_some h]; rfl
def spIWd (K : PySem.W.Frag) : Sp := fun vs H Q _ => ∃ (a : Addr) (xs : List V) (ps : List Mq.Q2) (n : Nat), vs = [.ref a] ∧ SqL K H a xs ∧ Fqs K H xs ps ∧ Mq.Pos ps ∧ (∀ p ∈ ps, Mq.Bd n p) ∧ ps.length ≤ 100 ∧ 10 + n + n * ps.length ≤ 8000 ∧
  ∀ t l H', Same H H' → H l = none → SqT K H' t [.ref l, .int (Mq.lcmB ps)] → H' l = some (.lst ((Mq.iw ps).map V.int)) → Q (.ref t) H'
def spCleared (K : PySem.W.Frag) : Sp := fun vs H Q _ => ∃ (u v : Addr) (row upper : List Int) (c n : Nat) (dv : Int), vs = [.ref u, .ref v, .int (c : Int), .int dv] ∧ SqL K H u (row.map V.int) ∧ SqL K H v (upper.map V.int) ∧ row.length = upper.length ∧ row.length ≤ 100 ∧ c < row.length ∧ dv ≠ 0 ∧
  (∀ i, Mq.B n (row.getD i 0)) ∧ (∀ i, Mq.B n (upper.getD i 0)) ∧ Mq.B n dv ∧ n ≤ 9000 ∧
  ∀ l H', Same H H' → H l = none → H' l = some (.lst ((Mq.clrRow upper row c dv).map V.int)) → Q (.ref l) H'
def spClrRows (K : PySem.W.Frag) : Sp := fun vs H Q _ => ∃ (l D : Addr) (zs : List V) (R : List (List Int)) (r c m w n : Nat) (dv : Int), vs = [.ref l, .int (r : Int), .int (c : Int), .int dv] ∧ SqL K H l zs ∧ Imx D H zs R ∧ R.length = m ∧ (∀ i, i < m → (R.getD i []).length = w) ∧ c < w ∧ w ≤ 100 ∧ r < m ∧ m ≤ 100 ∧ dv ≠ 0 ∧ Mq.BdR n R ∧ Mq.B n dv ∧ n ≤ 9000 ∧
  ∀ l' zs' H', Same H H' → H l' = none → H' l' = some (.lst zs') → Imx l' H' zs' (Mq.clrRows R r c dv) → Q (.ref l') H'
def elimD (l : Addr) (rank : Nat) (pivot sign : Int) : HO := .dK (mergeK [] [(.inr "rows", .ref l), (.inr "rank", .int (rank : Int)), (.inr "pivot", .int pivot), (.inr "sign", .int sign)])
theorem elim_get {H : Hp} {d l : Addr} {rank : Nat} {pivot sign : Int} (h : H d = some (elimD l rank pivot sign)) : DGet H d (.str "rows") (some (.ref l)) ∧ DGet H d (.str "rank") (some (.int (rank : Int))) ∧ DGet H d (.str "pivot") (some (.int pivot)) ∧ DGet H d (.str "sign") (some (.int sign)) := by
  refine ⟨?_, ?_, ?_, ?_⟩
  · exact DGet.k (k := (Sum.inr "rows" : Key)) h
  · exact DGet.k (k := (Sum.inr "rank" : Key)) h
  · exact DGet.k (k := (Sum.inr "pivot" : Key)) h
  · exact DGet.k (k := (Sum.inr "sign" : Key)) h
theorem iw_get {row : List Mq.Q2} (hp : Mq.Pos row) {j : Nat} (hj : j < row.length) : (((Mq.iw row).getD j 0 : Int) : Rat) = ((Mq.lcmB row : Int) : Rat) * Mq.val (row.getD j Mq.z0) := by
  have ej : row[j]? = some (row.getD j Mq.z0) := by rw [List.getD_eq_getElem?_getD, List.getElem?_eq_getElem hj]; rfl
  have mem : row.getD j Mq.z0 ∈ row := List.mem_of_getElem? ej
  obtain ⟨k, hk⟩ := Mq.lcmB_dvd hp _ mem
  have e2 : (Mq.iw row).getD j 0 = Mq.iwOf (Mq.lcmB row) (row.getD j Mq.z0) := by
    unfold Mq.iw
    rw [List.getD_eq_getElem?_getD, List.getElem?_map, ej]; rfl
  rw [e2, Mq.iw_val (hp _ mem) hk]; grind
theorem map_iw {X : List (List Mq.Q2)} {i : Nat} (h : i < X.length) : (X.map Mq.iw).getD i [] = Mq.iw (X.getD i []) := by
  rw [List.getD_eq_getElem?_getD, List.getElem?_map, List.getD_eq_getElem?_getD, List.getElem?_eq_getElem h]; rfl
theorem iw_len (row : List Mq.Q2) : (Mq.iw row).length = row.length := by unfold Mq.iw; simp
theorem lcm_bd {row : List Mq.Q2} {n : Nat} (hp : Mq.Pos row) (hb : ∀ p ∈ row, Mq.Bd n p) : Mq.B (1 + n * row.length) (Mq.lcmB row) := by
  obtain ⟨_, h2, _⟩ := Mq.lcmB_facts hp hb row.length (Nat.le_refl _)
  rwa [List.take_length] at h2
theorem iw_bd {row : List Mq.Q2} {n : Nat} (hp : Mq.Pos row) (hb : ∀ p ∈ row, Mq.Bd n p) (j : Nat) : Mq.B (n + (1 + n * row.length)) ((Mq.iw row).getD j 0) := by
  by_cases hj : j < row.length
  · have ej : row[j]? = some (row.getD j Mq.z0) := by rw [List.getD_eq_getElem?_getD, List.getElem?_eq_getElem hj]; rfl
    have mem : row.getD j Mq.z0 ∈ row := List.mem_of_getElem? ej
    obtain ⟨k, hk⟩ := Mq.lcmB_dvd hp _ mem
    have p1 := hp _ mem
    have e2 : (Mq.iw row).getD j 0 = Mq.iwOf (Mq.lcmB row) (row.getD j Mq.z0) := by
      unfold Mq.iw
      rw [List.getD_eq_getElem?_getD, List.getElem?_map, ej]; rfl
    have e := Mq.fdiv_exact (show (row.getD j Mq.z0).2 ≠ 0 by omega) (show Mq.lcmB row = (row.getD j Mq.z0).2 * k by rw [hk, Int.mul_comm])
    rw [e2]
    unfold Mq.iwOf
    rw [e]
    refine (hb _ mem).a.mul ((lcm_bd hp hb).le (j := k) ?_)
    rw [hk, Int.natAbs_mul]
    exact Nat.le_mul_of_pos_right _ (by omega)
  · rw [Mq.get_none (by rw [iw_len]; omega)]; exact Nat.two_pow_pos _
end Shp
namespace L2
open PySem
theorem pi_listK {X : Cx} {K : PySem.W.Frag} (h : X.K = K) {tg l : Expr} {tl : TE} (hl : PE X l tl) : PI X tg l (iList K tl) := by subst h; exact pi_list hl
end L2

set_option linter.all false
set_option maxHeartbeats 1000000
namespace Mq
end Mq

set_option Elab.async false
set_option linter.all false
set_option maxRecDepth 100000
set_option maxHeartbeats 2000000
namespace PySem
open Sem (wp)
section
variable {prog : Program} {w : World} {A : Around} {E : Value → Shared → Prop} {h : Heap} {g : Array GenState} {d : Drawn} {t : Nat} {os : OsState}
variable {nm q : Str} {C N f : Addr} {bs bm bmB : List Value} {hdct : Bool} {sn : List Str} {sub : List Value} {ab : Bool} {col : Option Bool} {dd : Option Addr} {k0 k1 k2 k3 k5 : Option Value} {B Bn newId nid initId inN : String} {bmN : List Value}
abbrev newExcHeap (h : Heap) (C : Addr) (rest : List Value) : Heap := (h.push { cls := .type "tuple", data := .seq rest.toArray }).push { cls := .ref C, data := .fields #[.ref h.objs.size, .none, .none, .none, .bool false, .none] }
theorem type_call_init (Fn : ExcBaseFacts Bn newId inN bmN) (hBn : bmB.contains (.type Bn) = true) (F : ExcBaseFacts B nid initId bmB) (T : OwnTail h bmB bm) {rest : List Value} {Q : Fin → Shared → Prop}
    (hC : h.get? C = some (excClassObj nm q C N bs bm hdct sn sub ab col dd k0 k1 k2 k3 k5 newId)) (hl : W.Looks (model prog w) h (typeLookup (.ref C) "__init__") (some (.ref f))) (hb : ∀ self, W.Looks (model prog w) h (bindSpecial (.ref f) self) (.ref f, [self]))
    (hq : wpAny (model prog w) A (call (.ref f) (.ref (h.objs.size + 1) :: rest)) (fun r s' => r = .none ∧ Q (.done (.ret (.ref (h.objs.size + 1)))) s') E ⟨newExcHeap h C rest, g, d, t, os⟩) (hrest : rest.length ≤ sizeLine) :
    wpAny (model prog w) A (Builtin.«type.__call__» ⟨.ref C :: rest, []⟩) Q E ⟨h, g, d, t, os⟩ := by
  repeat (first | with_reducible refine wpAny_loadPart_at hC ?_ | with_reducible refine wpAny_madeBy_exc hC ?_ | wp_step)
  refine codeAny_call_builtin_code (Code.quiet_builtin _ Fn.quiet) (wpAny_check_new_subU Fn hBn T hC ?_)
  refine codeAny_exc_new_subU Fn hBn F T hC ?_ hrest
  show wpAny _ _ _ _ _ _
  have k : ∀ b o, h.get? b = some o → (newExcHeap h C rest).get? b = some o := fun b o e => Heap.get?_push_of_some _ (Heap.get?_push_of_some _ e)
  have hC₁ := k _ _ hC
  have hget : (newExcHeap h C rest).get? (h.objs.size + 1) = some { cls := .ref C, data := .fields #[.ref h.objs.size, .none, .none, .none, .bool false, .none] } := by
    have := Heap.get?_push_size (h.push { cls := .type "tuple", data := .seq rest.toArray }) (o := { cls := .ref C, data := .fields #[.ref h.objs.size, .none, .none, .none, .bool false, .none] }) rfl
    rwa [Heap.size_push] at this
  have hcC : (Value.ref C :: bm).contains (.ref C) = true := by simp
  unfold isInstance
  repeat (first | with_reducible refine wpAny_loadPart_at hget ?_ | (with_reducible refine wpAny_isSubtype_exc hC₁ ?_; rw [hcC]) | wp_step)
  show wpAny _ _ (typeLookup (.ref C) _) _ _ _
  refine (hl.keeps k).here ?_
  refine wpAny_holding (wpAny_bind (((hb _).keeps k).here ?_))
  refine wpAny_bind (wpAny_mono hq (fun r s' z => ?_) fun _ _ z => z)
  obtain ⟨rfl, z⟩ := z
  refine wpAny_pure ?_
  exact wpAny_pure z
theorem call_init (Fn : ExcBaseFacts Bn newId inN bmN) (hBn : bmB.contains (.type Bn) = true) (F : ExcBaseFacts B nid initId bmB) (T : OwnTail h bmB bm) {rest : List Value} {Q : Value → Shared → Prop}
    (hC : h.get? C = some (excClassObj nm q C N bs bm hdct sn sub ab col dd k0 k1 k2 k3 k5 newId)) (hl : W.Looks (model prog w) h (typeLookup (.ref C) "__init__") (some (.ref f))) (hb : ∀ self, W.Looks (model prog w) h (bindSpecial (.ref f) self) (.ref f, [self]))
    (hq : wpAny (model prog w) (A.under (.builtin "type.__call__" ⟨.ref C :: rest, []⟩)) (call (.ref f) (.ref (h.objs.size + 1) :: rest)) (fun r s' => r = .none ∧ Q (.ref (h.objs.size + 1)) s') E ⟨newExcHeap h C rest, g, d, t, os⟩) (hrest : rest.length ≤ sizeLine) :
    wpAny (model prog w) A (call (.ref C) rest) Q E ⟨h, g, d, t, os⟩ := by
  have f1 := tc_lookup
  have f2 := tc_bind (.ref C)
  have hT : (⟨h, g, d, t, os⟩ : Shared).TypeIs (.ref C) "type" := ⟨_, hC, rfl⟩
  refine wpAny_call (codeAny_of_tree ?_)
  show wpAny _ _ (callAny (.ref C) _) _ _ _
  repeat (any_goals (first | assumption | with_reducible refine wpAny_loadPart_at hC ?_ | wp_step))
  refine ⟨rfl, ?_⟩
  refine codeAny_call_builtin_at (Code.quiet_builtin _ (by decide +kernel)) entry_typeCall (wpAny_check_type_call_sub hC (type_call_init Fn hBn F T hC hl hb ?_ hrest))
  exact hq
end
section
variable {M : Model} {A : Around} {E : Value → Shared → Prop} {env : Env}
variable {nm q : Str} {C N : Addr} {bs bm : List Value} {hdct : Bool} {sn : List Str} {sub : List Value} {ab : Bool} {col : Option Bool} {dd : Option Addr} {k0 k1 k2 k3 k5 : Option Value} {newId : String}
theorem raiseStmt_made_d {s : Shared} {x : Sem Value} {Q : Flow → Shared → Prop} (hbase : bm.contains (.type "BaseException") = true) (hh : A.handled = none)
    (h : wpAny M A x (fun v s₁ => ∃ e t dx, v = .ref e ∧ s₁.heap.get? C = some (excClassObj nm q C N bs bm hdct sn sub ab col dd k0 k1 k2 k3 k5 newId) ∧
      s₁.heap.get? e = some { cls := .ref C, dict := dx, data := .fields #[.ref t, .none, .none, .none, .bool false, .none] } ∧ E (.ref e) s₁) E s) :
    wpAny M A (raiseStmt env (some x) none) Q E s := by
  have hcB : (Value.ref C :: bm).contains (.type "BaseException") = true := by rw [List.contains_cons, hbase, Bool.or_true]
  unfold raiseStmt
  refine wpAny_bind (wpAny_mono h (fun v s₁ h₁ => ?_) fun _ _ x => x)
  obtain ⟨e, t, dx, rfl, hC, he, hE⟩ := h₁
  obtain ⟨hp, g, d, tk, os⟩ := s₁
  repeat (first | with_reducible refine wpAny_loadPart_at he ?_ | with_reducible refine wpAny_loadPart_at hC ?_ | (with_reducible refine wpAny_isSubtype_exc hC ?_; rw [hcB]) | wp_step)
  exact wpAny_raiseNew_none hh hE
end
section
variable {prog : Program} {w : World} {A : Around} {E : Value → Shared → Prop} {s : Shared} {env : Env}
variable {nm q : Str} {C N f : Addr} {bs bm bmB : List Value} {hdct : Bool} {sn : List Str} {sub : List Value} {ab : Bool} {col : Option Bool} {dd : Option Addr} {k0 k1 k2 k3 k5 : Option Value} {B Bn newId nid initId inN : String} {bmN : List Value}
theorem raise_init (Fn : ExcBaseFacts Bn newId inN bmN) (hBn : bmB.contains (.type Bn) = true) (F : ExcBaseFacts B nid initId bmB) {x : Str} {np cpos pos : Pos} {args : List Expr} {Q : Flow → Shared → Prop}
    (hbase : bm.contains (.type "BaseException") = true) (hh : A.handled = none) (hplain : (backTo cpos (starEach args env)).any (·.1) = false)
    (h : wpAny (model prog w) A (eval (.Name x np) env) (fun f' s₁ => f' = .ref C ∧ wpAny (model prog w) A (evalArgs (.ref C) true (backTo cpos (starEach args env)) [])
      (fun a s₂ => a.kw = [] ∧ a.pos.length ≤ sizeLine ∧ s₂.heap.get? C = some (excClassObj nm q C N bs bm hdct sn sub ab col dd k0 k1 k2 k3 k5 newId) ∧ OwnTail s₂.heap bmB bm ∧
        W.Looks (model prog w) s₂.heap (typeLookup (.ref C) "__init__") (some (.ref f)) ∧ (∀ self, W.Looks (model prog w) s₂.heap (bindSpecial (.ref f) self) (.ref f, [self])) ∧
        wpAny (model prog w) (A.under (.builtin "type.__call__" ⟨.ref C :: a.pos, []⟩)) (call (.ref f) (.ref (s₂.heap.objs.size + 1) :: a.pos)) (fun r s' => r = .none ∧ ∃ t dx, s'.heap.get? C = some (excClassObj nm q C N bs bm hdct sn sub ab col dd k0 k1 k2 k3 k5 newId) ∧
          s'.heap.get? (s₂.heap.objs.size + 1) = some { cls := .ref C, dict := dx, data := .fields #[.ref t, .none, .none, .none, .bool false, .none] } ∧ E (.ref (s₂.heap.objs.size + 1)) s') E { s₂ with heap := newExcHeap s₂.heap C a.pos }) E s₁) E s) :
    wpAny (model prog w) A (exec (.Raise (some (.Call (.Name x np) args [] cpos)) none pos) env) Q E s := by
  rw [arm_exec_Raise]
  first
    | refine wpAny_bind (wpAny_standAt (raiseStmt_made_d (C := C) (nm := nm) (q := q) (N := N) (bs := bs) (bm := bm) (hdct := hdct) (sn := sn) (sub := sub) (ab := ab) (col := col) (dd := dd) (k0 := k0) (k1 := k1) (k2 := k2) (k3 := k3) (k5 := k5) (newId := newId) hbase hh (wpAny_bind (wpAny_mono (wpAny_Call_ofName (wpAny_mono h (fun f s₁ h₁ => ?_) fun _ _ x => x)) (fun v s₃ h₃ => wpAny_bind (wpAny_standAt (wpAny_pure h₃))) fun _ _ x => x))))
    | (simp only [evalOpt, Option.map]; refine wpAny_bind (wpAny_standAt (raiseStmt_made_d (C := C) (nm := nm) (q := q) (N := N) (bs := bs) (bm := bm) (hdct := hdct) (sn := sn) (sub := sub) (ab := ab) (col := col) (dd := dd) (k0 := k0) (k1 := k1) (k2 := k2) (k3 := k3) (k5 := k5) (newId := newId) hbase hh (wpAny_bind (wpAny_mono (wpAny_Call_ofName (wpAny_mono h (fun f s₁ h₁ => ?_) fun _ _ x => x)) (fun v s₃ h₃ => wpAny_bind (wpAny_standAt (wpAny_pure h₃))) fun _ _ x => x)))))
    | (refine wpAny_bind (wpAny_standAt (raiseStmt_made_d (C := C) (nm := nm) (q := q) (N := N) (bs := bs) (bm := bm) (hdct := hdct) (sn := sn) (sub := sub) (ab := ab) (col := col) (dd := dd) (k0 := k0) (k1 := k1) (k2 := k2) (k3 := k3) (k5 := k5) (newId := newId) hbase hh ?_)); refine wpAny_bind (wpAny_mono (wpAny_Call_ofName (wpAny_mono h (fun f s₁ h₁ => ?_) fun _ _ x => x)) (fun v s₃ h₃ => wpAny_bind (wpAny_standAt (wpAny_pure h₃))) fun _ _ x => x))
  obtain ⟨rfl, h₁⟩ := h₁
  unfold callWith
  refine wpAny_bind (wpAny_holding (wpAny_mono h₁ (fun a s₂ h₂ => wpAny_bind (wpAny_standAt ?_)) fun _ _ x => x))
  obtain ⟨apos, akw⟩ := a
  obtain ⟨hkw, hlen, hC, T, hl, hb, h₂⟩ := h₂
  obtain rfl : akw = [] := hkw
  obtain ⟨hp, g, d, tk, os⟩ := s₂
  simp only [hplain]
  refine wpAny_bind (wpAny_keeperOf_exc hC ?_)
  refine wpAny_bind (call_init Fn hBn F T hC hl hb (wpAny_mono h₂ (fun r s' z => ?_) fun _ _ z => z) hlen)
  obtain ⟨rfl, t, dx, z1, z2, z3⟩ := z
  exact ⟨rfl, wpAny_bind (wpAny_holding (wpAny_point (wpAny_pure ⟨_, t, dx, rfl, z1, z2, z3⟩)))⟩
end
end PySem

set_option Elab.async false
set_option linter.all false
set_option maxRecDepth 100000
set_option maxHeartbeats 2000000
namespace L2
open PySem PySem.Spec PyProof.Rows
def newX (a : Addr) (C : Value) (d : Option Addr) : HO := .ext fun h => ∃ t, h.get? a = some { cls := C, dict := d, data := .fields #[.ref t, .none, .none, .none, .bool false, .none] }
theorem newX_ok {P : Program} {w : World} {H : Hp} {h : Heap} {a t : Addr} {C : Value} {d : Option Addr} (e : h.get? a = some { cls := C, dict := d, data := .fields #[.ref t, .none, .none, .none, .bool false, .none] }) : ObjOk P w H h a (newX a C d) :=
  ⟨⟨t, e⟩, ⟨_, e⟩, fun h1 h2 ⟨t', e'⟩ k => ⟨t', k _ e'⟩⟩
def dropH (H : Hp) (x : Addr) : Hp := fun b => if b = x then none else H b
theorem dropH_ne {H : Hp} {x b : Addr} (h : b ≠ x) : dropH H x b = H b := by unfold dropH; rw [if_neg h]
theorem dropH_at (H : Hp) (x : Addr) : dropH H x x = none := by unfold dropH; rw [if_pos rfl]
section
variable {X : Cx} {pins : List (Addr × Obj)} {σ : List (Option V)} {H : Hp} {s : Shared}
theorem Inv.forget {x : Addr} {φ : Heap → Prop} (I : Inv X pins σ H s) (hx : H x = some (.ext φ)) : Inv X pins σ (dropH H x) s := by
  have non : ∀ b, H b = none → dropH H x b = none := fun b e => by unfold dropH; split; rfl; exact e
  have keep : ∀ b u, H b = some u → u ≠ .ext φ → dropH H x b = some u := fun b u e n => by
    have : b ≠ x := fun z => by rw [z, hx] at e; cases e; exact n rfl
    rw [dropH_ne this]; exact e
  refine ⟨I.ok, I.os, I.bare, ⟨I.base.keep, I.base.slot, fun b o e1 e2 e3 => non b (I.base.free b o e1 e2 e3), I.base.there, fun b xs e => keep b _ (I.base.tups b xs e) (fun z => by cases z), fun b o u e => keep b _ (I.base.frzs b o u e) (fun z => by cases z), fun b ps e => ?_⟩, I.loc, I.cell, non _ I.free, fun y c e => non _ (I.freeC y c e), fun p hp => ?_, fun b u e => ?_, I.len⟩
  · obtain ⟨more, q⟩ := I.base.tbls b ps e
    exact ⟨more, keep b _ q (fun z => by cases z)⟩
  · obtain ⟨a1, a2, a3⟩ := I.pin p hp
    exact ⟨a1, non _ a2, a3⟩
  · have ne : b ≠ x := fun z => by rw [z, dropH_at] at e; cases e
    rw [dropH_ne ne] at e
    exact (I.hok b u e).stay (fun c v _ q => q) (fun c q => keep c _ q (fun z => by cases z)) fun c xs q => keep c _ q (fun z => by cases z)
end
structure ExcI (K : PySem.W.Frag) (C C0 f : Addr) : Prop where
  cls : ∃ (nm q : Str) (N : Addr) (bs : List Value) (sn : List Str) (sub : List Value) (ab : Bool) (col : Option Bool) (dd : Option Addr) (k0 k1 k2 k3 k5 : Option Value), K.lookup C = some (excClassObj nm q C N bs (.ref C0 :: bmVE) true sn sub ab col dd k0 k1 k2 k3 k5 "ValueError.__new__")
  base : ∃ (nm q : Str) (N : Addr) (bs : List Value) (hdct : Bool) (sn : List Str) (sub : List Value) (ab : Bool) (col : Option Bool) (dd : Option Addr) (k0 k1 k2 k3 k5 : Option Value), K.lookup C0 = some (excClassObj nm q C0 N bs bmVE hdct sn sub ab col dd k0 k1 k2 k3 k5 "ValueError.__new__")
  exc : ExcC K C0
  ini : PySem.W.findIn K (.ref C) "__init__" = some (some (.ref f))
  fn : PySem.W.typeIn K (.ref f) = some (.type "function")
theorem ExcI.tail {K : PySem.W.Frag} {C C0 f : Addr} (e : ExcI K C C0 f) {h : Heap} (X : K.In h) : OwnTail h bmVE (.ref C0 :: bmVE) := by
  obtain ⟨nm, q, N, bs, hdct, sn, sub, ab, col, dd, k0, k1, k2, k3, k5, l⟩ := e.base
  have z := e.exc
  unfold ExcC PySem.W.excIn at z
  rw [l] at z
  simp only [Bool.and_eq_true, beq_iff_eq, Bool.not_eq_true'] at z
  obtain ⟨⟨⟨⟨_, _⟩, ht⟩, hok⟩, hni⟩ := z
  exact .own (X _ _ l) (.of_isNs (PySem.W.isNs_of_in X hok)) (PySem.W.nsMap_none_of_in X hok hni) .base
section
variable {X : Cx} {pins : List (Addr × Obj)} {σ : List (Option V)} {H : Hp} {s : Shared} {k : Nat} {f C C0 : Addr} {fd : FuncData} {ps : List Str} {sp : Sp}
def tRaiseI (C : Addr) (sp : Sp) (E : XK) (ta : TA) : TS := fun _ σ H => ta σ H fun vs H1 => vs.length ≤ sizeLine ∧ ∀ x, H1 x = none → sp (.ref x :: vs) (upd H1 x (newX x (.ref C) none)) (fun v H2 => v = .non ∧ ∃ dx, H2 x = some (newX x (.ref C) dx) ∧ E (.ref C) dx (dropH H2 x)) E0
theorem ps_raiseI {E : XK} {x : Str} {np cpos pos : Pos} {e₀ : Expr} {es : List Expr} {ta : TA} (fm : Frm X) (xo : XeOk X E) (hc : X.calm = true) (hg : Gl X x) (hm : X.mg x = some (.ref C)) (q : ExcI X.K C C0 f)
    (F : FnOk X.prog X.w X.K X.mg X.base CX0 k f fd ps sp) (hr : Room (k + 1) X.A) (hb : Binds X.K fd ps []) (ha : PA X (e₀ :: es) ta)
    (hdb : (x == ("__debug__" : Str)) = false := by decide) (he : starEach (e₀ :: es) X.env = (false, eval e₀ X.env) :: starEach es X.env := by rfl) (hpl : (backTo cpos (starEach es X.env)).any (·.1) = false := by rfl) :
    PS X (.Raise (some (.Call (.Name x np) (e₀ :: es) [] cpos)) none pos) (tRaiseI C sp E ta) := by
  intro pins s σ H D I h
  obtain ⟨nm, qn, N, bs, sn, sub, ab, col, dd, k0, k1, k2, k3, k5, lC⟩ := q.cls
  have FB := PySem.F.excBase_ValueError
  have T := q.tail I.mod.kin
  refine raise_init (C := C) (f := f) (nm := nm) (q := qn) (N := N) (bs := bs) (bm := .ref C0 :: bmVE) (hdct := true) (sn := sn) (sub := sub) (ab := ab) (col := col) (dd := dd) (k0 := k0) (k1 := k1) (k2 := k2) (k3 := k3) (k5 := k5)
    FB (by decide) FB (T.hasType FB.hasBase) (I.ok.hd hc) (by rw [he]; show (false || (backTo cpos (starEach es X.env)).any (·.1)) = false; rw [hpl]; rfl) (ld_glob I hg hm ⟨rfl, ?_⟩ hdb)
  have ha' := ha cpos pins s σ H _ I h
  rw [he] at ha' ⊢
  refine Calls.evalArgs_plain (wpAny_mono ha' (fun us s2 h2 => ?_) fun _ _ y => y)
  obtain ⟨vs, H1, I1, r, hz, q1⟩ := h2
  have kIn := I1.kIn
  refine ⟨rfl, by rw [← r.length]; exact hz, kIn _ _ lC, q.tail kIn, PySem.W.looks_findIn kIn q.ini, fun self => PySem.W.bind_fn kIn self q.fn, ?_⟩
  dsimp only
  have kh : ∀ b o, s2.heap.get? b = some o → (newExcHeap s2.heap C us).get? b = some o := fun b o e => Heap.get?_push_of_some _ (Heap.get?_push_of_some _ e)
  have hget : (newExcHeap s2.heap C us).get? (s2.heap.objs.size + 1) = some { cls := .ref C, data := .fields #[.ref s2.heap.objs.size, .none, .none, .none, .bool false, .none] } := by
    have := Heap.get?_push_size (s2.heap.push { cls := .type "tuple", data := .seq us.toArray }) (o := { cls := .ref C, data := .fields #[.ref s2.heap.objs.size, .none, .none, .none, .bool false, .none] }) rfl
    rwa [Heap.size_push] at this
  have fr : H1 (s2.heap.objs.size + 1) = none := I1.hok.fresh (Nat.le_succ _)
  have I2 : Inv X pins σ (upd H1 (s2.heap.objs.size + 1) (newX (s2.heap.objs.size + 1) (.ref C) none)) { s2 with heap := newExcHeap s2.heap C us } :=
    I1.laid (t' := s2.toks) kh (Nat.le_succ _) (newX_ok hget)
  have hq := q1 _ fr
  have rv : Vals (V.ref (s2.heap.objs.size + 1) :: vs) (Value.ref (s2.heap.objs.size + 1) :: us) := .cons rfl r
  have hl : (Value.ref (s2.heap.objs.size + 1) :: us ++ []).length = ps.length := by
    have e := rv.length
    rw [F.len _ _ _ _ hq] at e
    rw [List.append_nil]
    exact e.symm
  refine wpAny_call (codeAny_mono (F.run _ X.stack _ _ ⟨Value.ref (s2.heap.objs.size + 1) :: us, []⟩ (Value.ref (s2.heap.objs.size + 1) :: us) _ _ E0 (hr.make C us []) (I2.env0.make C us []) (by have := hb _ (Value.ref (s2.heap.objs.size + 1) :: us) I2.kIn hl; rwa [List.append_nil] at this) rv hq) fun res s' hq' => ?_)
  cases res with
  | error e => exact (show False from hq').elim
  | ok fl =>
    cases fl with
    | ret u =>
      obtain ⟨v, H', os, bare, un, hok, rvu, ev, dx, ex, q3⟩ := hq'
      subst ev
      have J : Inv X pins σ H' s' := I2.call' (ch := []) os un hok bare fun b z => absurd z (by simp)
      obtain ⟨⟨t, ht⟩, _⟩ := (show ObjOk X.prog X.w H' s'.heap _ (newX _ (.ref C) dx) from J.hok _ _ ex)
      refine ⟨rvu, t, dx, J.kIn _ _ lC, ht, ?_⟩
      refine xo pins σ _ s' _ (.ref C) dx ⟨J.forget ex, s2.heap, fun p hp z => ?_, fun b o e => I1.base.there b o e (by rw [fm.ex]; simp), fun b o e => un.there b o (kh b o e) (by simp), ⟨none_le (Nat.le_succ _), dropH_at _ _, _, _, .none, ht, rfl, rfl, rfl, rfl, .inl rfl⟩⟩ q3
      rw [(I1.pin p hp).1] at z; cases z
    | next => exact False.elim hq'
    | brk => exact False.elim hq'
    | cont => exact False.elim hq'
end
end L2

set_option Elab.async false
set_option linter.all false
set_option maxRecDepth 100000
set_option maxHeartbeats 2000000
namespace L2
open PySem PySem.Spec PyProof.Rows
theorem upd_id {H : Hp} {a : Addr} {o : HO} (h : H a = some o) : upd H a o = H := by
  funext b
  by_cases e : b = a
  · rw [e, upd_same, h]
  · rw [upd_ne e]
section
variable {X : Cx} {C C0 f : Addr}
theorem call_excInit : CallR X (.builtin "ValueError.__init__") (fun xs H Q => ∃ a C C0 f d v, xs = [.ref a, v] ∧ H a = some (newX a (.ref C) d) ∧ ExcI X.K C C0 f ∧ Q .non H) := by
  intro pins s σ H xs us Q I r h
  obtain ⟨a, C, C0, f, d, v, rfl, ea, q, hq⟩ := h
  obtain ⟨u1, us', rfl, r1, r2⟩ : ∃ u1 us', us = u1 :: us' ∧ RelV (.ref a) u1 ∧ Vals [v] us' := by cases r with | cons p q => exact ⟨_, _, rfl, p, q⟩
  obtain rfl : u1 = Value.ref a := r1
  obtain ⟨⟨t, he⟩, _⟩ := (show ObjOk X.prog X.w H s.heap a (newX a (.ref C) d) from I.hok a _ ea)
  obtain ⟨nm, qn, N, bs, sn, sub, ab, col, dd, k0, k1, k2, k3, k5, lC⟩ := q.cls
  have FB := PySem.F.excBase_ValueError
  have T := q.tail I.kIn
  have hl : us'.length = 1 := r2.length.symm
  have hC := I.kIn _ _ lC
  have fin : ∀ s', s' = { s with heap := (s.heap.push { cls := .type "tuple", data := .seq us'.toArray }).update a (Obj.mapFields (·.setIfInBounds 0 (.ref s.heap.objs.size))) } → EP X pins σ Q .none s' := by
    rintro s' rfl
    have I1 : Inv X pins σ H { s with heap := s.heap.push { cls := .type "tuple", data := .seq us'.toArray } } := I.kept (t' := s.toks) fun b o e => Heap.get?_push_of_some _ e
    have he1 := Heap.get?_push_of_some (h := s.heap) { cls := .type "tuple", data := .seq us'.toArray } he
    have e2 := Heap.get?_update_self (Obj.mapFields (·.setIfInBounds 0 (.ref s.heap.objs.size))) he1 rfl
    have I2 := I1.write (x := a) (e := a) (t' := s.toks) (o := newX a (.ref C) d) (by rw [ea]; exact True.intro) (.inl rfl) (fun b u nb e => (Heap.get?_update_other _ _ (Ne.symm nb)).trans e) ⟨_, e2⟩ (newX_ok (t := s.heap.objs.size) e2)
    rw [upd_id ea] at I2
    exact ⟨.non, H, I2, rfl, hq⟩
  obtain ⟨hp, g, dr, tk, os⟩ := s
  refine wpAny_call (codeAny_call_builtin FB.init.plain FB.initEntry (wpAny_check_init_subU FB T hC he rfl ?_))
  unfold Builtin.«BaseException.__init__»
  dsimp only
  rw [if_neg (by simp)]
  unfold newTuple Builtin.BaseException.bexcPut
  have he₁ := Heap.get?_push_of_some (h := hp) { cls := .type "tuple", data := .seq us'.toArray } he
  refine wpAny_bind (wpAny_newObj_type (wpAny_bind (wpAny_bind (wpAny_field he₁ rfl rfl (wpAny_bind (wpAny_setField he₁ rfl (show 0 < 6 by decide) ?_))))) (by show us'.toArray.size ≤ sizeLine; rw [List.size_toArray, hl]; decide))
  exact wpAny_letGo (wpAny_pure (fin _ rfl))
structure ClsI (K : PySem.W.Frag) (C0 : Addr) : Prop where
  sp : PySem.W.specialIn K (.ref C0) "__getattribute__" = some (some (.builtin "type.__getattribute__"))
  rd : PySem.W.readsIn K C0 (.type "type") = true
  fi : PySem.W.findCls K (.ref C0) (.type "type") "__init__" = some (.val (.builtin "ValueError.__init__"))
def tExcInit (K : PySem.W.Frag) (ta : TA) : TE := fun σ H Q => ta σ H fun vs H1 => ∃ a C C0 f d v, vs = [.ref a, v] ∧ H1 a = some (newX a (.ref C) d) ∧ ExcI K C C0 f ∧ Q .non H1
theorem pe_excInit {pl : Sem Bool} {x : Str} {np apos pos : Pos} {e : Expr} {es : List Expr} {t : TA} (hg : Gl X x) (hm : X.mg x = some (.ref C0)) (c : ClsI X.K C0) (ha : PA X (e :: es) t) (hdb : (x == ("__debug__" : Str)) = false := by decide)
    (hst : starEach (e :: es) X.env = (false, eval e X.env) :: starEach es X.env := by rfl) (hpl : (backTo pos (starEach es X.env)).any (·.1) = false := by rfl)
    (ht : eval (.Call (.Attribute (.Name x np) "__init__" apos) (e :: es) [] pos) X.env = (do
      let ov ← eval (.Name x np) X.env
      standAt apos.atName
      let (f, first) ← holding [ov] (getMethod ov "__init__" pl)
      callWith pos f first (backTo pos (starEach (e :: es) X.env)) (backToKw pos (keywordEach [] X.env))) := by rfl) :
    PE X (.Call (.Attribute (.Name x np) "__init__" apos) (e :: es) [] pos) (tExcInit X.K t) := by
  intro pins s σ H Q I h
  refine PySem.W.methodCall_KW (pl := pl) (ld_glob I hg hm ?_ hdb) ht
  refine PySem.W.method_cls I.kIn c.sp (PySem.W.cls_value I.kIn c.rd c.fi rfl ?_)
  have I' : Inv X pins σ H { s with toks := s.toks + 1 } := I.tok _
  exact PyProof.Rows.callWith_builtin1 (thn (ha pos pins _ σ H _ I' h) fun us s1 ⟨vs, H1, I1, r1, q1⟩ => call_excInit pins s1 σ H1 vs us Q I1 r1 q1) hst hpl
end
section
variable {prog : Program} {w : World} {A : Around} {E : Value → Shared → Prop} {s : Shared} {K : PySem.W.Frag} {x C C0 f : Addr} {name : Str} {v : Value} {vs : Array Value}
theorem ExcI.cin {K : PySem.W.Frag} {C C0 f : Addr} (q : ExcI K C C0 f) : ∃ cd, PySem.W.clsIn K C = some cd ∧ cd.mro = .ref C :: .ref C0 :: bmVE ∧ cd.hasDict = true := by
  obtain ⟨nm, qn, N, bs, sn, sub, ab, col, dd, k0, k1, k2, k3, k5, lC⟩ := q.cls
  unfold PySem.W.clsIn
  rw [lC]
  exact ⟨_, rfl, rfl, rfl⟩
theorem set_exc {Q : Unit → Shared → Prop} (X : K.In s.heap) (q : ExcI K C C0 f) (hx : s.heap.get? x = some { cls := .ref C, data := .fields vs })
    (hs : PySem.W.findIn K (.ref C) "__setattr__" = some (some (.builtin "object.__setattr__"))) (hn : PySem.W.findIn K (.ref C) name = some none)
    (h : ∀ h', h'.get? x = some { cls := .ref C, dict := some s.heap.objs.size, data := .fields vs } → h'.Ns1 s.heap.objs.size (fun y => if y = name then some v else none) → (∀ b o, b ≠ x → s.heap.get? b = some o → h'.get? b = some o) → ∀ tk, Q () { s with heap := h', toks := tk }) :
    wpAny (model prog w) A (setAttr (.ref x) name v) Q E s := by
  have J : PySem.W.InstAt s.heap x { cls := .ref C, data := .fields vs } C none := ⟨hx, rfl, rfl, trivial⟩
  have SF := PySem.F.store_object
  have SV := PySem.F.store_ValueError
  obtain ⟨cd, hc, hm, hd⟩ := q.cin
  refine PySem.W.set_plain X J hs ?_
  have sub : PySem.W.Looks (model prog w) s.heap (isInstance (.ref x) (.type "object")) true := J.type.andThen (PySem.W.looks_mroIn X (by unfold PySem.W.mroIn; rw [hc, Option.bind_some, hm]; rfl))
  refine codeAny_call_builtin SF.slot.plain SF.entry (@PySem.W.check_slot (model prog w) _ _ { s with toks := s.toks + 1 } "object.__setattr__" "object" "__setattr__" (.ref x) [.str name s.toks, v] [] _ SF.kind SF.split sub (SF.args (.ref x) (.str name s.toks) v) ?_)
  have hmro : PySem.W.Looks (model prog w) s.heap (mroOf (.ref C)) cd.mro := (PySem.W.looks_clsIn X hc).andThen .now
  rw [PySem.W.osa_eq, refuse_eq]
  refine wpAny_bind (wpAny_bind (PySem.W.Looks.here (s := { s with toks := s.toks + 1 }) J.type (wpAny_bind (PySem.W.Looks.here (s := { s with toks := s.toks + 1 }) hmro ?_))))
  rw [hm, refuseLoop_ref, refuseLoop_ref, SV.passes]
  refine wpAny_pure (wpAny_bind (PySem.W.Looks.here (s := { s with toks := s.toks + 1 }) J.type (wpAny_bind (PySem.W.Looks.here (s := { s with toks := s.toks + 1 }) (PySem.W.looks_findIn X hn) (wpAny_bind (wpAny_pure ?_))))))
  dsimp only
  refine wpAny_bind (wpAny_pure (wpAny_bind (wpAny_bind (wpAny_loadPart hx (wpAny_bind (PySem.W.Looks.here (s := { s with toks := s.toks + 1 }) (PySem.W.looks_clsIn X hc) ?_))))))
  rw [hd, if_neg (by decide)]
  dsimp only
  rw [if_neg (by simp [typeHasDict])]
  have hx₁ : (s.heap.push { cls := .type "dict", data := .dict #[] }).get? x = some { cls := .ref C, data := .fields vs } := Heap.get?_push_of_some _ hx
  have hxs : x ≠ s.heap.objs.size := Nat.ne_of_lt (Heap.lt_size hx)
  refine wpAny_bind (wpAny_alloc' ?_)
  refine wpAny_bind (wpAny_update' hx₁ ?_)
  refine wpAny_pure ?_
  have hgd : ((s.heap.push { cls := .type "dict", data := .dict #[] }).update x fun o => { cls := o.cls, dict := some s.heap.objs.size, data := o.data, slots := o.slots }).get? s.heap.objs.size
      = some { cls := .type "dict", data := .dict #[] } :=
    (Heap.get?_update_ne _ _ _ _ hxs.symm).trans (Heap.get?_push_at rfl rfl)
  have hnd : ((s.heap.push { cls := .type "dict", data := .dict #[] }).update x fun o => { cls := o.cls, dict := some s.heap.objs.size, data := o.data, slots := o.slots }).Ns s.heap.objs.size (fun _ => none) :=
    ⟨_, #[], _, hgd, rfl, fun e he => absurd he (by simp), fun _ => rfl⟩
  show wpAny _ _ (Builtin.ObjectAttr.storeInDict s.heap.objs.size (.str name s.toks) name v) _ _ _
  unfold Builtin.ObjectAttr.storeInDict Builtin.ObjectAttr.newKeyGuard
  refine wpAny_bind (wpAny_pure (wpAny_bind (wpAny_nsSet1 (Heap.Ns1.of_empty hnd) fun h' hn' hs' => ?_)))
  obtain ⟨oD, esD, epD, hoD, hdD, hcD⟩ := hn'.count (Within.cons name v Within.nil)
  refine wpAny_bind (wpAny_lookBehind hoD (by rw [hdD]; exact pastItsLine_dict (Nat.le_trans hcD (by rw [List.length_cons, List.length_nil, sizeLine_eq]; omega))) ?_)
  refine wpAny_pure ?_
  refine h h' ?_ ?_ (fun b o nb e => (hs'.2 b (Nat.ne_of_lt (Heap.lt_size e))).trans ((Heap.get?_update_ne _ _ _ _ nb).trans (Heap.get?_push_of_some _ e))) _
  · exact (hs'.2 x hxs).trans (Heap.get?_update_self _ hx₁ rfl)
  · exact hn'
end
section
variable {X : Cx} {o value : Expr} {nm : Str} {pos pos' : Pos} {ta tv : TE}
structure ExcF (K : PySem.W.Frag) (C : Addr) (nm : Str) : Prop where
  sa : PySem.W.findIn K (.ref C) "__setattr__" = some (some (.builtin "object.__setattr__"))
  no : PySem.W.findIn K (.ref C) nm = some none
def sFldX (K : PySem.W.Frag) (ta tv : TE) (nm : Str) : TS := fun D σ H => tv σ H fun y H1 => ta σ H1 fun x H2 => ∃ a C C0 f, x = .ref a ∧ H2 a = some (newX a (.ref C) none) ∧ ExcI K C C0 f ∧ ExcF K C nm ∧
  ∀ dx, H2 dx = none → D.nx σ (upd (upd H2 dx (.xd [(nm, y)])) a (newX a (.ref C) (some dx)))
theorem ps_fldX (ha : PE X o ta) (hv : PE X value tv) (hs : swapsWith value (some (.Attribute o nm pos')) pos.line X.env = pure false) : PS X (.Assign [.Attribute o nm pos'] value pos) (sFldX X.K ta tv nm) := by
  intro pins s σ H D I h
  refine plainObj_wpAny_Assign_Attribute (thn (hv pins s σ H _ I h) fun u s1 ⟨y, H1, I1, ry, q⟩ => thn (ha pins s1 σ H1 _ I1 q) fun ov s2 ⟨x, H2, I2, rx, a, C, C0, f, ex, ea, qi, qf, q2⟩ => ?_) hs
  subst ex
  obtain rfl : ov = Value.ref a := rx
  obtain ⟨⟨t, he⟩, _⟩ := (show ObjOk X.prog X.w H2 s2.heap a (newX a (.ref C) none) from I2.hok a _ ea)
  refine set_exc I2.kIn qi he qf.sa qf.no fun h' e1 e2 e3 tk => ?_
  have fr : H2 s2.heap.objs.size = none := I2.hok.fresh (Nat.le_refl _)
  refine ⟨σ, _, ?_, q2 _ fr⟩
  have na : a ≠ s2.heap.objs.size := Nat.ne_of_lt (Heap.lt_size he)
  -- the dict, then the object
  have u1 := Heap.get?_update_self (fun _ : Obj => ({ cls := .ref C, data := .fields #[.ref t, .none, .none, .none, .bool false, .none] } : Obj)) e1 rfl
  have u2 : ∀ b, b ≠ a → (h'.update a fun _ : Obj => ({ cls := .ref C, data := .fields #[.ref t, .none, .none, .none, .bool false, .none] } : Obj)).get? b = h'.get? b := fun b nb => Heap.get?_update_other _ _ (Ne.symm nb)
  generalize h'.update a (fun _ : Obj => ({ cls := .ref C, data := .fields #[.ref t, .none, .none, .none, .bool false, .none] } : Obj)) = h1 at u1 u2
  have I3 : Inv X pins σ (upd H2 s2.heap.objs.size (.xd [(nm, y)])) { s2 with heap := h1, toks := s2.toks } := by
    refine I2.laid (a := s2.heap.objs.size) (o := .xd [(nm, y)]) (h' := h1) (t' := s2.toks) (fun b u e => ?_) (Nat.le_refl _) ?_
    · by_cases nb : b = a
      · subst nb
        rw [he] at e; cases e
        exact u1
      · rw [u2 b nb]; exact e3 b u nb e
    · obtain ⟨od, es, ep, z1, z2⟩ := e2
      refine ⟨_, ⟨od, es, ep, (u2 _ (Ne.symm na)).trans z1, z2⟩, fun g => ?_⟩
      by_cases gg : g = nm
      · subst gg
        rw [if_pos rfl, List.lookup_cons, beq_self_eq_true]
        exact ry
      · have : (g == nm) = false := beq_eq_false_iff_ne.mpr gg
        rw [if_neg gg, List.lookup_cons, this]
        exact True.intro
  have ea3 : upd H2 s2.heap.objs.size (.xd [(nm, y)]) a = some (newX a (.ref C) none) := by rw [upd_ne na]; exact ea
  exact I3.write (x := a) (e := a) (h' := h') (t' := tk) (by rw [ea3]; exact True.intro) (.inl rfl) (fun b u nb z => by rw [← u2 b nb]; exact z) ⟨_, e1⟩ (newX_ok e1)
end
section
variable {X : Cx} {o : Expr} {nm : Str} {pos : Pos} {ta : TE}
def tFldX (K : PySem.W.Frag) (ta : TE) (nm : Str) : TE := fun σ H Q => ta σ H fun x H1 => ∃ a C dx fs v, x = .ref a ∧ H1 a = some (excO a (.ref C) (some dx)) ∧ H1 dx = some (.xd fs) ∧ ExcK K C ∧ PySem.W.hasDictIn K C = true ∧ PySem.W.findIn K (.ref C) nm = some none ∧ fs.lookup nm = some v ∧ Q v H1
theorem pe_fldX (he : PE X o ta) (hb : attributeBase o nm X.env (eval o X.env) = eval o X.env) : PE X (.Attribute o nm pos) (tFldX X.K ta nm) := by
  intro pins s σ H Q I h
  refine attr_of hb (thn (he pins s σ H _ I h) fun u s1 ⟨x, H1, I1, rx, a, C, dx, fs, v, ex, ea, ed, k, hh, hn, l, q⟩ => ?_)
  subst ex
  obtain rfl : u = Value.ref a := rx
  obtain ⟨⟨ob, vs, h1, h2, h3, h4⟩, _⟩ := (show ObjOk X.prog X.w H1 s1.heap a (excO a (.ref C) (some dx)) from I1.hok a _ ea)
  obtain ⟨mA, N1, r⟩ := (show ObjOk X.prog X.w H1 s1.heap dx (.xd fs) from I1.hok dx _ ed)
  obtain ⟨w', hw, rw'⟩ := RelO.some_of (v := v) (o := mA nm) (by rw [← l]; exact r nm)
  obtain ⟨od, ho, hl⟩ := lookIn_ns N1
  have J : PySem.W.InstAt s1.heap a ob C (some od) := ⟨h1, h2, by unfold PySem.W.notCls; rw [h4], by rw [h3]; exact ho⟩
  unfold getAttr
  refine wpAny_bind (wpAny_mkText (exc_by (s := { s1 with toks := s1.toks + 1 }) k I1.kIn J (handed_of rw') (.inl (PySem.W.findObj_own hh hn rfl (by rw [hl, hw]))) ?_))
  exact ⟨v, H1, I1.tok _, rw', q⟩
end
end L2

set_option Elab.async false
set_option linter.all false
set_option maxRecDepth 100000
set_option maxHeartbeats 4000000
namespace Shp
open PySem L2
def matX (X : List (List Mq.Q2)) : Mq.Mat := fun i j => Mq.val ((X.getD i []).getD j Mq.z0)
def spOver (K : PySem.W.Frag) : Sp := fun vs H Q _ => ∃ (l : Addr) (ts : List Int) (pv : Int) (n : Nat), vs = [.ref l, .int pv] ∧ SqL K H l (ts.map V.int) ∧ ts.length ≤ 100 ∧ pv ≠ 0 ∧ Mq.B n pv ∧ n ≤ 9000 ∧
  ∀ l' zs H', Same H H' → H l' = none → H' l' = some (.lst zs) → Fqs K H' zs (ts.map fun t => Mq.red t pv) → Q (.ref l') H'
end Shp
namespace L2
open PySem
theorem sl_listK {X : Cx} {K : PySem.W.Frag} (h : X.K = K) : SlR X (rSlL K) := by subst h; exact sl_list
end L2

set_option linter.all false
set_option maxHeartbeats 2000000
namespace Mq
end Mq

set_option Elab.async false
set_option linter.all false
set_option maxRecDepth 100000
set_option maxHeartbeats 4000000
namespace L2
open PySem
theorem pe_fldXK {X : Cx} {K : PySem.W.Frag} (h : X.K = K) {o : Expr} {nm : Str} {pos : Pos} {ta : TE} (he : PE X o ta) (hb : attributeBase o nm X.env (eval o X.env) = eval o X.env) : PE X (.Attribute o nm pos) (tFldX K ta nm) := by subst h; exact pe_fldX he hb
end L2
namespace Mq
theorem rsum_get : ∀ l : List Rat, rsum l = rs l.length fun j => l.getD j 0
  | [] => rfl
  | x :: l => by
    rw [List.length_cons, rs_shift]
    show x + rsum l = _
    rw [rsum_get l]; rfl
def pp (m x : Q2) : Q2 := (m.1 * x.1, m.2 * x.2)
theorem val_pp {m x : Q2} (h1 : 1 ≤ m.2) (h2 : 1 ≤ x.2) : val (pp m x) = val m * val x := by
  have a1 := cast_ne (show m.2 ≠ 0 by omega)
  have a2 := cast_ne (show x.2 ≠ 0 by omega)
  unfold pp val
  show ((m.1 * x.1 : Int) : Rat) / ((m.2 * x.2 : Int) : Rat) = _
  rw [Rat.intCast_mul, Rat.intCast_mul]
  grind
theorem pp_pos {ms xs : List Q2} (hm : Pos ms) (hx : Pos xs) : Pos (List.zipWith pp ms xs) := fun p hp => by
  obtain ⟨i, hi, rfl⟩ := List.getElem_of_mem hp
  rw [List.getElem_zipWith]
  have h1 : i < ms.length := by simp at hi; omega
  have h2 : i < xs.length := by simp at hi; omega
  have : 0 < ms[i].2 * xs[i].2 := Int.mul_pos (by have := hm _ (List.getElem_mem h1); omega) (by have := hx _ (List.getElem_mem h2); omega)
  show 1 ≤ ms[i].2 * xs[i].2
  omega
theorem getQ {row : List Q2} {j : Nat} (h : j < row.length) : row[j]? = some (row.getD j z0) := by rw [List.getD_eq_getElem?_getD, List.getElem?_eq_getElem h]; rfl
theorem meets_of {ms xs : List Q2} {q : Q2} (hm : Pos ms) (hx : Pos xs) (hl : xs.length = ms.length) (hq : Low q) (h : (rs ms.length fun j => val (ms.getD j z0) * val (xs.getD j z0)) = val q) : N (List.zipWith pp ms xs) * q.2 = q.1 * D (List.zipWith pp ms xs) := by
  have e : tot (List.zipWith pp ms xs) = q := by
    refine low_ext (tot_low (pp_pos hm hx)) hq ?_
    rw [val_tot (pp_pos hm hx), rsum_get, ← h]
    have ll : ((List.zipWith pp ms xs).map val).length = ms.length := by simp [hl]
    rw [ll]
    refine rs_congr fun j hj => ?_
    rw [List.getD_eq_getElem?_getD, List.getElem?_map, List.getElem?_zipWith, getQ hj, getQ (show j < xs.length by omega)]
    exact val_pp (getD_pos hm j) (getD_pos hx j)
  have c := (tot_cross (pp_pos hm hx)).symm
  rw [e] at c
  exact c
theorem nd_take {ps : List Q2} {i : Nat} {p : Q2} (h : ps[i]? = some p) : N (ps.take (i + 1)) = N (ps.take i) * p.2 + p.1 * D (ps.take i) ∧ D (ps.take (i + 1)) = D (ps.take i) * p.2 := by
  have ee : ps.take (i + 1) = ps.take i ++ [p] := by rw [List.take_add_one, h]; rfl
  rw [ee, N_app, D_app]
  simp only [N, D]
  refine ⟨?_, ?_⟩
  · grind
  · grind
end Mq
namespace Shp
open PySem L2
def spMeetsG (K : PySem.W.Frag) : Sp := fun vs H Q _ => ∃ (a o d : Addr) (xs ys : List V) (ms ps : List Mq.Q2) (q : Mq.Q2) (n n' : Nat), vs = [.ref a, .ref o, .ref d] ∧ SqL K H a xs ∧ Fqs K H xs ms ∧ SqL K H o ys ∧ Fqs K H ys ps ∧ Fq K H d q ∧ (∀ p ∈ ms, Mq.Bd n p) ∧ (∀ p ∈ ps, Mq.Bd n' p) ∧ Mq.Bd 9000 q ∧ ms.length ≤ 10 ∧ n ≤ 10000 ∧ n' ≤ 10000 ∧ ps.length = ms.length ∧ Mq.N (List.zipWith Mq.pp ms ps) * q.2 = q.1 * Mq.D (List.zipWith Mq.pp ms ps) ∧ ∀ H', Same H H' → Q (.bl true) H'
end Shp

set_option linter.all false
set_option maxHeartbeats 1000000
namespace Mq
end Mq

set_option Elab.async false
set_option linter.all false
set_option maxRecDepth 100000
set_option maxHeartbeats 4000000
namespace Shp
open PySem L2
section
variable {X : List (List Mq.Q2)} {qs : List Mq.Q2}
end
abbrev RtOk (X : List (List Mq.Q2)) (qs : List Mq.Q2) : Prop := qs.length = X.length ∧ Mq.AllLow qs ∧ ∀ p ∈ qs, Mq.Bd 64 p
end Shp

set_option linter.all false
set_option maxHeartbeats 1000000
namespace Mq
section
variable {m : Nat} {A E : Mat} {r col : Nat} {d : Rat} {c : Nat → Nat} {n : Nat}
end
end Mq

set_option Elab.async false
set_option linter.all false
set_option maxRecDepth 100000
set_option maxHeartbeats 4000000
namespace Shp
open PySem L2
abbrev bq (n m : Nat) : Nat := (n + 4) * (m + 1) + 7
abbrev RtQ (X : List (List Mq.Q2)) (qs : List Mq.Q2) : Prop := qs.length = X.length ∧ Mq.AllLow qs ∧ ∀ p ∈ qs, Mq.Bd 32 p
end Shp

set_option Elab.async false
set_option linter.all false
set_option maxRecDepth 100000
set_option maxHeartbeats 4000000
namespace L2
open PySem PyProof.Rows
theorem FnOk.calm {P : Program} {w : World} {K : PySem.W.Frag} {mg : Str → Option Value} {base : Heap} {k : Nat} {f : Addr} {fd : FuncData} {ps : List Str} {sp : Sp} (F : FnOk P w K mg base (CX1 P w) k f fd ps sp) :
    FnOk P w K mg base CX0 k f fd ps (fun vs H Q _ => sp vs H Q (fun _ _ _ => False)) :=
  ⟨fun vs H Q E q => F.len vs H Q _ q, fun A outer s H args us vs Q E hr he hb hv hs => codeAny_mono (F.run A outer s H args us vs Q _ hr he hb hv hs) fun r s' h => by
    cases r with
    | ok fl => cases fl <;> exact h
    | error e =>
      obtain ⟨a, C, d, H', _, _, _, _, _, _, z⟩ := h
      exact z.elim⟩
end L2

set_option Elab.async false
set_option linter.all false
set_option maxRecDepth 100000
set_option maxHeartbeats 2000000
namespace L2
open PySem PySem.Spec PyProof.Rows
section
variable {X : Cx} {k : Nat} {f C : Addr} {fd : FuncData} {ps : List Str} {sp : Sp} {dvs : List V} {ds : List Value} {x : Str} {p pos : Pos} {e : Expr} {es : List Expr} {t : TA}
end
abbrev PtOk (m i j : Int) : Prop := 0 ≤ i ∧ i < m ∧ 0 ≤ j ∧ j < m
end L2

set_option Elab.async false
set_option linter.all false
set_option maxRecDepth 100000
set_option maxHeartbeats 2000000
namespace L2
open PySem PySem.Spec PyProof.Rows
abbrev Bz (o : Option Mq.Q2) : Prop := ∀ p, o = some p → Mq.Bd 100 p
section
variable {CK : Kd → Addr} {K : PySem.W.Frag} {H H' : Hp}
end
end L2

set_option Elab.async false
set_option linter.all false
set_option maxHeartbeats 2000000
namespace L2
open PySem PySem.Spec PyProof.Rows
theorem fpl : ¬ (("places" : Str) = "lines") := by decide +kernel
theorem fpa : ¬ (("places" : Str) = "arrivals") := by decide +kernel
theorem fla : ¬ (("lines" : Str) = "arrivals") := by decide +kernel
def tflds (p l a : Addr) : List (Str × V) := putF "arrivals" (.ref a) (putF "lines" (.ref l) (putF "places" (.ref p) []))
theorem tflds_p (p l a : Addr) : (tflds p l a).lookup ("places" : Str) = some (.ref p) := by
  unfold tflds
  rw [lookup_putF, if_neg fpa, lookup_putF, if_neg fpl, lookup_putF, if_pos rfl]
theorem tflds_l (p l a : Addr) : (tflds p l a).lookup ("lines" : Str) = some (.ref l) := by
  unfold tflds
  rw [lookup_putF, if_neg fla, lookup_putF, if_pos rfl]
theorem tflds_a (p l a : Addr) : (tflds p l a).lookup ("arrivals" : Str) = some (.ref a) := by
  unfold tflds
  rw [lookup_putF, if_pos rfl]
theorem tflds_no (p l a : Addr) {x : Str} (h1 : ¬ x = "places") (h2 : ¬ x = "lines") (h3 : ¬ x = "arrivals") : (tflds p l a).lookup x = none := by
  unfold tflds
  rw [lookup_putF, if_neg h3, lookup_putF, if_neg h2, lookup_putF, if_neg h1]
  rfl
structure TB (K : PySem.W.Frag) (mg : Str → Option Value) (CT : Addr) : Prop where
  cl : Cls K CT
  nP : NoAttr K CT "places"
  nL : NoAttr K CT "lines"
  nA : NoAttr K CT "arrivals"
  mT : mg "Table" = some (.ref CT)
structure Lns (K : PySem.W.Frag) (H : Hp) (us : List V) (X : List (List Mq.Q2)) : Prop where
  l : us.length = X.length
  r : ∀ (i : Nat) (x : V) (ps : List Mq.Q2), us[i]? = some x → X[i]? = some ps → ∃ (a : Addr) (xs : List V), x = .ref a ∧ SqL K H a xs ∧ Fqs K H xs ps
theorem Lns.same {K : PySem.W.Frag} {H H' : Hp} {us : List V} {X : List (List Mq.Q2)} (e : Same H H') (h : Lns K H us X) : Lns K H' us X := ⟨h.l, fun i x ps h1 h2 => let ⟨a, xs, e1, e2, e3⟩ := h.r i x ps h1 h2; ⟨a, xs, e1, e.seq e2, e3.same e⟩⟩
theorem Lns.nil {K : PySem.W.Frag} {H : Hp} : Lns K H [] [] := ⟨rfl, fun i x ps h => by simp at h⟩
theorem Lns.snoc {K : PySem.W.Frag} {H : Hp} {us : List V} {X : List (List Mq.Q2)} {a : Addr} {xs : List V} {ps : List Mq.Q2} (f : Lns K H us X) (h : SqL K H a xs) (s : Fqs K H xs ps) : Lns K H (us ++ [.ref a]) (X ++ [ps]) := by
  refine ⟨by rw [List.length_append, List.length_append, f.l]; rfl, fun i x qs h1 h2 => ?_⟩
  have l := f.l
  by_cases c : i < us.length
  · rw [List.getElem?_append_left c] at h1
    rw [List.getElem?_append_left (by omega)] at h2
    exact f.r i x qs h1 h2
  · have hi : i = us.length := by
      have := (List.getElem?_eq_some_iff.mp h1).1
      rw [List.length_append] at this
      simp only [List.length_cons, List.length_nil] at this
      omega
    subst hi
    rw [List.getElem?_append_right (Nat.le_refl _), Nat.sub_self] at h1
    rw [List.getElem?_append_right (by omega), show us.length - X.length = 0 by omega] at h2
    cases h1
    cases h2
    exact ⟨a, xs, rfl, h, s⟩
theorem Lns.upd {K : PySem.W.Frag} {H : Hp} {us : List V} {X : List (List Mq.Q2)} {l : Addr} {ys : List V} {o : HO} (f : Lns K H us X) (hl : H l = some (.lst ys)) (n : ∀ x ∈ us, x ≠ .ref l) : Lns K (upd H l o) us X := ⟨f.l, fun i x st h1 h2 => by
  obtain ⟨a, xs, e1, h, s⟩ := f.r i x st h1 h2
  have na : a ≠ l := fun z => n x (List.mem_of_getElem? h1) (by rw [e1, z])
  exact ⟨a, xs, e1, SqL.upd h na, s.upd hl⟩⟩
structure LnH (K : PySem.W.Frag) (H : Hp) (us : List V) (X : List (List Mq.Q2)) : Prop where
  l : us.length = X.length
  r : ∀ (i : Nat) (x : V) (ps : List Mq.Q2), us[i]? = some x → X[i]? = some ps → ∃ (a : Addr) (xs : List V), x = .ref a ∧ H a = some (.lst xs) ∧ Fqs K H xs ps
theorem LnH.same {K : PySem.W.Frag} {H H' : Hp} {us : List V} {X : List (List Mq.Q2)} (e : Same H H') (h : LnH K H us X) : LnH K H' us X := ⟨h.l, fun i x ps h1 h2 => let ⟨a, xs, e1, e2, e3⟩ := h.r i x ps h1 h2; ⟨a, xs, e1, e _ _ e2, e3.same e⟩⟩
theorem LnH.nil {K : PySem.W.Frag} {H : Hp} : LnH K H [] [] := ⟨rfl, fun i x ps h => by simp at h⟩
theorem LnH.snoc {K : PySem.W.Frag} {H : Hp} {us : List V} {X : List (List Mq.Q2)} {a : Addr} {xs : List V} {ps : List Mq.Q2} (f : LnH K H us X) (h : H a = some (.lst xs)) (s : Fqs K H xs ps) : LnH K H (us ++ [.ref a]) (X ++ [ps]) := by
  refine ⟨by rw [List.length_append, List.length_append, f.l]; rfl, fun i x qs h1 h2 => ?_⟩
  have l := f.l
  by_cases c : i < us.length
  · rw [List.getElem?_append_left c] at h1
    rw [List.getElem?_append_left (by omega)] at h2
    exact f.r i x qs h1 h2
  · have hi : i = us.length := by
      have := (List.getElem?_eq_some_iff.mp h1).1
      rw [List.length_append] at this
      simp only [List.length_cons, List.length_nil] at this
      omega
    subst hi
    rw [List.getElem?_append_right (Nat.le_refl _), Nat.sub_self] at h1
    rw [List.getElem?_append_right (by omega), show us.length - X.length = 0 by omega] at h2
    cases h1
    cases h2
    exact ⟨a, xs, rfl, h, s⟩
theorem LnH.upd {K : PySem.W.Frag} {H : Hp} {us : List V} {X : List (List Mq.Q2)} {l : Addr} {ys : List V} {o : HO} (f : LnH K H us X) (hl : H l = some (.lst ys)) (n : ∀ x ∈ us, x ≠ .ref l) : LnH K (upd H l o) us X := ⟨f.l, fun i x st h1 h2 => by
  obtain ⟨a, xs, e1, h, s⟩ := f.r i x st h1 h2
  have na : a ≠ l := fun z => n x (List.mem_of_getElem? h1) (by rw [e1, z])
  exact ⟨a, xs, e1, by rw [upd_ne na]; exact h, s.upd hl⟩⟩
theorem LnH.lns {K : PySem.W.Frag} {H : Hp} {us : List V} {X : List (List Mq.Q2)} (h : LnH K H us X) : Lns K H us X := ⟨h.l, fun i x ps h1 h2 => let ⟨a, xs, e1, e2, e3⟩ := h.r i x ps h1 h2; ⟨a, xs, e1, SqL.of e2, e3⟩⟩
theorem LnH.at {K : PySem.W.Frag} {H : Hp} {us : List V} {X : List (List Mq.Q2)} (h : LnH K H us X) {i : Nat} {ps : List Mq.Q2} (hi : X[i]? = some ps) : ∃ a xs, us[i]? = some (.ref a) ∧ H a = some (.lst xs) ∧ Fqs K H xs ps := by
  have hl : i < us.length := by rw [h.l]; exact (List.getElem?_eq_some_iff.mp hi).1
  obtain ⟨a, xs, e, h1, h2⟩ := h.r i _ ps (List.getElem?_eq_getElem hl) hi
  exact ⟨a, xs, by rw [List.getElem?_eq_getElem hl, e], h1, h2⟩
theorem Lns.at {K : PySem.W.Frag} {H : Hp} {us : List V} {X : List (List Mq.Q2)} (h : Lns K H us X) {i : Nat} {ps : List Mq.Q2} (hi : X[i]? = some ps) : ∃ a xs, us[i]? = some (.ref a) ∧ SqL K H a xs ∧ Fqs K H xs ps := by
  have hl : i < us.length := by rw [h.l]; exact (List.getElem?_eq_some_iff.mp hi).1
  obtain ⟨a, xs, e, h1, h2⟩ := h.r i _ ps (List.getElem?_eq_getElem hl) hi
  exact ⟨a, xs, by rw [List.getElem?_eq_getElem hl, e], h1, h2⟩
theorem SameX.seqI {K : PySem.W.Frag} {t a C dx : Addr} {fs : List (Str × V)} {H H' : Hp} {xs : List V} (ht : H t = some (.ins C dx fs)) (e : SameX t H H') (h : SqL K H a xs) : SqL K H' a xs := by
  rcases h with (h | ⟨u, h⟩) | h
  · exact .inl (.inl (e _ _ h (ne_of h ht (fun z => by cases z))))
  · exact .inl (.inr ⟨u, e _ _ h (ne_of h ht (fun z => by cases z))⟩)
  · exact .inr h
theorem SameX.seqTI {K : PySem.W.Frag} {t a C dx : Addr} {fs : List (Str × V)} {H H' : Hp} {xs : List V} (ht : H t = some (.ins C dx fs)) (e : SameX t H H') (h : SqT K H a xs) : SqT K H' a xs := by
  rcases h with (h | ⟨u, h⟩) | h
  · exact .inl (.inl (e _ _ h (ne_of h ht (fun z => by cases z))))
  · exact .inl (.inr ⟨u, e _ _ h (ne_of h ht (fun z => by cases z))⟩)
  · exact .inr h
theorem SameX.fqsI {K : PySem.W.Frag} {t C dx : Addr} {fs : List (Str × V)} {H H' : Hp} (ht : H t = some (.ins C dx fs)) (e : SameX t H H') : ∀ {xs : List V} {ps : List Mq.Q2}, Fqs K H xs ps → Fqs K H' xs ps
  | _, _, .nil => .nil
  | _, _, .cons f q => .cons (SameX.seqTI ht e f) (SameX.fqsI ht e q)
theorem SameX.lnsI {K : PySem.W.Frag} {t C dx : Addr} {fs : List (Str × V)} {H H' : Hp} {us : List V} {X : List (List Mq.Q2)} (ht : H t = some (.ins C dx fs)) (e : SameX t H H') (h : Lns K H us X) : Lns K H' us X := ⟨h.l, fun i x ps h1 h2 => let ⟨a, xs, e1, e2, e3⟩ := h.r i x ps h1 h2; ⟨a, xs, e1, SameX.seqI ht e e2, SameX.fqsI ht e e3⟩⟩
structure TabAt (CT : Addr) (K : PySem.W.Frag) (H : Hp) (t : Addr) (es : List Int) (X : List (List Mq.Q2)) (cs : List Mq.Q2) : Prop where
  e : ∃ (dx p l a : Addr) (us ys : List V), H t = some (.ins CT dx (tflds p l a)) ∧ SqL K H p (es.map V.int) ∧ SqL K H l us ∧ Lns K H us X ∧ SqL K H a ys ∧ Fqs K H ys cs
theorem TabAt.same {CT : Addr} {K : PySem.W.Frag} {H H' : Hp} {t : Addr} {es : List Int} {X : List (List Mq.Q2)} {cs : List Mq.Q2} (s : Same H H') (h : TabAt CT K H t es X cs) : TabAt CT K H' t es X cs := by
  obtain ⟨dx, p, l, a, us, ys, h1, h2, h3, h4, h5, h6⟩ := h.e
  exact ⟨dx, p, l, a, us, ys, s _ _ h1, s.seq h2, s.seq h3, h4.same s, s.seq h5, h6.same s⟩
structure TbOk (n w : Nat) (es : List Int) (X : List (List Mq.Q2)) (cs : List Mq.Q2) : Prop where
  le : es.length = w
  lX : X.length = w
  lc : cs.length = w
  w6 : w ≤ 6
  nd : es.Nodup
  r : ∀ row ∈ X, row.length = w ∧ ∀ p ∈ row, Mq.Low p ∧ Mq.Bd n p
  c : ∀ p ∈ cs, Mq.Low p ∧ Mq.Bd n p
def spTInit (CT : Addr) (K : PySem.W.Frag) : Sp := fun vs H Q _ => ∃ (t dx e g c : Addr) (es : List Int) (us ys : List V) (X : List (List Mq.Q2)) (cs : List Mq.Q2), vs = [.ref t, .ref e, .ref g, .ref c] ∧ H t = some (.ins CT dx []) ∧ SqL K H e (es.map V.int) ∧ SqL K H g us ∧ Lns K H us X ∧ us.length ≤ 100 ∧ SqL K H c ys ∧ Fqs K H ys cs ∧ ∀ H', SameX t H H' → TabAt CT K H' t es X cs → Q .non H'
def spTEnds (CT : Addr) (K : PySem.W.Frag) : Sp := fun vs H Q _ => ∃ (t : Addr) (es : List Int) (X : List (List Mq.Q2)) (cs : List Mq.Q2), vs = [.ref t] ∧ TabAt CT K H t es X cs ∧ ∀ a H', Same H H' → H a = none → H' a = some (.lst (es.map V.int)) → Q (.ref a) H'
def spTMat (CT : Addr) (K : PySem.W.Frag) : Sp := fun vs H Q _ => ∃ (t : Addr) (es : List Int) (X : List (List Mq.Q2)) (cs : List Mq.Q2), vs = [.ref t] ∧ TabAt CT K H t es X cs ∧ X.length ≤ 100 ∧ ∀ a us H', Same H H' → H' a = some (.lst us) → LnH K H' us X → Q (.ref a) H'
def spTComes (CT : Addr) (K : PySem.W.Frag) : Sp := fun vs H Q _ => ∃ (t : Addr) (es : List Int) (X : List (List Mq.Q2)) (cs : List Mq.Q2), vs = [.ref t] ∧ TabAt CT K H t es X cs ∧ ∀ a ys H', Same H H' → H' a = some (.lst ys) → Fqs K H' ys cs → Q (.ref a) H'
end L2

set_option Elab.async false
set_option linter.all false
set_option maxHeartbeats 1000000
namespace Mq
inductive Wt : List Q2 → Nat → Prop where
  | nil : Wt [] 0
  | cons {p : Q2} {ps : List Q2} {n w : Nat} (h : Bd n p) (q : Wt ps w) : Wt (p :: ps) (n + 1 + w)
theorem Wt.at : ∀ {ps : List Q2} {w i : Nat} {p : Q2}, Wt ps w → ps[i]? = some p → ∃ w' n, Wt (ps.take i) w' ∧ Bd n p ∧ w' + n + 1 ≤ w
  | _, _, _, _, .nil, h => by simp at h
  | _, _, 0, _, .cons (n := n) h q, e => by
    simp at e; subst e
    exact ⟨0, n, .nil, h, by omega⟩
  | _, _, i + 1, _, .cons (n := n) h q, e => by
    obtain ⟨w', n', a, b, c⟩ := Wt.at q (by simpa using e)
    exact ⟨n + 1 + w', n', .cons h a, b, by omega⟩
theorem Wt.fold : ∀ {ps : List Q2} {w k : Nat} {p : Q2}, Wt ps w → Pos ps → 1 ≤ p.2 → Bd k p → Bd (k + w) (ps.foldl plus p)
  | _, _, _, _, .nil, _, _, h => h
  | _, _, k, p, .cons (p := q) (n := n) (w := w) h r, hp, p1, b => by
    have q1 := hp q (by simp)
    have := Wt.fold r (fun x hx => hp x (List.mem_cons_of_mem _ hx)) (plus_low p1 q1).pos (plus_bd b h p1 q1)
    exact this.mono (by omega)
theorem Wt.tot {ps : List Q2} {w : Nat} (h : Wt ps w) (hp : Pos ps) : Bd (1 + w) (tot ps) := h.fold hp (by decide) ⟨show (0 : Nat) < 2 ^ 1 by decide, show (1 : Nat) < 2 ^ 1 by decide⟩
theorem tot_snoc (ps : List Q2) (p : Q2) : tot (ps ++ [p]) = plus (tot ps) p := by unfold tot; rw [List.foldl_append]; rfl
end Mq
namespace L2
open PySem PySem.Spec PyProof.Rows
section
variable {CK : Kd → Addr} {K : PySem.W.Frag} {H H' : Hp}
end
def spTotW (K : PySem.W.Frag) : Sp := fun vs H Q _ => ∃ (a : Addr) (xs : List V) (ps : List Mq.Q2) (w : Nat), vs = [.ref a] ∧ SqL K H a xs ∧ Fqs K H xs ps ∧ Mq.Pos ps ∧ Mq.Wt ps w ∧ w + 1 ≤ 9000 ∧ ∀ r H', Same H H' → Fq K H' r (Mq.tot ps) → Q (.ref r) H'
section
variable {m n : Nat} {hp : List Mq.Q2} {d : RD} {e : RE}
end
end L2

set_option Elab.async false
set_option linter.all false
set_option maxRecDepth 100000
namespace L2
open PySem
section
variable {X : Cx}
end
end L2

set_option Elab.async false
set_option linter.all false
set_option maxRecDepth 100000
set_option maxHeartbeats 4000000
namespace K55
open PySem L2 Shp
def top (i : Nat) : Stmt := PySem.Challenge.pw_ohmyard_k55_ends_taken_away.main.body.getD i (.Pass ⟨0, 0, 0, 0⟩)
section
variable {P : Program} {w : World} {K : PySem.W.Frag} {mg : Str → Option Value} {base : Heap} {f g1 g2 g3 g4 g5 g6 g7 g8 g9 g10 g11 : Addr} {fd gd1 gd2 gd3 gd4 gd5 gd6 gd7 gd8 gd9 gd10 gd11 : FuncData} {CX : CXT}
abbrev sWhole : Stmt := top 8
theorem scWhole : FnScope ["thing"] ["thing"] (defScope sWhole) := ⟨rfl, rfl, rfl, by decide +kernel, rfl, by decide +kernel, by decide +kernel⟩
theorem ok_whole {dV : Value} (F : FunD K "is_whole" "is_whole" sWhole dV f fd) (b : Bl mg) : FnOk P w K mg base CX 1 f fd ["thing"] (spWhole K) := by
  refine F.ok scWhole (fun vs H Q E h => ?_) (fun cdv A outer s H vs Q E hr h => ?_)
  · obtain ⟨x, rfl, _⟩ := h
    rfl
  obtain ⟨x, rfl, h⟩ := h
  refine ⟨_, pss_one (ps_ret (pe_and (pe_isiQ (i := 0) rfl (Or.inl rfl) b.isi b.int rfl rfl PyProof.Rows.boot_int) (pe_one (pe_not (pe_isiQ (i := 0) rfl (Or.inl rfl) b.isi b.bool rfl rfl PyProof.Rows.boot_bool))))), ?_⟩
  rcases h with ⟨i, rfl, q⟩ | ⟨t, ty, nw, q⟩
  · exact ⟨_, _, _, rfl, .of (.int i), rfl, _, rfl, iteT ⟨_, _, false, rfl, .of (.int i), (by with_unfolding_all rfl), _, rfl, q⟩⟩
  · rcases nw with rfl | rfl | rfl | rfl | rfl
    · exact ⟨_, _, true, rfl, .of ty, (by with_unfolding_all rfl), _, rfl, iteT ⟨_, _, _, rfl, .of ty, rfl, _, rfl, q⟩⟩
    all_goals exact ⟨_, _, false, rfl, .of ty, (by with_unfolding_all rfl), _, rfl, iteF q⟩
abbrev sGc : Stmt := top 9
theorem scGc : FnScope ["one", "other", "rest"] ["one", "other"] (defScope sGc) := ⟨rfl, rfl, rfl, by decide +kernel, rfl, by decide +kernel, by decide +kernel⟩
theorem ok_gc {dV : Value} (F : FunD K "greatest_common" "greatest_common" sGc dV f fd) (b : Bl mg) : FnOk P w K mg base CX 1 f fd ["one", "other"] spGc := by
  refine F.ok scGc (fun vs H Q E h => ?_) (fun cdv A outer s H vs Q E hr h => ?_)
  · obtain ⟨x, y, rfl, _⟩ := h
    rfl
  obtain ⟨x, y, rfl, q⟩ := h
  refine ⟨_, pss_cons (ps_while PassesOwn.never (pt_cmpR op_ne (pv 1) pe_int (nomark _)) (pss_cons (ps_set (i := 2) scGc.nd rfl (Or.inl rfl) (pe_op op_modN (pv 0) (pv 1)))
    (pss_cons (ps_set (i := 0) scGc.nd rfl (Or.inl rfl) (pv 1)) (pss_one (ps_set (i := 1) scGc.nd rfl (Or.inl rfl) (pv 2))))))
    (pss_one (ps_ret (pe_callB call_abs rfl b.abs PyProof.Rows.boot_abs (pa_cons (pv 0) pa_nil)))), ?_⟩
  refine while_by (fun σ H' => H' = H ∧ ∃ u v z, σ = [some (.int u), some (.int v), z] ∧ Mq.gc u v = Mq.gc x y) (fun σ _ => match σ with | [_, some (.int v), _] => v.natAbs | _ => 0) ⟨rfl, x, y, none, rfl, rfl⟩ ?_ ?_
  · rintro σ H' ⟨rfl, u, v, z, rfl, e⟩
    refine ⟨_, rfl, rfl, _, rfl, ?_⟩
    refine ite2 (fun c => ?_) (fun c => ?_)
    · have hv : v ≠ 0 := by intro q; subst q; simp at c
      refine ⟨_, rfl, _, rfl, _, _, rfl, rfl, hv, _, rfl, _, rfl, ⟨rfl, v, Int.fmod u v, _, rfl, (Mq.gc_step u v).trans e⟩, Mq.fmod_less hv⟩
    · have hv : v = 0 := by
        simp at c
        exact c
      subst hv
      refine ⟨_, rfl, _, rfl, ?_⟩
      rw [← Mq.gc_zero, e]
      exact q
  · rintro σ H Q Q' m ⟨v, h1, h2, k, h3, h4⟩
    exact ⟨v, h1, h2, k, h3, m _ _ h4⟩
abbrev sFrac : Stmt := top 10
theorem scFrac : FnScope ["top", "bottom", "shared"] ["top", "bottom"] (defScope sFrac) := ⟨rfl, rfl, rfl, by decide +kernel, rfl, by decide +kernel, by decide +kernel⟩
theorem ok_frac {dV : Value} (F : FunD K "fraction" "fraction" sFrac dV f fd)
    (G1 : FnOk P w K mg base CX0 1 g1 gd1 ["thing"] (spWhole K)) (b1 : Binds K gd1 ["thing"] []) (k1 : PySem.W.keepIn K (.ref g1) = true) (m1 : mg "is_whole" = some (.ref g1))
    (G2 : FnOk P w K mg base CX0 1 g2 gd2 ["one", "other"] spGc) (b2 : Binds K gd2 ["one", "other"] []) (k2 : PySem.W.keepIn K (.ref g2) = true) (m2 : mg "greatest_common" = some (.ref g2)) :
    FnOk P w K mg base CX 2 f fd ["top", "bottom"] spFrac := by
  refine F.ok scFrac (fun vs H Q E h => ?_) (fun cdv A outer s H vs Q E hr h => ?_)
  · obtain ⟨t, b, n, rfl, _⟩ := h
    rfl
  obtain ⟨t, b, n, rfl, hb, hB, hn, q⟩ := h
  refine ⟨_, pss_cons (ps_if (PW.pt (pw_or (pt_not (pt_val (pe_call G1 hr rfl m1 k1 b1 .nil pass0 (pa_cons (pv 0) pa_nil)))) (pw_or (pt_not (pt_val (pe_call G1 hr rfl m1 k1 b1 .nil pass0 (pa_cons (pv 1) pa_nil)))) (pw_or1 (pt_cmpR op_eq (pv 1) pe_int (nomark _)))))) pss_never pss_nil)
    (pss_cons (ps_set (i := 2) scFrac.nd rfl (Or.inl rfl) (pe_call G2 hr rfl m2 k2 b2 .nil pass0 (pa_cons (pv 0) (pa_cons (pv 1) pa_nil))))
    (pss_cons (ps_if (pt_cmpR op_lt (pv 1) pe_int (nomark _)) (pss_one (ps_set (i := 2) scFrac.nd rfl (Or.inl rfl) (pe_un un_neg (pv 2)))) pss_nil)
    (pss_one (ps_ret (pe_tup (pa_cons (pe_op op_fdivB (pv 0) (pv 2)) (pa_cons (pe_op op_fdivB (pv 1) (pv 2)) pa_nil))))))), ?_⟩
  have hd := Mq.dvr_ne (t := t) hb
  have hdB : Mq.B n (Mq.dvr t b) := hB.le (Mq.dvr_le hb)
  have c0 : decide (V.int b = V.int 0) = false := decide_eq_false (fun z => hb (by cases z; rfl))
  refine ⟨_, rfl, _, rfl, .inl ⟨t, rfl, _, rfl, iteF ⟨_, rfl, _, rfl, .inl ⟨b, rfl, _, rfl, iteF ⟨_, rfl, rfl, _, rfl, ?_⟩⟩⟩⟩⟩
  rw [c0]
  refine iteF ⟨_, rfl, _, rfl, t, b, rfl, ?_⟩
  refine ⟨_, rfl, _, _, rfl, rfl, _, rfl, ?_⟩
  refine ite2 (fun c => ?_) (fun c => ?_)
  · have hlt : b < 0 := of_decide_eq_true c
    have e : Mq.dvr t b = -Mq.gc t b := by unfold Mq.dvr; rw [if_pos hlt]
    rw [e] at hd hdB
    have q' : NewF H Q (t.fdiv (-Mq.gc t b), b.fdiv (-Mq.gc t b)) := by
      have z := q
      unfold Mq.red at z
      rw [e] at z
      exact z
    refine ⟨_, rfl, _, rfl, ?_⟩
    refine ⟨_, rfl, _, rfl, ?_⟩
    refine rd_fdivB hd hdB hn ⟨_, rfl, _, rfl, rd_fdivB hd hdB hn ⟨by show 2 ≤ sizeLine; decide, fun p hp => ?_⟩⟩
    exact q' p _ (same_new hp _) upd_same
  · have hlt : ¬ b < 0 := fun z => c (decide_eq_true z)
    have e : Mq.dvr t b = Mq.gc t b := by unfold Mq.dvr; rw [if_neg hlt]
    rw [e] at hd hdB
    have q' : NewF H Q (t.fdiv (Mq.gc t b), b.fdiv (Mq.gc t b)) := by
      have z := q
      unfold Mq.red at z
      rw [e] at z
      exact z
    refine ⟨_, rfl, _, rfl, ?_⟩
    refine rd_fdivB hd hdB hn ⟨_, rfl, _, rfl, rd_fdivB hd hdB hn ⟨by show 2 ≤ sizeLine; decide, fun p hp => ?_⟩⟩
    exact q' p _ (same_new hp _) upd_same
abbrev sMinus : Stmt := top 12
theorem scMinus : FnScope ["one", "other"] ["one", "other"] (defScope sMinus) := ⟨rfl, rfl, rfl, by decide +kernel, rfl, by decide +kernel, by decide +kernel⟩
theorem ok_minus {dV : Value} (F : FunD K "minus" "minus" sMinus dV f fd)
    (G1 : FnOk P w K mg base CX0 2 g1 gd1 ["top", "bottom"] spFrac) (b1 : Binds K gd1 ["top", "bottom"] []) (k1 : PySem.W.keepIn K (.ref g1) = true) (m1 : mg "fraction" = some (.ref g1)) :
    FnOk P w K mg base CX 3 f fd ["one", "other"] (spTwo K Mq.minus) := by
  refine F.ok scMinus (fun vs H Q E h => ?_) (fun cdv A outer s H vs Q E hr h => ?_)
  · obtain ⟨a, b, p, q, n, m, rfl, _⟩ := h
    rfl
  obtain ⟨a, b, p, q, n, m, rfl, ha, hb, lp, lq, bp, bq, hn, z⟩ := h
  refine ⟨_, pss_one (ps_ret (pe_call G1 hr rfl m1 k1 b1 .nil pass0 (pa_cons
    (pe_op op_sub (pe_op op_mulB (pe_ix ix_tup (pv 0) pe_int (fun _ _ => rfl)) (pe_ix ix_tup (pv 1) pe_int (fun _ _ => rfl))) (pe_op op_mulB (pe_ix ix_tup (pv 1) pe_int (fun _ _ => rfl)) (pe_ix ix_tup (pv 0) pe_int (fun _ _ => rfl))))
    (pa_cons (pe_op op_mulB (pe_ix ix_tup (pv 0) pe_int (fun _ _ => rfl)) (pe_ix ix_tup (pv 1) pe_int (fun _ _ => rfl))) pa_nil)))), ?_⟩
  refine rd_ix0 rfl ha (rd_ix1 rfl hb (rd_mulB bp.a bq.b (by omega) (by omega) (rd_ix0 rfl hb (rd_ix1 rfl ha (rd_mulB bq.a bp.b (by omega) (by omega) ⟨_, _, rfl, rfl, ?_⟩)))))
  refine rd_ix1 rfl ha (rd_ix1 rfl hb (rd_mulB bp.b bq.b (by omega) (by omega) ⟨_, _, n + m, rfl, Mq.mul_ne lp lq, bp.b.mul bq.b, by omega, z⟩))
abbrev sPlus : Stmt := top 11
theorem scPlus : FnScope ["one", "other"] ["one", "other"] (defScope sPlus) := ⟨rfl, rfl, rfl, by decide +kernel, rfl, by decide +kernel, by decide +kernel⟩
theorem ok_plus {dV : Value} (F : FunD K "plus" "plus" sPlus dV f fd)
    (G1 : FnOk P w K mg base CX0 2 g1 gd1 ["top", "bottom"] spFrac) (b1 : Binds K gd1 ["top", "bottom"] []) (k1 : PySem.W.keepIn K (.ref g1) = true) (m1 : mg "fraction" = some (.ref g1)) :
    FnOk P w K mg base CX 3 f fd ["one", "other"] (spTwo K Mq.plus) := by
  refine F.ok scPlus (fun vs H Q E h => ?_) (fun cdv A outer s H vs Q E hr h => ?_)
  · obtain ⟨a, b, p, q, n, m, rfl, _⟩ := h
    rfl
  obtain ⟨a, b, p, q, n, m, rfl, ha, hb, lp, lq, bp, bq, hn, z⟩ := h
  refine ⟨_, pss_one (ps_ret (pe_call G1 hr rfl m1 k1 b1 .nil pass0 (pa_cons
    (pe_op op_add (pe_op op_mulB (pe_ix ix_tup (pv 0) pe_int (fun _ _ => rfl)) (pe_ix ix_tup (pv 1) pe_int (fun _ _ => rfl))) (pe_op op_mulB (pe_ix ix_tup (pv 1) pe_int (fun _ _ => rfl)) (pe_ix ix_tup (pv 0) pe_int (fun _ _ => rfl))))
    (pa_cons (pe_op op_mulB (pe_ix ix_tup (pv 0) pe_int (fun _ _ => rfl)) (pe_ix ix_tup (pv 1) pe_int (fun _ _ => rfl))) pa_nil)))), ?_⟩
  refine rd_ix0 rfl ha (rd_ix1 rfl hb (rd_mulB bp.a bq.b (by omega) (by omega) (rd_ix0 rfl hb (rd_ix1 rfl ha (rd_mulB bq.a bp.b (by omega) (by omega) ⟨_, _, rfl, rfl, ?_⟩)))))
  refine rd_ix1 rfl ha (rd_ix1 rfl hb (rd_mulB bp.b bq.b (by omega) (by omega) ⟨_, _, n + m, rfl, Mq.mul_ne lp lq, bp.b.mul bq.b, by omega, z⟩))
abbrev sTimes : Stmt := top 13
theorem scTimes : FnScope ["one", "other"] ["one", "other"] (defScope sTimes) := ⟨rfl, rfl, rfl, by decide +kernel, rfl, by decide +kernel, by decide +kernel⟩
theorem ok_times {dV : Value} (F : FunD K "times" "times" sTimes dV f fd)
    (G1 : FnOk P w K mg base CX0 2 g1 gd1 ["top", "bottom"] spFrac) (b1 : Binds K gd1 ["top", "bottom"] []) (k1 : PySem.W.keepIn K (.ref g1) = true) (m1 : mg "fraction" = some (.ref g1)) :
    FnOk P w K mg base CX 3 f fd ["one", "other"] (spTwo K Mq.times) := by
  refine F.ok scTimes (fun vs H Q E h => ?_) (fun cdv A outer s H vs Q E hr h => ?_)
  · obtain ⟨a, b, p, q, n, m, rfl, _⟩ := h
    rfl
  obtain ⟨a, b, p, q, n, m, rfl, ha, hb, lp, lq, bp, bq, hn, z⟩ := h
  refine ⟨_, pss_one (ps_ret (pe_call G1 hr rfl m1 k1 b1 .nil pass0 (pa_cons
    (pe_op op_mulB (pe_ix ix_tup (pv 0) pe_int (fun _ _ => rfl)) (pe_ix ix_tup (pv 1) pe_int (fun _ _ => rfl)))
    (pa_cons (pe_op op_mulB (pe_ix ix_tup (pv 0) pe_int (fun _ _ => rfl)) (pe_ix ix_tup (pv 1) pe_int (fun _ _ => rfl))) pa_nil)))), ?_⟩
  refine rd_ix0 rfl ha (rd_ix0 rfl hb (rd_mulB bp.a bq.a (by omega) (by omega) ?_))
  refine rd_ix1 rfl ha (rd_ix1 rfl hb (rd_mulB bp.b bq.b (by omega) (by omega) ⟨_, _, n + m, rfl, Mq.mul_ne lp lq, bp.b.mul bq.b, by omega, z⟩))
abbrev sTotal : Stmt := top 14
theorem scTotal : FnScope ["some", "so_far", "one"] ["some"] (defScope sTotal) := ⟨rfl, rfl, rfl, by decide +kernel, rfl, by decide +kernel, by decide +kernel⟩
theorem ok_total {dV : Value} {aN : Addr} (F : FunD K "total" "total" sTotal dV f fd) (fN : ∀ H, Fq K H aN (0, 1)) (mNO : mg "NOUGHT" = some (.ref aN))
    (G2 : FnOk P w K mg base CX0 3 g2 gd2 ["one", "other"] (spTwo K Mq.plus)) (b2 : Binds K gd2 ["one", "other"] []) (k2 : PySem.W.keepIn K (.ref g2) = true) (m2 : mg "plus" = some (.ref g2)) :
    FnOk P w K mg base CX 4 f fd ["some"] (spTotW K) := by
  refine F.ok scTotal (fun vs H Q E h => ?_) (fun cdv A outer s H vs Q E hr h => ?_)
  · obtain ⟨a, xs, ps, w0, rfl, _⟩ := h
    rfl
  obtain ⟨a, xs, ps, w0, rfl, hS, hF, hP, hW, hn, z⟩ := h
  refine ⟨_, pss_cons (ps_set (i := 1) scTotal.nd rfl (Or.inl rfl) (pe_glob (v := .ref aN) rfl mNO rfl))
    (pss_cons (ps_for PassesOwn.never rfl (pi_list (pv 0)) (pg_name (i := 2) scTotal.nd rfl (Or.inl rfl)) (pss_one (ps_set (i := 1) scTotal.nd rfl (Or.inl rfl) (pe_call G2 hr rfl m2 k2 b2 .nil pass0 (pa_cons (pv 1) (pa_cons (pv 2) pa_nil))))))
    (pss_one (ps_ret (pv 1)))), ?_⟩
  have hl := hF.length
  refine ⟨_, rfl, a, rfl, ⟨_, hS⟩, ?_⟩
  refine for_list (xs := xs) (fun i σ H' => Same H H' ∧ ∃ r y, σ = [some (.ref a), some (.ref r), y] ∧ Fq K H' r (Mq.tot (ps.take i))) ⟨Same.refl H, aN, none, rfl, fN H⟩ (fun i σ H' _ h => h.1.seq hS) ?_ ?_
  · rintro i x σ H' hx ⟨sH, r, y, rfl, er⟩
    obtain ⟨ap, p, rfl, hp, fp⟩ := hF.get hx
    have hi : i < ps.length := (List.getElem?_eq_some_iff.mp hp).1
    have mem : p ∈ ps := List.mem_of_getElem? hp
    have pt : Mq.Pos (ps.take i) := fun f hf => hP f (List.mem_of_mem_take hf)
    obtain ⟨w', n, hw', bn, hle⟩ := hW.at hp
    have bt := hw'.tot pt
    refine ⟨_, rfl, _, rfl, r, ap, Mq.tot (ps.take i), p, _, n, rfl, er, sH.fq fp, (Mq.tot_low pt).pos, hP p mem, bt, bn, by omega, fun a1 H1 s1 e1 => ?_⟩
    refine ⟨sH.trans s1, a1, _, rfl, ?_⟩
    have ee : ps.take (i + 1) = ps.take i ++ [p] := by rw [List.take_add_one, hp]; rfl
    have et : Mq.tot (ps.take (i + 1)) = Mq.plus (Mq.tot (ps.take i)) p := by
      rw [ee]
      unfold Mq.tot
      rw [List.foldl_append]
      rfl
    rw [et]
    exact Fq.of e1
  · rintro σ H' ⟨sH, r, y, rfl, er⟩
    refine ⟨_, rfl, ?_⟩
    refine z r H' sH ?_
    rw [hl, List.take_length] at er
    exact er
theorem nd_one_bottom : (["one", "bottom"] : List Str).Nodup := by decide +kernel
abbrev sIW : Stmt := top 17
theorem scIW : FnScope ["some", "bottom", "one"] ["some"] (defScope sIW) := ⟨rfl, rfl, rfl, by decide +kernel, rfl, by decide +kernel, by decide +kernel⟩
theorem ok_iw {dV : Value} (F : FunD K "in_wholes" "in_wholes" sIW dV f fd)
    (G1 : FnOk P w K mg base CX0 1 g1 gd1 ["one", "other"] spGc) (b1 : Binds K gd1 ["one", "other"] []) (k1 : PySem.W.keepIn K (.ref g1) = true) (m1 : mg "greatest_common" = some (.ref g1)) :
    FnOk P w K mg base CX 2 f fd ["some"] (spIWd K) := by
  refine F.ok scIW (fun vs H Q E h => ?_) (fun cdv A outer s H vs Q E hr h => ?_)
  · obtain ⟨a, xs, ps, n, rfl, hS, hF, hP, hB, h100, hn, q⟩ := h
    rfl
  obtain ⟨a, xs, ps, n, rfl, hS, hF, hP, hB, h100, hn, q⟩ := h
  refine ⟨_, (pss_cons (ps_set (i := 1) scIW.nd rfl (Or.inr rfl) pe_int)
    (pss_cons (ps_for PassesOwn.never rfl (pi_list (pv 0)) (pg_name (i := 2) scIW.nd rfl (Or.inl rfl))
      (pss_one (ps_set (i := 1) scIW.nd rfl (Or.inr rfl) (pe_op op_mulB (pe_op op_fdivB (pv 1) (pe_call G1 hr rfl m1 k1 b1 .nil pass0 (pa_cons (pv 1) (pa_cons (pe_ix ix_tup (pv 2) pe_int (fun _ _ => rfl)) pa_nil)))) (pe_ix ix_tup (pv 2) pe_int (fun _ _ => rfl))))))
    (pss_one (ps_ret (pe_tup (pa_cons (pe_comp (nl := 1) (fr := [1]) (Nc := ["one", "bottom"]) (cl := [("bottom", s.heap.objs.size + 1)]) rfl ⟨rfl, rfl, by decide +kernel, by decide +kernel, fun x c h => h, has_of rfl, rfl, fun i n h => match i, h with | 0, h => by cases h; exact ⟨1, rfl, rfl, rfl, rfl, .inl rfl⟩ | k + 1, h => by rw [show 1 + (k + 1) = k + 2 by omega] at h; cases h⟩
        (pi_list (pv 0)) (fun C s3 H3 fp pins => (pg_name (i := 0) nd_one_bottom rfl (Or.inl rfl))) (fun C s3 H3 fp pins => pif_nil)
        (fun C s3 H3 fp pins => (pe_op op_mulB (pe_ix (ix_tupK (K := K) rfl) (pv 0) pe_int (fun _ _ => rfl)) (pe_op op_fdivB (pv 1) (pe_ix (ix_tupK (K := K) rfl) (pv 0) pe_int (fun _ _ => rfl)))))) (pa_cons (pv 1) pa_nil))))))), ?_⟩
  have lx := hF.length
  refine ⟨_, rfl, a, rfl, ⟨_, hS⟩, ?_⟩
  refine for_list (xs := xs) (fun i σ H' => H' = H ∧ i ≤ ps.length ∧ ∃ z, σ = [some (.ref a), some (.int (Mq.lcmB (ps.take i))), z]) ⟨rfl, Nat.zero_le _, none, rfl⟩ (fun i σ H' _ h => by rw [h.1]; exact hS) ?_ ?_
  · rintro i x σ H' hx ⟨rfl, hi, z, rfl⟩
    obtain ⟨u, p, rfl, ep, fu⟩ := hF.get hx
    have hi' : i < ps.length := (List.getElem?_eq_some_iff.mp ep).1
    obtain ⟨f1, f2, _⟩ := Mq.lcmB_facts hP hB i hi
    have mono := Nat.mul_le_mul_left n hi
    have hp := hP p (List.mem_of_getElem? ep)
    have pb := (hB p (List.mem_of_getElem? ep)).b
    have g0 : Mq.gc (Mq.lcmB (ps.take i)) p.2 ≠ 0 := by have := Mq.gc_pos (a := Mq.lcmB (ps.take i)) (show p.2 ≠ 0 by omega); omega
    have gb : Mq.B n (Mq.gc (Mq.lcmB (ps.take i)) p.2) := by
      have := Mq.dvr_le (t := Mq.lcmB (ps.take i)) (show p.2 ≠ 0 by omega)
      rw [dvr_pos (by omega)] at this
      exact pb.le this
    have qb : Mq.B (1 + n * i) (Int.fdiv (Mq.lcmB (ps.take i)) (Mq.gc (Mq.lcmB (ps.take i)) p.2)) := by
      have d1 : Mq.gc (Mq.lcmB (ps.take i)) p.2 ∣ Mq.lcmB (ps.take i) := by unfold Mq.gc; exact Int.gcd_dvd_left ..
      obtain ⟨k, hk⟩ := d1
      have := Mq.natAbs_fdiv_le g0 hk
      rw [Mq.fdiv_exact g0 hk]
      exact f2.le this
    refine ⟨_, rfl, _, rfl, rd_ix1 rfl fu ⟨_, _, rfl, rd_fdivB g0 gb (by omega) (rd_ix1 rfl fu (rd_mulB qb pb (by omega) (by omega) ?_))⟩⟩
    refine ⟨rfl, hi', some (.ref u), ?_⟩
    rw [Mq.lcmB_take ep]
    rfl
  rintro σ H' ⟨rfl, _, z, rfl⟩
  rw [lx, List.take_length]
  obtain ⟨f1, f2, f3⟩ := Mq.lcmB_facts hP hB ps.length (Nat.le_refl _)
  rw [List.take_length] at f1 f2 f3
  refine ⟨_, rfl, a, rfl, ⟨_, hS⟩, fun D hD => ?_⟩
  have sD := same_new hD (.lst [])
  refine comp_list (xs := xs) (fun i zs H1 => Same H' H1 ∧ H1 D = some (.lst zs) ∧ zs = ((ps.take i).map (Mq.iwOf (Mq.lcmB ps))).map V.int) ⟨sD, upd_same, rfl⟩ (fun i zs H1 h => h.2.1) (fun i zs H1 _ h => h.1.seq hS) ?_ ?_
  · rintro i zs x H1 hx ⟨s1, e1, rfl⟩ C hC
    obtain ⟨u, p, rfl, ep, fu⟩ := hF.get hx
    have hi' : i < ps.length := (List.getElem?_eq_some_iff.mp ep).1
    have mem := List.mem_of_getElem? ep
    have hp := hP p mem
    obtain ⟨k, hk⟩ := f3 p mem
    have fu1 := s1.fq fu
    have kb : Mq.B (1 + n * ps.length) (Int.fdiv (Mq.lcmB ps) p.2) := by
      have e := Mq.fdiv_exact (show p.2 ≠ 0 by omega) (show Mq.lcmB ps = p.2 * k by rw [hk, Int.mul_comm])
      rw [e]
      refine f2.le ?_
      rw [hk, Int.natAbs_mul]
      exact Nat.le_mul_of_pos_right _ (by omega)
    refine ⟨keep1.1, keep1.2, iteT ?_⟩
    refine rd_ix0 rfl fu1 ⟨_, rfl, rd_ix1 rfl fu1 (rd_fdivB (show p.2 ≠ 0 by omega) (hB p mem).b (by omega) (rd_mulB (hB p mem).a kb (by omega) (by omega) ?_))⟩
    refine ⟨e1, small1000 (by rw [List.length_map, List.length_map, List.length_take]; omega), hC _ _ ⟨s1.change hD, upd_same, ?_⟩⟩
    rw [List.take_add_one, ep, List.map_append, List.map_append]; rfl
  rintro zs H1 ⟨s1, e1, rfl⟩
  rw [lx, List.take_length] at e1
  refine ⟨_, rfl, by show 2 ≤ sizeLine; decide, fun t ht => ?_⟩
  have s2 := same_new ht (.tup [.ref D, .int (Mq.lcmB ps)])
  exact q t D _ (s1.trans s2) hD (SqT.of upd_same) (s2 _ _ e1)
theorem nd_here_above_own_other_divisor : (["here", "above", "own", "other", "divisor"] : List Str).Nodup := by decide +kernel
abbrev sClr : Stmt := top 22
theorem scClr : FnScope ["row", "upper", "column", "divisor", "own", "other"] ["row", "upper", "column", "divisor"] (defScope sClr) := ⟨rfl, rfl, rfl, by decide +kernel, rfl, by decide +kernel, by decide +kernel⟩
theorem ok_clr {dV : Value} (F : FunD K "cleared" "cleared" sClr dV f fd)
    (mz : mg "zip" = none) :
    FnOk P w K mg base CX 1 f fd ["row", "upper", "column", "divisor"] (spCleared K) := by
  refine F.ok scClr (fun vs H Q E h => ?_) (fun cdv A outer s H vs Q E hr h => ?_)
  · obtain ⟨u, v, row, upper, c, n, dv, rfl, hu, hv, hl, h100, hc, hd, b1, b2, bd, hn, q⟩ := h
    rfl
  obtain ⟨u, v, row, upper, c, n, dv, rfl, hu, hv, hl, h100, hc, hd, b1, b2, bd, hn, q⟩ := h
  refine ⟨_, (pss_cons (ps_set (i := 4) scClr.nd rfl (Or.inr rfl) (pe_ix ix_list (pv 1) (pv 2) (fun _ _ => rfl)))
    (pss_cons (ps_set (i := 5) scClr.nd rfl (Or.inr rfl) (pe_ix ix_list (pv 0) (pv 2) (fun _ _ => rfl)))
    (pss_one (ps_ret (pe_comp (nl := 2) (fr := [4, 5, 3]) (Nc := ["here", "above", "own", "other", "divisor"]) (cl := [("own", s.heap.objs.size + 2), ("other", s.heap.objs.size + 3), ("divisor", s.heap.objs.size + 1)]) (g := (gTup K 2 (gCons (gName 0) (gCons (gName 1) gNil)))) rfl ⟨rfl, rfl, by decide +kernel, by decide +kernel, (sub_cons rfl (sub_cons rfl (sub_cons rfl (sub_nil)))), has_of rfl, rfl, fun i n h => match i, h with | 0, h => by cases h; exact ⟨4, rfl, rfl, rfl, rfl, .inl rfl⟩ | 1, h => by cases h; exact ⟨5, rfl, rfl, rfl, rfl, .inl rfl⟩ | 2, h => by cases h; exact ⟨3, rfl, rfl, rfl, rfl, .inl rfl⟩ | k + 3, h => by rw [show 2 + (k + 3) = k + 5 by omega] at h; cases h⟩
        (pi_zip rfl mz rfl (pa_cons (pv 0) (pa_cons (pv 1) pa_nil))) (fun C s3 H3 fp pins => (pg_tup rfl (pgs_cons (pg_name (i := 0) nd_here_above_own_other_divisor rfl (Or.inl rfl)) (pgs_cons (pg_name (i := 1) nd_here_above_own_other_divisor rfl (Or.inl rfl)) pgs_nil)))) (fun C s3 H3 fp pins => pif_nil)
        (fun C s3 H3 fp pins => (pe_op op_fdivB (pe_op op_sub (pe_op op_mulB (pv 2) (pv 0)) (pe_op op_mulB (pv 3) (pv 1))) (pv 4)))))))), ?_⟩
  have e1 := atI_nat (map_get (l := upper) (i := c) (by omega))
  have e2 := atI_nat (map_get (l := row) (i := c) (by omega))
  refine ⟨_, rfl, _, rfl, v, _, _, _, rfl, rfl, hv, e1, ?_⟩
  refine ⟨_, rfl, _, rfl, u, _, _, _, rfl, rfl, hu, e2, ?_⟩
  refine ⟨_, rfl, _, rfl, u, v, rfl, ⟨_, hu⟩, ⟨_, hv⟩, fun D hD => ?_⟩
  have sD := same_new hD (.lst [])
  refine comp_zip (xs := row.map V.int) (ys := upper.map V.int) (fun i zs H' => Same H H' ∧ H' D = some (.lst zs) ∧ zs = ((Mq.clrRow upper row c dv).take i).map V.int) ⟨sD, upd_same, rfl⟩ (fun i zs H' h => h.2.1) (fun i zs H' _ h => ⟨h.1.seq hu, h.1.seq hv⟩) ?_ ?_
  · rintro i zs x y H1 T1 ex ey ⟨s1, e1', rfl⟩ hT C hC
    have hi : i < row.length := by have := (List.getElem?_eq_some_iff.mp ex).1; simpa using this
    have ex' : x = .int (row.getD i 0) := by rw [map_get hi] at ex; cases ex; rfl
    have ey' : y = .int (upper.getD i 0) := by rw [map_get (by omega)] at ey; cases ey; rfl
    subst ex' ey'
    have sT := same_new hT (.tup [.int (row.getD i 0), .int (upper.getD i 0)])
    refine ⟨T1, _, rfl, SqT.of upd_same, rfl, _, _, rfl, _, _, rfl, rfl, keep2.1, keep2.2, iteT ?_⟩
    have mm : Mq.B (n + n + 1) (upper.getD c 0 * row.getD i 0 - row.getD c 0 * upper.getD i 0) := Mq.B.sub ((b2 c).mul (b1 i)) ((b1 c).mul (b2 i))
    refine ⟨_, rfl, _, rfl, rd_mulB (b2 c) (b1 i) (by omega) (by omega) ⟨_, rfl, _, rfl, rd_mulB (b1 c) (b2 i) (by omega) (by omega) ⟨_, _, rfl, rfl, _, rfl, rd_fdivB hd bd (by omega) ?_⟩⟩⟩
    have ll : (Mq.clrRow upper row c dv).length = row.length := by unfold Mq.clrRow; rw [List.length_zipWith]; omega
    have eA := sT _ _ e1'
    refine ⟨eA, small1000 (by rw [List.length_map, List.length_take]; omega), hC _ _ ⟨(s1.trans sT).change hD, upd_same, ?_⟩⟩
    have eg : (Mq.clrRow upper row c dv)[i]? = some (Int.fdiv (upper.getD c 0 * row.getD i 0 - row.getD c 0 * upper.getD i 0) dv) := by
      unfold Mq.clrRow
      rw [List.getElem?_zipWith, Mq.get_some hi, Mq.get_some (show i < upper.length by omega)]
    rw [List.take_add_one, eg, List.map_append]; rfl
  rintro zs H1 ⟨s1, e1', rfl⟩
  have ll : (Mq.clrRow upper row c dv).length = row.length := by unfold Mq.clrRow; rw [List.length_zipWith]; omega
  rw [List.length_map, List.length_map, List.take_of_length_le (by rw [ll]; omega)] at e1'
  exact q D H1 s1 hD e1'
theorem nd_place_row_upper_rank_divisor_column : (["place", "row", "upper", "rank", "divisor", "column"] : List Str).Nodup := by decide +kernel
abbrev sClrRows : Stmt := top 21
theorem scClrRows : FnScope ["rows", "rank", "column", "divisor", "upper"] ["rows", "rank", "column", "divisor"] (defScope sClrRows) := ⟨rfl, rfl, rfl, by decide +kernel, rfl, by decide +kernel, by decide +kernel⟩
theorem ok_clrrows {dV : Value} (F : FunD K "cleared_rows" "cleared_rows" sClrRows dV f fd)
    (men : mg "enumerate" = none)
    (G1 : FnOk P w K mg base CX0 1 g1 gd1 ["row", "upper", "column", "divisor"] (spCleared K)) (b1 : Binds K gd1 ["row", "upper", "column", "divisor"] []) (k1 : PySem.W.keepIn K (.ref g1) = true) (m1 : mg "cleared" = some (.ref g1)) :
    FnOk P w K mg base CX 2 f fd ["rows", "rank", "column", "divisor"] (spClrRows K) := by
  refine F.ok scClrRows (fun vs H Q E h => ?_) (fun cdv A outer s H vs Q E hr h => ?_)
  · obtain ⟨l, D0, zs, R, r, c, m, w', n, dv, rfl, hS, hI, hm, hw, hc, hw100, hr', h100, hd, hB, bd, hn, q⟩ := h
    rfl
  obtain ⟨l, D0, zs, R, r, c, m, w', n, dv, rfl, hS, hI, hm, hw, hc, hw100, hr', h100, hd, hB, bd, hn, q⟩ := h
  refine ⟨_, (pss_cons (ps_set (i := 4) scClrRows.nd rfl (Or.inr rfl) (pe_ix ix_list (pv 0) (pv 1) (fun _ _ => rfl)))
    (pss_one (ps_ret (pe_comp (nl := 2) (fr := [4, 1, 3, 2]) (Nc := ["place", "row", "upper", "rank", "divisor", "column"]) (cl := [("upper", s.heap.objs.size + 4), ("rank", s.heap.objs.size + 1), ("divisor", s.heap.objs.size + 3), ("column", s.heap.objs.size + 2)]) (g := (gTup K 2 (gCons (gName 0) (gCons (gName 1) gNil)))) rfl ⟨rfl, rfl, by decide +kernel, by decide +kernel, (sub_cons rfl (sub_cons rfl (sub_cons rfl (sub_cons rfl (sub_nil))))), has_of rfl, rfl, fun i n h => match i, h with | 0, h => by cases h; exact ⟨4, rfl, rfl, rfl, rfl, .inl rfl⟩ | 1, h => by cases h; exact ⟨1, rfl, rfl, rfl, rfl, .inl rfl⟩ | 2, h => by cases h; exact ⟨3, rfl, rfl, rfl, rfl, .inl rfl⟩ | 3, h => by cases h; exact ⟨2, rfl, rfl, rfl, rfl, .inl rfl⟩ | k + 4, h => by rw [show 2 + (k + 4) = k + 6 by omega] at h; cases h⟩
        (pi_enum rfl men rfl (pa_cons (pv 0) pa_nil)) (fun C s3 H3 fp pins => (pg_tup rfl (pgs_cons (pg_name (i := 0) nd_place_row_upper_rank_divisor_column rfl (Or.inl rfl)) (pgs_cons (pg_name (i := 1) nd_place_row_upper_rank_divisor_column rfl (Or.inl rfl)) pgs_nil)))) (fun C s3 H3 fp pins => pif_nil)
        (fun C s3 H3 fp pins => (pe_ifExp (pt_cmpR op_eq (pv 0) (pv 3) (nomark _)) (pv 1) (pe_call G1 hr rfl m1 k1 b1 .nil pass0 (pa_cons (pv 1) (pa_cons (pv 2) (pa_cons (pv 5) (pa_cons (pv 4) pa_nil))))))))))), ?_⟩
  have lz := hI.length
  obtain ⟨v, ev, nv, hv⟩ := hI.at (i := r) (by omega)
  refine ⟨_, rfl, _, rfl, l, zs, _, _, rfl, rfl, hS, atI_nat ev, ?_⟩
  refine ⟨_, rfl, l, rfl, ⟨_, hS⟩, fun D hD => ?_⟩
  have sD := same_new hD (.lst [])
  have ll := Mq.clr_len R r c dv
  refine comp_enum (xs := zs) (fun i ys H' => Same H H' ∧ H' D = some (.lst ys) ∧ Imx D H' ys ((Mq.clrRows R r c dv).take i)) ⟨sD, upd_same, .nil⟩ (fun i ys H' h => h.2.1) (fun i ys H' _ h => h.1.seq hS) ?_ ?_
  · rintro i ys x H1 T1 ex ⟨s1, e1, I1⟩ hT C hC
    have hi : i < m := by have := (List.getElem?_eq_some_iff.mp ex).1; omega
    obtain ⟨u, eu, nu, hu⟩ := hI.at (i := i) (by omega)
    have exu : x = .ref u := by rw [eu] at ex; cases ex; rfl
    subst exu
    have lI := I1.length
    rw [List.length_take] at lI
    have cg := Mq.clr_get (R := R) (i := i) (by omega) r c dv
    have cs : (Mq.clrRows R r c dv).take (i + 1) = (Mq.clrRows R r c dv).take i ++ [(Mq.clrRows R r c dv).getD i []] := by
      rw [List.take_add_one, List.getD_eq_getElem?_getD, List.getElem?_eq_getElem (show i < (Mq.clrRows R r c dv).length by omega)]; rfl
    have sT := same_new hT (.tup [.int (i : Int), .ref u])
    have uD : ∀ {x : Addr} {o : HO}, H x = some o → x ≠ D := fun h z => by rw [z, hD] at h; cases h
    refine ⟨T1, _, rfl, SqT.of upd_same, rfl, _, _, rfl, _, _, rfl, rfl, keep2.1, keep2.2, iteT ?_⟩
    generalize upd H1 T1 (.tup [.int (i : Int), .ref u]) = H2 at sT ⊢
    have sA := s1.trans sT
    have eA := sT _ _ e1
    refine ⟨_, rfl, _, rfl, rfl, _, rfl, ite2 (fun e => ?_) (fun e => ?_)⟩
    · have ei : i = r := by simp at e; omega
      refine ⟨_, rfl, eA, small1000 (by omega), hC _ _ ⟨sA.change hD, upd_same, ?_⟩⟩
      rw [cs, cg, if_pos ei]
      exact ((I1.same sT).app (.cons (uD hu) (sA _ _ hu) .nil)).upd
    · have ei : i ≠ r := by simp at e; omega
      refine ⟨_, rfl, _, rfl, _, rfl, _, rfl, u, v, R.getD i [], R.getD r [], c, n, dv, rfl, SqL.of (sA _ _ hu), SqL.of (sA _ _ hv), by rw [hw i hi, hw r hr'], by rw [hw i hi]; exact hw100, by rw [hw i hi]; exact hc, hd, fun j => hB i j, fun j => hB r j, bd, hn, fun l3 H3 s3 n3 e3 => ?_⟩
      have eB := s3 _ _ eA
      have n3' : l3 ≠ D := fun z => by rw [z, eA] at n3; cases n3
      refine ⟨eB, small1000 (by omega), hC _ _ ⟨(sA.trans s3).change hD, upd_same, ?_⟩⟩
      rw [cs, cg, if_neg ei]
      exact ((I1.same (sT.trans s3)).app (.cons n3' e3 .nil)).upd
  rintro ys H1 ⟨s1, e1, I1⟩
  rw [lz, List.take_of_length_le (by omega)] at I1
  exact q D ys H1 s1 hD e1 I1
theorem nd_top_pivot : (["top", "pivot"] : List Str).Nodup := by decide +kernel
abbrev sOverP : Stmt := top 18
theorem scOverP : FnScope ["tops", "pivot"] ["tops", "pivot"] (defScope sOverP) := ⟨rfl, rfl, rfl, by decide +kernel, rfl, by decide +kernel, by decide +kernel⟩
theorem ok_overp {dV : Value} (F : FunD K "over_pivot" "over_pivot" sOverP dV f fd)
    (G1 : FnOk P w K mg base CX0 2 g1 gd1 ["top", "bottom"] spFrac) (b1 : Binds K gd1 ["top", "bottom"] []) (k1 : PySem.W.keepIn K (.ref g1) = true) (m1 : mg "fraction" = some (.ref g1)) :
    FnOk P w K mg base CX 3 f fd ["tops", "pivot"] (spOver K) := by
  refine F.ok scOverP (fun vs H Q E h => ?_) (fun cdv A outer s H vs Q E hr h => ?_)
  · obtain ⟨l, ts, pq, n, rfl, hS, h100, h0, bP, hn, q⟩ := h
    rfl
  obtain ⟨l, ts, pq, n, rfl, hS, h100, h0, bP, hn, q⟩ := h
  refine ⟨_, (pss_one (ps_ret (pe_comp (nl := 1) (fr := [1]) (Nc := ["top", "pivot"]) (cl := [("pivot", s.heap.objs.size + 1)]) rfl ⟨rfl, rfl, by decide +kernel, by decide +kernel, fun x c h => h, has_of rfl, rfl, fun i n h => match i, h with | 0, h => by cases h; exact ⟨1, rfl, rfl, rfl, rfl, .inl rfl⟩ | k + 1, h => by rw [show 1 + (k + 1) = k + 2 by omega] at h; cases h⟩
        (pi_list (pv 0)) (fun C s3 H3 fp pins => (pg_name (i := 0) nd_top_pivot rfl (Or.inl rfl))) (fun C s3 H3 fp pins => pif_nil)
        (fun C s3 H3 fp pins => (pe_call G1 hr rfl m1 k1 b1 .nil pass0 (pa_cons (pv 0) (pa_cons (pv 1) pa_nil))))))), ?_⟩
  refine ⟨_, rfl, l, rfl, ⟨_, hS⟩, fun D hD => ?_⟩
  have sD := same_new hD (.lst [])
  refine comp_list (xs := ts.map V.int) (fun i zs H' => Same H H' ∧ H' D = some (.lst zs) ∧ Fqs K H' zs ((ts.map fun t => Mq.red t pq).take i)) ⟨sD, upd_same, .nil⟩ (fun i zs H' h => h.2.1) (fun i zs H' _ h => h.1.seq hS) ?_ ?_
  · rintro i zs x H1 hx ⟨s1, e1, F1⟩ C hC
    have hi : i < ts.length := by have := (List.getElem?_eq_some_iff.mp hx).1; simpa using this
    have ex : x = .int (ts.getD i 0) := by rw [map_get hi] at hx; cases hx; rfl
    subst ex
    have lz := F1.length
    rw [List.length_take, List.length_map] at lz
    refine ⟨keep1.1, keep1.2, iteT ?_⟩
    refine ⟨_, rfl, _, rfl, _, _, n, rfl, h0, bP, by omega, fun r H2 s2 e2 => ?_⟩
    have eA := s2 _ _ e1
    refine ⟨eA, small1000 (by omega), hC _ _ ⟨(s1.trans s2).change hD, upd_same, ?_⟩⟩
    rw [List.take_add_one, List.getElem?_map, Mq.get_some hi]
    exact ((F1.same s2).app (.cons (Fq.of e2) .nil)).upd eA
  rintro zs H1 ⟨s1, e1, F1⟩
  rw [List.length_map, List.take_of_length_le (by simp)] at F1
  exact q D zs H1 s1 hD e1 F1
theorem call_list_ofK {X : Cx} {K : PySem.W.Frag} (h : X.K = K) : CallR X (.type "list") (fun xs H Q => ∃ p ys, xs = [.ref p] ∧ (SqL K H p ys ∨ SqT K H p ys) ∧ ∀ l, H l = none → Q (.ref l) (upd H l (.lst ys))) := by subst h; exact call_list_of
theorem nd_line : (["line"] : List Str).Nodup := by decide +kernel
abbrev sTMat : Stmt := inClass (top 24) 2
theorem scTMat : FnScope ["self"] ["self"] (defScope sTMat) := ⟨rfl, rfl, rfl, by decide +kernel, rfl, by decide +kernel, by decide +kernel⟩
theorem ok_tmat {dV : Value} {CT : Addr} (F : FunD K "matrix" "Table.matrix" sTMat dV f fd) (TBx : TB K mg CT)
    (mli : mg "list" = none) : FnOk P w K mg base CX 1 f fd ["self"] (spTMat CT K) := by
  refine F.ok scTMat (fun vs H Q E h => ?_) (fun cdv A outer s H vs Q E hr h => ?_)
  · obtain ⟨t, es, X, cs, rfl, ⟨⟨dx, p, l, a, us, ys, ht, hp, hU, hL0, ha, hC⟩⟩, h100, q⟩ := h
    rfl
  obtain ⟨t, es, X, cs, rfl, ⟨⟨dx, p, l, a, us, ys, ht, hp, hU, hL0, ha, hC⟩⟩, h100, q⟩ := h
  refine ⟨_, (pss_one (ps_ret (pe_comp (nl := 1) (fr := []) (Nc := ["line"]) (cl := []) rfl ⟨rfl, rfl, by decide +kernel, by decide +kernel, fun x c h => (by cases h), has_of rfl, rfl, fun i n h => (by simp at h)⟩
        (pi_list (pe_fld (pv 0) rfl)) (fun C s3 H3 fp pins => (pg_name (i := 0) nd_line rfl (Or.inl rfl))) (fun C s3 H3 fp pins => pif_nil)
        (fun C s3 H3 fp pins => (pe_callTy (call_list_ofK (K := K) rfl) rfl mli PyProof.Rows.boot_list (pa_cons (pv 0) pa_nil)))))), ?_⟩
  refine ⟨_, rfl, t, CT, _, _, _, rfl, ht, TBx.cl, TBx.nL, tflds_l _ _ _, l, rfl, ⟨_, hU⟩, fun D hD => ?_⟩
  have sD := same_new hD (.lst [])
  refine comp_list (xs := us) (fun i zs H' => Same H H' ∧ H' D = some (.lst zs) ∧ LnH K H' zs (X.take i) ∧ ∀ x ∈ zs, x ≠ .ref D) ⟨sD, upd_same, by rw [List.take_zero]; exact .nil, fun x hx => by cases hx⟩ (fun i zs H' h => h.2.1) (fun i zs H' _ h => h.1.seq hU) ?_ ?_
  · rintro i zs x H2 hx ⟨s2, e2, G2, n2⟩ C' hC'
    have hi : i < X.length := by have := (List.getElem?_eq_some_iff.mp hx).1; have := hL0.l; omega
    have hc : X[i]? = some X[i] := List.getElem?_eq_getElem hi
    obtain ⟨ra, rx, rfl, era, Sra⟩ := (hL0.same s2).r i x _ hx hc
    have lz := G2.l
    rw [List.length_take] at lz
    refine ⟨keep1.1, keep1.2, iteT ?_⟩
    refine ⟨_, rfl, ra, rx, rfl, .inl era, fun L hL => ?_⟩
    have sL := same_new hL (.lst rx)
    have eL : upd H2 L (.lst rx) L = some (.lst rx) := upd_same
    generalize upd H2 L (.lst rx) = H3' at sL eL ⊢
    have e23 := sL _ _ e2
    have nLK : L ≠ D := Ne.symm (ne_of_none e2 hL)
    refine ⟨e23, small1000 (by omega), hC' _ _ ⟨(s2.trans sL).change hD, upd_same, ?_, fun y hy => ?_⟩⟩
    · rw [List.take_add_one, hc]
      refine ((G2.same sL).snoc eL (Sra.same sL)).upd e23 fun y hy => ?_
      rcases List.mem_append.mp hy with z | z
      · exact n2 y z
      · have : y = .ref L := by simpa using z
        rw [this]; exact fun z => nLK (by injection z)
    · rcases List.mem_append.mp hy with z | z
      · exact n2 y z
      · have : y = .ref L := by simpa using z
        rw [this]; exact fun z => nLK (by injection z)
  rintro zs HZ ⟨sZ, eZ, GZ, nZ⟩
  rw [hL0.l, List.take_length] at GZ
  exact q D zs HZ sZ eZ GZ
abbrev sTEnds : Stmt := inClass (top 24) 1
theorem scTEnds : FnScope ["self"] ["self"] (defScope sTEnds) := ⟨rfl, rfl, rfl, by decide +kernel, rfl, by decide +kernel, by decide +kernel⟩
theorem ok_tends {dV : Value} {CT : Addr} (F : FunD K "ends" "Table.ends" sTEnds dV f fd) (TBx : TB K mg CT)
    (mli : mg "list" = none) : FnOk P w K mg base CX 1 f fd ["self"] (spTEnds CT K) := by
  refine F.ok scTEnds (fun vs H Q E h => ?_) (fun cdv A outer s H vs Q E hr h => ?_)
  · obtain ⟨t, es, X, cs, rfl, ⟨⟨dx, p, l, a, us, ys, ht, hp, hU, hL0, ha, hC⟩⟩, q⟩ := h
    rfl
  obtain ⟨t, es, X, cs, rfl, ⟨⟨dx, p, l, a, us, ys, ht, hp, hU, hL0, ha, hC⟩⟩, q⟩ := h
  refine ⟨_, (pss_one (ps_ret (pe_callTy call_list_of rfl mli PyProof.Rows.boot_list (pa_cons (pe_fld (pv 0) rfl) pa_nil)))), ?_⟩
  refine ⟨_, rfl, t, CT, _, _, _, rfl, ht, TBx.cl, TBx.nP, tflds_p _ _ _, p, _, rfl, .inl hp, fun a' ha' => ?_⟩
  exact q a' _ (same_new ha' _) ha' upd_same
abbrev sTComes : Stmt := inClass (top 24) 3
theorem scTComes : FnScope ["self"] ["self"] (defScope sTComes) := ⟨rfl, rfl, rfl, by decide +kernel, rfl, by decide +kernel, by decide +kernel⟩
theorem ok_tcomes {dV : Value} {CT : Addr} (F : FunD K "comes" "Table.comes" sTComes dV f fd) (TBx : TB K mg CT)
    (mli : mg "list" = none) : FnOk P w K mg base CX 1 f fd ["self"] (spTComes CT K) := by
  refine F.ok scTComes (fun vs H Q E h => ?_) (fun cdv A outer s H vs Q E hr h => ?_)
  · obtain ⟨t, es, X, cs, rfl, ⟨⟨dx, p, l, a, us, ys, ht, hp, hU, hL0, ha, hC⟩⟩, q⟩ := h
    rfl
  obtain ⟨t, es, X, cs, rfl, ⟨⟨dx, p, l, a, us, ys, ht, hp, hU, hL0, ha, hC⟩⟩, q⟩ := h
  refine ⟨_, (pss_one (ps_ret (pe_callTy call_list_of rfl mli PyProof.Rows.boot_list (pa_cons (pe_fld (pv 0) rfl) pa_nil)))), ?_⟩
  refine ⟨_, rfl, t, CT, _, _, _, rfl, ht, TBx.cl, TBx.nA, tflds_a _ _ _, a, _, rfl, .inl ha, fun a' ha' => ?_⟩
  have sa := same_new ha' (.lst ys)
  exact q a' _ _ sa upd_same (hC.same sa)
abbrev sTInit : Stmt := inClass (top 24) 0
theorem scTInit : FnScope ["self", "ends", "matrix", "comes"] ["self", "ends", "matrix", "comes"] (defScope sTInit) := ⟨rfl, rfl, rfl, by decide +kernel, rfl, by decide +kernel, by decide +kernel⟩
theorem ok_tinit {dV : Value} {CT : Addr} (F : FunD K "__init__" "Table.__init__" sTInit dV f fd) (TBx : TB K mg CT)
    (mli : mg "list" = none) : FnOk P w K mg base CX 1 f fd ["self", "ends", "matrix", "comes"] (spTInit CT K) := by
  refine F.ok scTInit (fun vs H Q E h => ?_) (fun cdv A outer s H vs Q E hr h => ?_)
  · obtain ⟨t, dx, e, g, c, es, us, ys, X, cs, rfl, ht, hE, hU, hL0, h100, hC, hF, q⟩ := h
    rfl
  obtain ⟨t, dx, e, g, c, es, us, ys, X, cs, rfl, ht, hE, hU, hL0, h100, hC, hF, q⟩ := h
  refine ⟨_, (pss_cons (ps_fld (pv 0) (pe_callTy call_list_of rfl mli PyProof.Rows.boot_list (pa_cons (pv 1) pa_nil)) rfl)
    (pss_cons (ps_fld (pv 0) (pe_comp (nl := 1) (fr := []) (Nc := ["line"]) (cl := []) rfl ⟨rfl, rfl, by decide +kernel, by decide +kernel, fun x c h => (by cases h), has_of rfl, rfl, fun i n h => (by simp at h)⟩
        (pi_list (pv 2)) (fun C s3 H3 fp pins => (pg_name (i := 0) nd_line rfl (Or.inl rfl))) (fun C s3 H3 fp pins => pif_nil)
        (fun C s3 H3 fp pins => (pe_callTy (call_list_ofK (K := K) rfl) rfl mli PyProof.Rows.boot_list (pa_cons (pv 0) pa_nil)))) rfl)
    (pss_one (ps_fld (pv 0) (pe_callTy call_list_of rfl mli PyProof.Rows.boot_list (pa_cons (pv 3) pa_nil)) rfl)))), ?_⟩
  refine ⟨_, rfl, e, _, rfl, .inl hE, fun p hp => ?_⟩
  have ntp : t ≠ p := ne_of_none ht hp
  have s1 := same_new hp (.lst (es.map V.int))
  have ep : upd H p (.lst (es.map V.int)) p = some (.lst (es.map V.int)) := upd_same
  generalize upd H p (.lst (es.map V.int)) = H1 at s1 ep ⊢
  refine ⟨_, rfl, t, CT, dx, [], rfl, s1 _ _ ht, TBx.cl, TBx.nP, (by show 0 < 1000; decide), ?_⟩
  have x1 : SameX t H (upd H1 t (.ins CT dx (putF "places" (.ref p) []))) := fun b o h nb => by rw [upd_ne nb]; exact s1 _ _ h
  have et1 : upd H1 t (.ins CT dx (putF "places" (.ref p) [])) t = some (.ins CT dx (putF "places" (.ref p) [])) := upd_same
  have ep1 : upd H1 t (.ins CT dx (putF "places" (.ref p) [])) p = some (.lst (es.map V.int)) := by rw [upd_ne (Ne.symm ntp)]; exact ep
  generalize upd H1 t (.ins CT dx (putF "places" (.ref p) [])) = H2 at x1 et1 ep1 ⊢
  have hU2 := SameX.seqI ht x1 hU
  have hL2 := SameX.lnsI ht x1 hL0
  have hC2 := SameX.seqI ht x1 hC
  have hF2 := SameX.fqsI ht x1 hF
  refine ⟨_, rfl, g, rfl, ⟨_, hU2⟩, fun D hD => ?_⟩
  have hL0 := hL2
  have h100' : X.length ≤ 100 := by have := hL0.l; omega
  have sD := same_new hD (.lst [])
  refine comp_list (xs := us) (fun i zs H' => Same H2 H' ∧ H' D = some (.lst zs) ∧ LnH K H' zs (X.take i) ∧ ∀ x ∈ zs, x ≠ .ref D) ⟨sD, upd_same, by rw [List.take_zero]; exact .nil, fun x hx => by cases hx⟩ (fun i zs H' h => h.2.1) (fun i zs H' _ h => h.1.seq hU2) ?_ ?_
  · rintro i zs x H2 hx ⟨s2, e2, G2, n2⟩ C' hC'
    have hi : i < X.length := by have := (List.getElem?_eq_some_iff.mp hx).1; have := hL0.l; omega
    have hc : X[i]? = some X[i] := List.getElem?_eq_getElem hi
    obtain ⟨ra, rx, rfl, era, Sra⟩ := (hL0.same s2).r i x _ hx hc
    have lz := G2.l
    rw [List.length_take] at lz
    refine ⟨keep1.1, keep1.2, iteT ?_⟩
    refine ⟨_, rfl, ra, rx, rfl, .inl era, fun L hL => ?_⟩
    have sL := same_new hL (.lst rx)
    have eL : upd H2 L (.lst rx) L = some (.lst rx) := upd_same
    generalize upd H2 L (.lst rx) = H3' at sL eL ⊢
    have e23 := sL _ _ e2
    have nLK : L ≠ D := Ne.symm (ne_of_none e2 hL)
    refine ⟨e23, small1000 (by omega), hC' _ _ ⟨(s2.trans sL).change hD, upd_same, ?_, fun y hy => ?_⟩⟩
    · rw [List.take_add_one, hc]
      refine ((G2.same sL).snoc eL (Sra.same sL)).upd e23 fun y hy => ?_
      rcases List.mem_append.mp hy with z | z
      · exact n2 y z
      · have : y = .ref L := by simpa using z
        rw [this]; exact fun z => nLK (by injection z)
    · rcases List.mem_append.mp hy with z | z
      · exact n2 y z
      · have : y = .ref L := by simpa using z
        rw [this]; exact fun z => nLK (by injection z)
  rintro zs HZ ⟨sZ, eZ, GZ, nZ⟩
  rw [hL0.l, List.take_length] at GZ
  have etZ := sZ _ _ et1
  have epZ := sZ _ _ ep1
  have ntD : t ≠ D := ne_of_none et1 hD
  have l1 := length_putF ("places" : Str) (.ref p) []
  simp only [List.length_nil] at l1
  refine ⟨_, rfl, t, CT, dx, putF "places" (.ref p) [], rfl, etZ, TBx.cl, TBx.nL, by omega, ?_⟩
  have x2 : SameX t HZ (upd HZ t (.ins CT dx (putF "lines" (.ref D) (putF "places" (.ref p) [])))) := fun b o h nb => by rw [upd_ne nb]; exact h
  have et2 : upd HZ t (.ins CT dx (putF "lines" (.ref D) (putF "places" (.ref p) []))) t = some (.ins CT dx (putF "lines" (.ref D) (putF "places" (.ref p) []))) := upd_same
  have hC3 := SameX.seqI etZ x2 (sZ.seq hC2)
  have hF3 := SameX.fqsI etZ x2 (hF2.same sZ)
  have ep3 := x2 _ _ epZ (Ne.symm ntp)
  have eD3 := x2 _ _ eZ (Ne.symm ntD)
  have G3 := SameX.lnsI etZ x2 GZ.lns
  generalize upd HZ t (.ins CT dx (putF "lines" (.ref D) (putF "places" (.ref p) []))) = H4 at x2 et2 hC3 hF3 ep3 eD3 G3 ⊢
  refine ⟨_, rfl, c, _, rfl, .inl hC3, fun a ha => ?_⟩
  have nta : t ≠ a := ne_of_none et2 ha
  have s5 := same_new ha (.lst ys)
  have ea : upd H4 a (.lst ys) a = some (.lst ys) := upd_same
  generalize upd H4 a (.lst ys) = H5 at s5 ea ⊢
  have l2 := length_putF ("lines" : Str) (.ref D) (putF "places" (.ref p) [])
  refine ⟨_, rfl, t, CT, dx, putF "lines" (.ref D) (putF "places" (.ref p) []), rfl, s5 _ _ et2, TBx.cl, TBx.nA, by omega, ?_⟩
  have et5 := s5 _ _ et2
  have x3 : SameX t H5 (upd H5 t (.ins CT dx (tflds p D a))) := fun b o h nb => by rw [upd_ne nb]; exact h
  refine q _ (fun b o h nb => x3 _ _ (s5 _ _ (x2 _ _ (sZ _ _ (x1 _ _ h nb)) nb)) nb) ⟨dx, p, D, a, zs, ys, upd_same, SqL.of (x3 _ _ (s5 _ _ ep3) (Ne.symm ntp)), SqL.of (x3 _ _ (s5 _ _ eD3) (Ne.symm ntD)), SameX.lnsI et5 x3 (G3.same s5), SqL.of (x3 _ _ ea (Ne.symm nta)), SameX.fqsI et5 x3 (hF3.same s5)⟩
end
end K55

set_option Elab.async false
set_option linter.all false
namespace L2
open PySem PySem.Spec PyProof.Rows
def rIndex (K : PySem.W.Frag) : V → List V → Hp → VK → Prop := fun x vs H Q => ∃ (p : Addr) (ns : List Int) (k : Int), x = .ref p ∧ vs = [.int k] ∧ SqL K H p (ns.map V.int) ∧ k ∈ ns ∧ (PyData.list (ns.map PyData.int)).layable0 = true ∧ Q (.int (ns.idxOf k : Nat)) H
theorem ints_are : ∀ {ns : List Int} {us : List Value}, Vals (ns.map V.int) us → IntsAre us ns
  | [], _, .nil => .nil
  | n :: ns, _, .cons ⟨t, e⟩ q => by subst e; exact .cons _ _ (ints_are q)
theorem mt_index {X : Cx} : MtR X "list.index" (rIndex X.K) := by
  intro pins s σ H x xs v us Q I rx rv h
  obtain ⟨p, ns, k, rfl, rfl, hq, hk, hl, q⟩ := h
  cases rx
  obtain ⟨u, rfl, t, rfl⟩ := vals1 rv
  obtain ⟨its, r, pl, hz⟩ := I.list hq
  refine index_list_ints pl.isList (ints_are r) hl hk ⟨.int _, H, I.tok _, ⟨_, rfl⟩, q⟩
theorem mt_indexK {X : Cx} {K : PySem.W.Frag} (h : X.K = K) : MtR X "list.index" (rIndex K) := by subst h; exact mt_index
theorem ints_weight : ∀ {ns : List Int}, (∀ n ∈ ns, n.natAbs < 32) → PyData.weightAll (ns.map PyData.int) ≤ 6 * ns.length
  | [], _ => by rw [List.map_nil, PyData.weightAll.eq_1]; exact Nat.zero_le _
  | n :: ns, h => by
    have ih := ints_weight fun x hx => h x (List.mem_cons_of_mem _ hx)
    have hn := h n (by simp)
    rw [List.map_cons, PyData.weightAll.eq_2, PyData.weight.eq_5, List.length_cons]
    have : (if (n == 0) = true then 0 else n.natAbs.log2 + 1) ≤ 5 := by
      split
      · omega
      · rename_i c
        have n0 : n.natAbs ≠ 0 := fun z => c (by have : n = 0 := by omega
                                                 rw [this]; rfl)
        have := (Nat.log2_lt n0 (k := 5)).mpr (by omega)
        omega
    omega
theorem ints_layable {ns : List Int} (h : ∀ n ∈ ns, n.natAbs < 32) (hl : ns.length ≤ 100) : (PyData.list (ns.map PyData.int)).layable0 = true := by
  have w := ints_weight h
  have d := ints_depth ns
  have l := ints_lay ns
  unfold PyData.layable0
  rw [show (PyData.list (ns.map PyData.int)).canLay0 = true from l, PyData.weight.eq_2]
  have d2 : (PyData.list (ns.map PyData.int)).depth ≤ 64 := by simp only [PyData.depth]; omega
  have w2 : PyData.weightAll (ns.map PyData.int) ≤ 2 ^ 20 := by
    have : (2 : Nat) ^ 20 = 1048576 := by decide
    omega
  rw [decide_eq_true d2, decide_eq_true w2]
  rfl
end L2

set_option Elab.async false
set_option linter.all false
set_option maxRecDepth 100000
set_option maxHeartbeats 4000000
namespace K55
open PySem L2 Shp
section
variable {P : Program} {w : World} {K : PySem.W.Frag} {mg : Str → Option Value} {base : Heap} {f g1 g2 g3 g4 g5 g6 g7 g8 g9 g10 g11 : Addr} {fd gd1 gd2 gd3 gd4 gd5 gd6 gd7 gd8 gd9 gd10 gd11 : FuncData} {CX : CXT}
def spPiv0 (K : PySem.W.Frag) : Sp := fun vs H Q _ => ∃ (l D : Addr) (zs : List V) (R : List (List Int)) (w : Nat), vs = [.ref l, .int 0, .int 0] ∧ SqL K H l zs ∧ Imx D H zs R ∧ 1 ≤ R.length ∧ R.length ≤ 100 ∧ (R.getD 0 []).length = w ∧ 1 ≤ w ∧ Mq.ent R 0 0 ≠ 0 ∧ Q (.int 0) H
def spElim1 (K : PySem.W.Frag) : Sp := fun vs H Q _ => ∃ (l D : Addr) (zs : List V) (R : List (List Int)) (m w n : Nat), vs = [.ref l, .int 1] ∧ SqL K H l zs ∧ Imx D H zs R ∧ R.length = m ∧ 1 ≤ m ∧ m ≤ 100 ∧ (∀ i, i < m → (R.getD i []).length = w) ∧ 1 ≤ w ∧ w ≤ 100 ∧ Mq.BdR n R ∧ 1 ≤ n ∧ n ≤ 9000 ∧ Mq.ent R 0 0 ≠ 0 ∧
  ∀ d l' zs' H', Same H H' → H' d = some (elimD l' 1 (Mq.ent R 0 0) 1) → H' l' = some (.lst zs') → Imx l' H' zs' (Mq.clrRows R 0 0 1) → Q (.ref d) H'
abbrev sPiv : Stmt := top 20
theorem scPiv : FnScope ["rows", "rank", "column", "place"] ["rows", "rank", "column"] (defScope sPiv) := ⟨rfl, rfl, rfl, by decide +kernel, rfl, by decide +kernel, by decide +kernel⟩
theorem ok_piv {dV : Value} (F : FunD K "pivot_place" "pivot_place" sPiv dV f fd)
    (ml : mg "len" = none) (mr : mg "range" = none) :
    FnOk P w K mg base CX 1 f fd ["rows", "rank", "column"] (spPiv0 K) := by
  refine F.ok scPiv (fun vs H Q E h => ?_) (fun cdv A outer s H vs Q E hr h => ?_)
  · obtain ⟨l, D, zs, R, w, rfl, hS, hI, h1, h100, hw, w1, he, q⟩ := h
    rfl
  obtain ⟨l, D, zs, R, w, rfl, hS, hI, h1, h100, hw, w1, he, q⟩ := h
  refine ⟨_, (pss_cons (ps_for PassesOwn.never rfl (pi_range2 rfl mr (pa_cons (pv 1) (pa_cons (pe_callB call_len_seq rfl ml PySem.boot_len (pa_cons (pv 0) pa_nil)) pa_nil))) (pg_name (i := 3) scPiv.nd rfl (Or.inl rfl))
      (pss_one (ps_if (pt_cmpR op_ne (pe_ix ix_list (pe_ix ix_list (pv 0) (pv 3) (fun _ _ => rfl)) (pv 2) (fun _ _ => rfl)) pe_int (nomark _)) (pss_one (ps_ret (pv 3))) pss_nil)))
    (pss_one (ps_ret pe_non))), ?_⟩
  have lz := hI.length
  refine ⟨_, rfl, _, rfl, l, zs, rfl, .inl hS, 0, (zs.length : Int), rfl, ⟨by omega, by omega, by omega, by omega⟩, ?_⟩
  refine for_range (lo := 0) (n := ((zs.length : Int) - 0).toNat) (fun i σ H' => i = 0 ∧ H' = H ∧ ∃ z, σ = [some (.ref l), some (.int 0), some (.int 0), z]) ⟨rfl, rfl, none, rfl⟩ ?_ ?_
  · rintro i σ H' hi ⟨rfl, rfl, z, rfl⟩
    obtain ⟨u, eu, _, hu⟩ := hI.at (i := 0) (by omega)
    have a1 : atI zs ((0 : Int) + ((0 : Nat) : Int)) = some (.ref u) := by rw [Int.zero_add]; exact atI_nat eu
    have a2 : atI ((R.getD 0 []).map V.int) 0 = some (.int (Mq.ent R 0 0)) := atI_nat (map_get (l := R.getD 0 []) (i := 0) (by omega))
    refine ⟨_, rfl, _, rfl, l, zs, _, _, rfl, rfl, hS, a1, _, rfl, u, _, _, _, rfl, rfl, SqL.of hu, a2, rfl, _, rfl, ?_⟩
    refine L2.ifT (by show (!decide (V.int (Mq.ent R 0 0) = V.int 0)) = true; rw [decide_eq_false (fun z => he (by injection z))]; rfl) ?_
    exact ⟨_, rfl, q⟩
  · rintro σ H' ⟨h0, _⟩
    omega
abbrev sElim : Stmt := top 19
theorem scElim : FnScope ["rows", "width", "rank", "pivot", "sign", "column", "place", "lifted"] ["rows", "width"] (defScope sElim) := ⟨rfl, rfl, rfl, by decide +kernel, rfl, by decide +kernel, by decide +kernel⟩
theorem ok_elim {dV : Value} (F : FunD K "eliminated" "eliminated" sElim dV f fd)
    (mli : mg "list" = none) (mr : mg "range" = none)
    (G1 : FnOk P w K mg base CX0 1 g1 gd1 ["rows", "rank", "column"] (spPiv0 K)) (b1 : Binds K gd1 ["rows", "rank", "column"] []) (k1 : PySem.W.keepIn K (.ref g1) = true) (m1 : mg "pivot_place" = some (.ref g1))
    (G2 : FnOk P w K mg base CX0 2 g2 gd2 ["rows", "rank", "column", "divisor"] (spClrRows K)) (b2 : Binds K gd2 ["rows", "rank", "column", "divisor"] []) (k2 : PySem.W.keepIn K (.ref g2) = true) (m2 : mg "cleared_rows" = some (.ref g2)) :
    FnOk P w K mg base CX 3 f fd ["rows", "width"] (spElim1 K) := by
  refine F.ok scElim (fun vs H Q E h => ?_) (fun cdv A outer s H vs Q E hr h => ?_)
  · obtain ⟨l, D, zs, R, m, w, n, rfl, hS, hI, hm, hm1, m100, hw, w1, w100, hB, n1, n9, he, q⟩ := h
    rfl
  obtain ⟨l, D, zs, R, m, w, n, rfl, hS, hI, hm, hm1, m100, hw, w1, w100, hB, n1, n9, he, q⟩ := h
  have r1 := hr.mono (show 1 ≤ 2 by omega)
  refine ⟨_, (pss_cons (ps_set (i := 0) scElim.nd rfl (Or.inl rfl) (pe_callTy call_list_of rfl mli PyProof.Rows.boot_list (pa_cons (pv 0) pa_nil)))
    (pss_cons (ps_set (i := 2) scElim.nd rfl (Or.inl rfl) pe_int)
    (pss_cons (ps_set (i := 3) scElim.nd rfl (Or.inl rfl) pe_int)
    (pss_cons (ps_set (i := 4) scElim.nd rfl (Or.inl rfl) pe_int)
    (pss_cons (ps_for PassesOwn.never rfl (pi_range1 rfl mr (pa_cons (pv 1) pa_nil)) (pg_name (i := 5) scElim.nd rfl (Or.inl rfl))
      (pss_cons (ps_set (i := 6) scElim.nd rfl (Or.inl rfl) (pe_call G1 r1 rfl m1 k1 b1 .nil pass0 (pa_cons (pv 0) (pa_cons (pv 2) (pa_cons (pv 5) pa_nil)))))
    (pss_cons (ps_if (pt_cmp (pc_isN (pv 6))) (pss_one ps_continue) pss_nil)
    (pss_cons (ps_if (pt_cmpR op_ne (pv 6) (pv 2) (nomark _)) (pss_cons (ps_set (i := 7) scElim.nd rfl (Or.inl rfl) (pe_ix ix_list (pv 0) (pv 6) (fun _ _ => rfl)))
    (pss_cons (ps_asg (pe_ix ix_list (pv 0) (pv 2) (fun _ _ => rfl)) (pg_sub (pv 0) (pv 6) set_list))
    (pss_cons (ps_asg (pv 7) (pg_sub (pv 0) (pv 2) set_list))
    (pss_one (ps_set (i := 4) scElim.nd rfl (Or.inl rfl) (pe_un un_neg (pv 4))))))) pss_nil)
    (pss_cons (ps_set (i := 0) scElim.nd rfl (Or.inl rfl) (pe_call G2 hr rfl m2 k2 b2 .nil pass0 (pa_cons (pv 0) (pa_cons (pv 2) (pa_cons (pv 5) (pa_cons (pv 3) pa_nil))))))
    (pss_cons (ps_set (i := 3) scElim.nd rfl (Or.inl rfl) (pe_ix ix_list (pe_ix ix_list (pv 0) (pv 2) (fun _ _ => rfl)) (pv 5) (fun _ _ => rfl)))
    (pss_one (ps_aug (i := 2) scElim.nd rfl (Or.inl rfl) pe_int ip_add))))))))
    (pss_one (ps_ret (pe_disp (pps_cons pe_str (pv 0) (pps_cons pe_str (pv 2) (pps_cons pe_str (pv 3) (pps_cons pe_str (pv 4) pps_nil)))) rfl rfl (by simp) (by decide))))))))), ?_⟩
  refine ⟨_, rfl, l, zs, rfl, .inl hS, fun l1 hl1 => ?_⟩
  have I1 := hI.other hl1
  have s1 := same_new hl1 (.lst zs)
  have e1 : upd H l1 (.lst zs) l1 = some (.lst zs) := upd_same
  generalize upd H l1 (.lst zs) = H1 at s1 e1 ⊢
  replace I1 := I1.same s1
  refine ⟨_, rfl, (1 : Int), rfl, by omega, by omega, ?_⟩
  refine for_range (lo := 0) (n := ((1 : Int) - 0).toNat) (fun i σ H' => (i = 0 → H' = H1 ∧ σ = [some (.ref l1), some (.int 1), some (.int 0), some (.int 1), some (.int 1), none, none, none]) ∧ (i ≠ 0 → Same H1 H' ∧ ∃ (l' : Addr) (zs' : List V) (z5 z6 z7 : Option V), σ = [some (.ref l'), some (.int 1), some (.int 1), some (.int (Mq.ent R 0 0)), some (.int 1), z5, z6, z7] ∧ H' l' = some (.lst zs') ∧ Imx l' H' zs' (Mq.clrRows R 0 0 1))) ⟨fun _ => ⟨rfl, rfl⟩, fun h => (h rfl).elim⟩ ?_ ?_
  · rintro i σ H' hi ⟨h0, _⟩
    have i0 : i = 0 := by omega
    subst i0
    obtain ⟨rfl, rfl⟩ := h0 rfl
    clear h0
    have b1 : Mq.B n 1 := by
      show 1 < 2 ^ n
      exact Nat.one_lt_two_pow (by omega)
    refine ⟨_, rfl, _, rfl, _, rfl, l1, l1, zs, R, w, rfl, SqL.of e1, I1, by omega, by omega, hw 0 (by omega), w1, he, ?_⟩
    refine ⟨_, rfl, _, rfl, iteF ?_⟩
    refine ⟨_, rfl, _, rfl, rfl, _, rfl, L2.iteF ?_⟩
    refine ⟨_, rfl, _, rfl, _, rfl, _, rfl, l1, l1, zs, R, 0, 0, m, w, n, 1, rfl, SqL.of e1, I1, hm, hw, by omega, w100, by omega, m100, by decide, hB, b1, n9, fun l3 zs3 H3 s3 n3 e3 I3 => ?_⟩
    obtain ⟨u, eu, nu, hu⟩ := I3.at (i := 0) (by rw [Mq.clr_len]; omega)
    have c0 : (Mq.clrRows R 0 0 1).getD 0 [] = R.getD 0 [] := by rw [Mq.clr_get (by omega), if_pos rfl]
    rw [c0] at hu
    have ec := atI_nat (map_get (l := R.getD 0 []) (i := 0) (by rw [hw 0 (by omega)]; omega))
    refine ⟨_, rfl, _, rfl, l3, zs3, _, _, rfl, rfl, SqL.of e3, atI_nat eu, _, rfl, u, _, _, _, rfl, rfl, SqL.of hu, ec, ?_⟩
    refine ⟨_, rfl, _, _, rfl, rfl, ?_⟩
    exact ⟨fun h => by omega, fun _ => ⟨s3, l3, zs3, _, _, _, rfl, e3, I3⟩⟩
  rintro σ H' ⟨_, h1⟩
  obtain ⟨s2, l', zs', z5, z6, z7, rfl, e2, I2⟩ := h1 (by decide)
  intro d hd
  have nd : l' ≠ d := fun z => by rw [z, hd] at e2; cases e2
  refine ⟨_, rfl, _, rfl, _, rfl, _, rfl, upd_same, [(.inr "rows", .ref l'), (.inr "rank", .int 1), (.inr "pivot", .int (Mq.ent R 0 0)), (.inr "sign", .int 1)], rfl, by show 4 ≤ 15; decide, ?_⟩
  have sd : Same H' (upd (upd H' d (.dK [])) d (elimD l' 1 (Mq.ent R 0 0) 1)) := (same_new hd _).change hd
  exact q d l' zs' _ ((s1.trans s2).trans sd) upd_same (sd _ _ e2) (I2.same sd)
end
end K55

set_option Elab.async false
set_option linter.all false
set_option maxRecDepth 100000
set_option maxHeartbeats 2000000
namespace Mq
open Shp
def ix2 (X : List (List Q2)) (i j : Nat) : Q2 := (X.getD i []).getD j z0
theorem matX_ix (X : List (List Q2)) (i j : Nat) : matX X i j = val (ix2 X i j) := rfl
def redRow (X : List (List Q2)) (i : Nat) : List Q2 := (((clrRows (X.map iw) 0 0 1).getD i []).drop 1).map fun t => red t (ent (X.map iw) 0 0 * lcmB (X.getD i []))
def redX (X : List (List Q2)) : List (List Q2) := (List.range (X.length - 1)).map fun i => redRow X (i + 1)
structure RdOk (n w : Nat) (X : List (List Q2)) : Prop where
  m1 : 1 ≤ X.length
  m9 : X.length ≤ 10
  w1 : 1 ≤ w
  w9 : w ≤ 10
  r : ∀ row ∈ X, row.length = w ∧ ∀ p ∈ row, Low p ∧ Bd n p
  z : (ix2 X 0 0).1 ≠ 0
  bits : 10 + n + n * w ≤ 4400
theorem getL {X : List (List Q2)} {i : Nat} (h : i < X.length) : X[i]? = some (X.getD i []) := by rw [List.getD_eq_getElem?_getD, List.getElem?_eq_getElem h]; rfl
theorem getQ1 {l : List Q2} {i : Nat} (h : i < l.length) : l[i]? = some (l.getD i z0) := by rw [List.getD_eq_getElem?_getD, List.getElem?_eq_getElem h]; rfl
theorem RdOk.row {n w : Nat} {X : List (List Q2)} (h : RdOk n w X) {i : Nat} (hi : i < X.length) : (X.getD i []).length = w ∧ Pos (X.getD i []) ∧ ∀ p ∈ X.getD i [], Bd n p := by
  have := h.r _ (List.mem_of_getElem? (getL hi))
  exact ⟨this.1, fun p hp => (this.2 p hp).1.pos, fun p hp => (this.2 p hp).2⟩
theorem RdOk.low {n w : Nat} {X : List (List Q2)} (h : RdOk n w X) {i j : Nat} (hi : i < X.length) (hj : j < w) : Low (ix2 X i j) ∧ Bd n (ix2 X i j) := by
  have a := h.r _ (List.mem_of_getElem? (getL hi))
  exact a.2 _ (List.mem_of_getElem? (getQ1 (by rw [a.1]; exact hj)))
theorem low_ne0 {p : Q2} (h : Low p) : p.1 ≠ 0 ↔ val p ≠ 0 := by
  have b := h.pos
  have hb := cast_ne (show p.2 ≠ 0 by omega)
  constructor
  · intro z e
    have hz := cast_ne z
    unfold val at e
    grind
  · intro z e
    apply z
    unfold val
    rw [e]; simp; grind
theorem RdOk.ent {n w : Nat} {X : List (List Q2)} (h : RdOk n w X) {i j : Nat} (hi : i < X.length) (hj : j < w) : ((Mq.ent (X.map iw) i j : Int) : Rat) = ((lcmB (X.getD i []) : Int) : Rat) * matX X i j := by
  obtain ⟨rl, rp, _⟩ := h.row hi
  show ((((X.map iw).getD i []).getD j 0 : Int) : Rat) = _
  rw [map_iw hi, iw_get rp (by omega)]; rfl
theorem RdOk.lcm {n w : Nat} {X : List (List Q2)} (h : RdOk n w X) {i : Nat} (hi : i < X.length) : 1 ≤ lcmB (X.getD i []) ∧ B (1 + n * w) (lcmB (X.getD i [])) := by
  obtain ⟨rl, rp, rb⟩ := h.row hi
  refine ⟨lcmB_ge rp, ?_⟩
  have := lcm_bd rp rb
  rwa [rl] at this
theorem RdOk.bd {n w : Nat} {X : List (List Q2)} (h : RdOk n w X) : BdR (n + (1 + n * w)) (X.map iw) := fun i x => by
  show B _ (((X.map iw).getD i []).getD x 0)
  by_cases hi : i < X.length
  · obtain ⟨rl, rp, rb⟩ := h.row hi
    have := iw_bd rp rb x
    rw [rl] at this
    rwa [map_iw hi]
  · rw [List.getD_eq_getElem?_getD (l := X.map iw), List.getElem?_eq_none (by simp; omega)]
    exact Nat.two_pow_pos _
theorem RdOk.e0 {n w : Nat} {X : List (List Q2)} (h : RdOk n w X) : Mq.ent (X.map iw) 0 0 ≠ 0 := fun z => by
  have e := h.ent (i := 0) (j := 0) h.m1 h.w1
  rw [z] at e
  have l := cast_ne (show lcmB (X.getD 0 []) ≠ 0 by have := (h.lcm (i := 0) h.m1).1; omega)
  have v := (low_ne0 (h.low (i := 0) (j := 0) h.m1 h.w1).1).mp h.z
  rw [matX_ix] at e
  generalize val (ix2 X 0 0) = y at *
  simp at e
  grind
theorem RdOk.wid {n w : Nat} {X : List (List Q2)} (h : RdOk n w X) : ∀ i, i < X.length → ((X.map iw).getD i []).length = w := fun i hi => by
  rw [map_iw hi, iw_len, (h.row hi).1]
theorem clr_row {R : List (List Int)} {w i j : Nat} (hw : ∀ i, i < R.length → (R.getD i []).length = w) (hi : i < R.length) (h0 : i ≠ 0) (hj : j < w) : ((clrRows R 0 0 1).getD i []).length = w ∧ ((clrRows R 0 0 1).getD i []).getD j 0 = Mq.ent R 0 0 * Mq.ent R i j - Mq.ent R i 0 * Mq.ent R 0 j := by
  rw [clr_get hi, if_neg h0]
  have a := hw i hi
  have b := hw 0 (by omega)
  unfold clrRow
  refine ⟨by rw [List.length_zipWith, a, b]; omega, ?_⟩
  have g1 : (R.getD i [])[j]? = some ((R.getD i []).getD j 0) := get_some (by omega)
  have g2 : (R.getD 0 [])[j]? = some ((R.getD 0 []).getD j 0) := get_some (by omega)
  rw [List.getD_eq_getElem?_getD (l := List.zipWith _ _ _), List.getElem?_zipWith, g1, g2]
  show Int.fdiv _ 1 = _
  rw [Int.fdiv_one]; rfl
theorem redX_len (X : List (List Q2)) : (redX X).length = X.length - 1 := by unfold redX; simp
theorem redX_get {X : List (List Q2)} {i : Nat} (hi : i < X.length - 1) : (redX X).getD i [] = redRow X (i + 1) := by
  unfold redX
  rw [List.getD_eq_getElem?_getD, List.getElem?_map, List.getElem?_range hi]; rfl
theorem RdOk.redRow {n w : Nat} {X : List (List Q2)} (h : RdOk n w X) {i : Nat} (hi : i < X.length - 1) : (Mq.redRow X (i + 1)).length = w - 1 ∧ ∀ j, j < w - 1 → Low ((Mq.redRow X (i + 1)).getD j z0) ∧ Bd (n + (1 + n * w) + (n + (1 + n * w)) + 1) ((Mq.redRow X (i + 1)).getD j z0) ∧ val ((Mq.redRow X (i + 1)).getD j z0) = matX X (i + 1) (j + 1) - matX X (i + 1) 0 * matX X 0 (j + 1) / matX X 0 0 := by
  have cl := fun j (hj : j < w) => clr_row (R := X.map iw) (w := w) (i := i + 1) (j := j) (fun i hi => h.wid i (by simpa using hi)) (by simp; omega) (by omega) hj
  have w1 := h.w1
  refine ⟨by unfold Mq.redRow; rw [List.length_map, List.length_drop, (cl 0 (by omega)).1], fun j hj => ?_⟩
  have e0 := h.e0
  obtain ⟨l1, lb⟩ := h.lcm (i := i + 1) (by omega)
  have ne : Mq.ent (X.map iw) 0 0 * lcmB (X.getD (i + 1) []) ≠ 0 := Int.mul_ne_zero e0 (by omega)
  have g : (Mq.redRow X (i + 1)).getD j z0 = red (Mq.ent (X.map iw) 0 0 * Mq.ent (X.map iw) (i + 1) (j + 1) - Mq.ent (X.map iw) (i + 1) 0 * Mq.ent (X.map iw) 0 (j + 1)) (Mq.ent (X.map iw) 0 0 * lcmB (X.getD (i + 1) [])) := by
    unfold Mq.redRow
    obtain ⟨c1, c2⟩ := cl (j + 1) (by omega)
    rw [List.getD_eq_getElem?_getD, List.getElem?_map, List.getElem?_drop, Nat.add_comm 1 j, get_some (by omega), c2]; rfl
  rw [g]
  have le := red_le (t := Mq.ent (X.map iw) 0 0 * Mq.ent (X.map iw) (i + 1) (j + 1) - Mq.ent (X.map iw) (i + 1) 0 * Mq.ent (X.map iw) 0 (j + 1)) ne
  have bb := h.bd
  refine ⟨red_low ne, ⟨(B.sub ((bb 0 0).mul (bb _ _)) ((bb _ 0).mul (bb 0 _))).le le.1, (((bb 0 0).mul lb).le le.2).mono (by omega)⟩, ?_⟩
  rw [val_red ne, Rat.intCast_sub, Rat.intCast_mul, Rat.intCast_mul, Rat.intCast_mul, h.ent (i := 0) (j := 0) h.m1 w1, h.ent (i := i + 1) (j := j + 1) (by omega) (by omega), h.ent (i := i + 1) (j := 0) (by omega) w1, h.ent (i := 0) (j := j + 1) h.m1 (by omega)]
  have n0 := cast_ne (show lcmB (X.getD 0 []) ≠ 0 by have := (h.lcm (i := 0) h.m1).1; omega)
  have n1 := cast_ne (show lcmB (X.getD (i + 1) []) ≠ 0 by omega)
  have v : matX X 0 0 ≠ 0 := (low_ne0 (h.low (i := 0) (j := 0) h.m1 w1).1).mp h.z
  generalize ((lcmB (X.getD 0 []) : Int) : Rat) = L0 at *
  generalize ((lcmB (X.getD (i + 1) []) : Int) : Rat) = L1 at *
  generalize matX X 0 0 = a at *
  generalize matX X (i + 1) (j + 1) = b at *
  generalize matX X (i + 1) 0 = c at *
  generalize matX X 0 (j + 1) = d at *
  grind
def skp (k i : Nat) : Nat := if i < k then i else i + 1
def ordN (k w : Nat) : List Nat := k :: (List.range (w - 1)).map (skp k)
def pick (k w : Nat) (X : List (List Q2)) (cs : List Q2) : List (List Q2) := (ordN k w).map fun i => ((ordN k w).map fun j => ix2 X i j) ++ [cs.getD i z0]
def tkX (k w : Nat) (X : List (List Q2)) (cs : List Q2) : List (List Q2) := (redX (pick k w X cs)).map fun row => row.take (w - 1)
def tkC (k w : Nat) (X : List (List Q2)) (cs : List Q2) : List Q2 := (redX (pick k w X cs)).map fun row => row.getD (w - 1) z0
theorem ord_len {k w : Nat} (h : 1 ≤ w) : (ordN k w).length = w := by unfold ordN; simp; omega
theorem ord_0 (k w : Nat) : (ordN k w).getD 0 0 = k := rfl
theorem ord_s {k w i : Nat} (h : i < w - 1) : (ordN k w).getD (i + 1) 0 = skp k i := by
  unfold ordN
  rw [List.getD_cons_succ, List.getD_eq_getElem?_getD, List.getElem?_map, List.getElem?_range h]; rfl
theorem skp_lt {k w i : Nat} (hk : k < w) (h : i < w - 1) : skp k i < w := by unfold skp; split <;> omega
theorem skp_ne (k i : Nat) : skp k i ≠ k := by unfold skp; split <;> omega
theorem ord_lt {k w : Nat} (hk : k < w) : ∀ i ∈ ordN k w, i < w := fun i hi => by
  unfold ordN at hi
  rcases List.mem_cons.mp hi with z | z
  · omega
  · obtain ⟨j, hj, rfl⟩ := List.mem_map.mp z
    exact skp_lt hk (by simpa using hj)
theorem ordG {k w i : Nat} (h : 1 ≤ w) (hi : i < w) : (ordN k w)[i]? = some ((ordN k w).getD i 0) := by
  rw [List.getD_eq_getElem?_getD, List.getElem?_eq_getElem (by rw [ord_len h]; exact hi)]; rfl
theorem ord_at {k w i : Nat} (hk : k < w) (hi : i < w) : (ordN k w).getD i 0 < w := ord_lt hk _ (List.mem_of_getElem? (ordG (by omega) hi))
theorem pick_len {k w : Nat} (h : 1 ≤ w) (X : List (List Q2)) (cs : List Q2) : (pick k w X cs).length = w := by unfold pick; rw [List.length_map, ord_len h]
theorem pick_get {k w i : Nat} (h : 1 ≤ w) (hi : i < w) (X : List (List Q2)) (cs : List Q2) : (pick k w X cs)[i]? = some (((ordN k w).map fun j => ix2 X ((ordN k w).getD i 0) j) ++ [cs.getD ((ordN k w).getD i 0) z0]) := by
  unfold pick
  rw [List.getElem?_map, ordG h hi]; rfl
theorem pick_ix {k w i j : Nat} (h : 1 ≤ w) (hi : i < w) (hj : j < w) (X : List (List Q2)) (cs : List Q2) : ix2 (pick k w X cs) i j = ix2 X ((ordN k w).getD i 0) ((ordN k w).getD j 0) := by
  unfold ix2
  rw [List.getD_eq_getElem?_getD (l := pick k w X cs), pick_get h hi]
  show (((ordN k w).map fun j => ix2 X ((ordN k w).getD i 0) j) ++ [cs.getD ((ordN k w).getD i 0) z0]).getD j z0 = _
  rw [List.getD_eq_getElem?_getD, List.getElem?_append_left (by rw [List.length_map, ord_len h]; exact hj), List.getElem?_map, ordG h hj]; rfl
theorem pick_c {k w i : Nat} (h : 1 ≤ w) (hi : i < w) (X : List (List Q2)) (cs : List Q2) : ix2 (pick k w X cs) i w = cs.getD ((ordN k w).getD i 0) z0 := by
  unfold ix2
  rw [List.getD_eq_getElem?_getD (l := pick k w X cs), pick_get h hi]
  show (((ordN k w).map fun j => ix2 X ((ordN k w).getD i 0) j) ++ [cs.getD ((ordN k w).getD i 0) z0]).getD w z0 = _
  have l : ((ordN k w).map fun j => ix2 X ((ordN k w).getD i 0) j).length = w := by rw [List.length_map, ord_len h]
  rw [List.getD_eq_getElem?_getD, List.getElem?_append_right (by omega), l, Nat.sub_self]; rfl
end Mq
namespace L2
open Mq Shp
def cv (cs : List Q2) (i : Nat) : Rat := val (cs.getD i z0)
theorem TbOk.at {n w : Nat} {es : List Int} {X : List (List Q2)} {cs : List Q2} (h : TbOk n w es X cs) {i j : Nat} (hi : i < w) (hj : j < w) : Low (ix2 X i j) ∧ Bd n (ix2 X i j) := by
  have a := h.r _ (List.mem_of_getElem? (getL (by rw [h.lX]; exact hi)))
  exact a.2 _ (List.mem_of_getElem? (getQ1 (by rw [a.1]; exact hj)))
theorem TbOk.cat {n w : Nat} {es : List Int} {X : List (List Q2)} {cs : List Q2} (h : TbOk n w es X cs) {i : Nat} (hi : i < w) : Low (cs.getD i z0) ∧ Bd n (cs.getD i z0) := h.c _ (List.mem_of_getElem? (getQ1 (by rw [h.lc]; exact hi)))
theorem TbOk.mono {n m w : Nat} {es : List Int} {X : List (List Q2)} {cs : List Q2} (h : TbOk n w es X cs) (l : n ≤ m) : TbOk m w es X cs := ⟨h.le, h.lX, h.lc, h.w6, h.nd, fun row hr => ⟨(h.r row hr).1, fun p hp => ⟨((h.r row hr).2 p hp).1, ((h.r row hr).2 p hp).2.a.mono l, ((h.r row hr).2 p hp).2.b.mono l⟩⟩, fun p hp => ⟨(h.c p hp).1, (h.c p hp).2.a.mono l, (h.c p hp).2.b.mono l⟩⟩
theorem TbOk.pick {n w : Nat} {es : List Int} {X : List (List Q2)} {cs : List Q2} (h : TbOk n w es X cs) {k : Nat} (hk : k < w) (hz : (ix2 X k k).1 ≠ 0) (hb : 10 + n + n * (w + 1) ≤ 4400) : Mq.RdOk n (w + 1) (Mq.pick k w X cs) := by
  have w6 := h.w6
  refine ⟨by rw [pick_len (by omega)]; omega, by rw [pick_len (by omega)]; omega, by omega, by omega, fun row hr => ?_, ?_, hb⟩
  · obtain ⟨i, hi, rfl⟩ := List.getElem_of_mem hr
    rw [pick_len (by omega)] at hi
    have e := pick_get (k := k) (w := w) (i := i) (by omega) hi X cs
    rw [List.getElem?_eq_getElem (by rw [pick_len (by omega)]; exact hi)] at e
    injection e with e
    rw [e]
    have oi := ord_at (i := i) hk hi
    refine ⟨by rw [List.length_append, List.length_map, ord_len (by omega)]; rfl, fun p hp => ?_⟩
    rcases List.mem_append.mp hp with z | z
    · obtain ⟨j, hj, rfl⟩ := List.mem_map.mp z
      exact h.at oi (ord_lt hk j hj)
    · have : p = cs.getD ((ordN k w).getD i 0) z0 := by simpa using z
      rw [this]
      exact h.cat oi
  · rw [pick_ix (by omega) (by omega) (by omega)]; exact hz
structure Taken (k w : Nat) (X : List (List Q2)) (cs : List Q2) (X' : List (List Q2)) (cs' : List Q2) : Prop where
  x : ∀ i j, i < w - 1 → j < w - 1 → matX X' i j = matX X (skp k i) (skp k j) - matX X (skp k i) k * matX X k (skp k j) / matX X k k
  c : ∀ i, i < w - 1 → cv cs' i = cv cs (skp k i) - matX X (skp k i) k * cv cs k / matX X k k
theorem TbOk.taken {n w : Nat} {es : List Int} {X : List (List Q2)} {cs : List Q2} (h : TbOk n w es X cs) {k : Nat} (hk : k < w) (hz : (ix2 X k k).1 ≠ 0) (hb : 10 + n + n * (w + 1) ≤ 4400) : TbOk (n + (1 + n * (w + 1)) + (n + (1 + n * (w + 1))) + 1) (w - 1) (es.eraseIdx k) (tkX k w X cs) (tkC k w X cs) ∧ Taken k w X cs (tkX k w X cs) (tkC k w X cs) := by
  have P := h.pick hk hz hb
  have w6 := h.w6
  have lp := pick_len (k := k) (w := w) (by omega) X cs
  have lr : (redX (Mq.pick k w X cs)).length = w - 1 := by rw [redX_len, lp]
  have R := fun i (hi : i < w - 1) => P.redRow (i := i) (by rw [lp]; exact hi)
  have gx : ∀ i, i < w - 1 → (tkX k w X cs).getD i [] = (Mq.redRow (Mq.pick k w X cs) (i + 1)).take (w - 1) := fun i hi => by
    unfold tkX
    rw [List.getD_eq_getElem?_getD, List.getElem?_map, getL (by omega), redX_get (by omega)]; rfl
  have gc : ∀ i, i < w - 1 → (tkC k w X cs).getD i z0 = (Mq.redRow (Mq.pick k w X cs) (i + 1)).getD (w - 1) z0 := fun i hi => by
    unfold tkC
    rw [List.getD_eq_getElem?_getD, List.getElem?_map, getL (by omega), redX_get (by omega)]; rfl
  have lx : (tkX k w X cs).length = w - 1 := by unfold tkX; rw [List.length_map, lr]
  have lc : (tkC k w X cs).length = w - 1 := by unfold tkC; rw [List.length_map, lr]
  have gj : ∀ i j, i < w - 1 → j < w - 1 → ix2 (tkX k w X cs) i j = (Mq.redRow (Mq.pick k w X cs) (i + 1)).getD j z0 := fun i j hi hj => by
    unfold ix2
    rw [gx i hi, List.getD_eq_getElem?_getD, List.getElem?_take, if_pos hj, List.getD_eq_getElem?_getD]
  refine ⟨⟨?_, lx, lc, by omega, h.nd.sublist (List.eraseIdx_sublist _ _), fun row hr => ?_, fun p hp => ?_⟩, ⟨fun i j hi hj => ?_, fun i hi => ?_⟩⟩
  · rw [List.length_eraseIdx, h.le, if_pos hk]
  · obtain ⟨i, hi, rfl⟩ := List.getElem_of_mem hr
    rw [lx] at hi
    have e := gx i hi
    rw [List.getD_eq_getElem?_getD, List.getElem?_eq_getElem (by omega)] at e
    have e' : (tkX k w X cs)[i] = (Mq.redRow (Mq.pick k w X cs) (i + 1)).take (w - 1) := e
    rw [e']
    obtain ⟨r1, r2⟩ := R i hi
    refine ⟨by rw [List.length_take, r1]; omega, fun p hp => ?_⟩
    obtain ⟨j, hj, rfl⟩ := List.getElem_of_mem hp
    rw [List.length_take, r1] at hj
    obtain ⟨a, b, _⟩ := r2 j (by omega)
    rw [List.getElem_take]
    rw [List.getD_eq_getElem?_getD, List.getElem?_eq_getElem (by omega)] at a b
    exact ⟨a, b⟩
  · obtain ⟨i, hi, rfl⟩ := List.getElem_of_mem hp
    rw [lc] at hi
    have e := gc i hi
    rw [List.getD_eq_getElem?_getD, List.getElem?_eq_getElem (by omega)] at e
    have e' : (tkC k w X cs)[i] = (Mq.redRow (Mq.pick k w X cs) (i + 1)).getD (w - 1) z0 := e
    rw [e']
    obtain ⟨a, b, _⟩ := (R i hi).2 (w - 1) (by omega)
    exact ⟨a, b⟩
  · rw [matX_ix, gj i j hi hj, ((R i hi).2 j (by omega)).2.2]
    simp only [matX_ix]
    rw [pick_ix (by omega) (by omega) (by omega), pick_ix (by omega) (by omega) (by omega), pick_ix (by omega) (by omega) (by omega), pick_ix (by omega) (by omega) (by omega), ord_0, ord_s hi, ord_s hj]
  · unfold cv
    rw [gc i hi, ((R i hi).2 (w - 1) (by omega)).2.2]
    simp only [matX_ix]
    rw [show w - 1 + 1 = w by omega, pick_c (by omega) (by omega), pick_c (by omega) (by omega), pick_ix (by omega) (by omega) (by omega), pick_ix (by omega) (by omega) (by omega), ord_0, ord_s hi]
theorem skp_two {k k' l l' : Nat} (h1 : skp k l = k') (h2 : skp k' l' = k) (i : Nat) : skp k (skp l i) = skp k' (skp l' i) := by
  unfold skp at *
  repeat' split at h1
  all_goals repeat' split at h2
  all_goals repeat' split
  all_goals omega
theorem alg_fr {u v p g : Rat} (hp : p ≠ 0) (hg : g ≠ 0) : u / p * (v / p) / (g / p) = u * v / (p * g) := by
  have h1 : p * g ≠ 0 := fun z => by rcases Rat.mul_eq_zero.mp z with z | z <;> contradiction
  grind
theorem alg_two {p q r s A B C D E : Rat} (hp : p ≠ 0) (hq : q ≠ 0) (hd : q - r * s / p ≠ 0) (he : p - s * r / q ≠ 0) : A - B * C / p - (D - B * s / p) * (E - r * C / p) / (q - r * s / p) = A - D * E / q - (B - D * r / q) * (C - s * E / q) / (p - s * r / q) := by
  have h1 : q - r * s / p = (p * q - r * s) / p := by grind
  have h2 : p - s * r / q = (p * q - r * s) / q := by grind
  have n : p * q - r * s ≠ 0 := fun z => hd (by rw [h1, z]; grind)
  rw [h1, h2]
  generalize hg : p * q - r * s = g at *
  have e1 : D - B * s / p = (D * p - B * s) / p := by grind
  have e2 : E - r * C / p = (E * p - r * C) / p := by grind
  have e3 : B - D * r / q = (B * q - D * r) / q := by grind
  have e4 : C - s * E / q = (C * q - s * E) / q := by grind
  rw [e1, e2, e3, e4]
  have f1 : (D * p - B * s) / p * ((E * p - r * C) / p) / (g / p) = (D * p - B * s) * (E * p - r * C) / (p * g) := alg_fr hp n
  have f2 : (B * q - D * r) / q * ((C * q - s * E) / q) / (g / q) = (B * q - D * r) * (C * q - s * E) / (q * g) := alg_fr hq n
  rw [f1, f2]
  grind
theorem qs_ext {a b : List Q2} {m : Nat} (la : a.length = m) (lb : b.length = m) (h : ∀ i, i < m → a.getD i z0 = b.getD i z0) : a = b := by
  refine List.ext_getElem (by omega) fun i h1 h2 => ?_
  have := h i (by omega)
  rwa [List.getD_eq_getElem?_getD, List.getD_eq_getElem?_getD, List.getElem?_eq_getElem h1, List.getElem?_eq_getElem h2] at this
theorem xs_ext {a b : List (List Q2)} {m : Nat} (la : a.length = m) (lb : b.length = m) (ra : ∀ row ∈ a, row.length = m) (rb : ∀ row ∈ b, row.length = m) (h : ∀ i j, i < m → j < m → ix2 a i j = ix2 b i j) : a = b := by
  refine List.ext_getElem (by omega) fun i h1 h2 => ?_
  refine qs_ext (ra _ (List.getElem_mem h1)) (rb _ (List.getElem_mem h2)) fun j hj => ?_
  have := h i j (by omega) hj
  unfold ix2 at this
  rwa [List.getD_eq_getElem?_getD (l := a), List.getD_eq_getElem?_getD (l := b), List.getElem?_eq_getElem h1, List.getElem?_eq_getElem h2] at this
theorem es_two {es : List Int} {k k' l l' : Nat} (h1 : skp k l = k') (h2 : skp k' l' = k) : (es.eraseIdx k).eraseIdx l = (es.eraseIdx k').eraseIdx l' := by
  have g : ∀ (xs : List Int) (a i : Nat), (xs.eraseIdx a)[i]? = xs[skp a i]? := fun xs a i => by
    unfold skp
    rw [List.getElem?_eraseIdx]
    split <;> rfl
  refine List.ext_getElem? fun i => ?_
  rw [g, g, g, g, skp_two h1 h2]
theorem Taken.two {n n1 n2 n3 n4 w k k' l l' : Nat} {es es1 es2 es3 es4 : List Int} {X X1 X2 X3 X4 : List (List Q2)} {cs c1 c2 c3 c4 : List Q2} (h1 : skp k l = k') (h2 : skp k' l' = k) (hk : k < w) (hk' : k' < w) (hl : l < w - 1) (hl' : l' < w - 1)
    (T0 : TbOk n w es X cs) (T2 : TbOk n2 (w - 1 - 1) es2 X2 c2) (T4 : TbOk n4 (w - 1 - 1) es4 X4 c4)
    (a : Taken k w X cs X1 c1) (b : Taken l (w - 1) X1 c1 X2 c2) (c : Taken k' w X cs X3 c3) (d : Taken l' (w - 1) X3 c3 X4 c4)
    (np : matX X k k ≠ 0) (nq : matX X k' k' ≠ 0) (nd : matX X1 l l ≠ 0) (ne : matX X3 l' l' ≠ 0) : X2 = X4 ∧ c2 = c4 := by
  have el := a.x l l hl hl
  rw [h1] at el
  have el' := c.x l' l' hl' hl'
  rw [h2] at el'
  rw [el] at nd
  rw [el'] at ne
  have hs : ∀ i, i < w - 1 - 1 → skp l i < w - 1 := fun i hi => skp_lt hl hi
  have hs' : ∀ i, i < w - 1 - 1 → skp l' i < w - 1 := fun i hi => skp_lt hl' hi
  constructor
  · refine xs_ext T2.lX T4.lX (fun row hr => (T2.r row hr).1) (fun row hr => (T4.r row hr).1) fun i j hi hj => ?_
    refine low_ext (T2.at hi hj).1 (T4.at hi hj).1 ?_
    have e1 := b.x i j hi hj
    have e2 := d.x i j hi hj
    rw [matX_ix] at e1 e2
    rw [e1, e2, a.x _ _ (hs i hi) (hs j hj), a.x _ _ (hs i hi) hl, a.x _ _ hl (hs j hj), c.x _ _ (hs' i hi) (hs' j hj), c.x _ _ (hs' i hi) hl', c.x _ _ hl' (hs' j hj), el, el', h1, h2, skp_two h1 h2 i, skp_two h1 h2 j]
    exact alg_two np nq nd ne
  · refine qs_ext T2.lc T4.lc fun i hi => ?_
    refine low_ext (T2.cat hi).1 (T4.cat hi).1 ?_
    have e1 := b.c i hi
    have e2 := d.c i hi
    unfold cv at e1 e2
    rw [e1, e2]
    have u1 := a.c _ (hs i hi)
    have u2 := a.c l hl
    have u3 := c.c _ (hs' i hi)
    have u4 := c.c l' hl'
    unfold cv at u1 u2 u3 u4
    rw [u1, u2, u3, u4, a.x _ _ (hs i hi) hl, c.x _ _ (hs' i hi) hl', el, el', h1, h2, skp_two h1 h2 i]
    exact alg_two np nq nd ne
end L2

set_option Elab.async false
set_option linter.all false
set_option maxRecDepth 100000
set_option maxHeartbeats 4000000
namespace K55
open PySem L2 Shp
section
variable {P : Program} {w : World} {K : PySem.W.Frag} {mg : Str → Option Value} {base : Heap} {f g1 g2 g3 g4 g5 g6 g7 g8 g9 g10 g11 : Addr} {fd gd1 gd2 gd3 gd4 gd5 gd6 gd7 gd8 gd9 gd10 gd11 : FuncData} {CX : CXT}
def spRed1 (K : PySem.W.Frag) : Sp := fun vs H Q _ => ∃ (g : Addr) (us : List V) (X : List (List Mq.Q2)) (n w : Nat), vs = [.ref g, .int 1] ∧ SqL K H g us ∧ Lns K H us X ∧ Mq.RdOk n w X ∧ ∀ l zs H', Same H H' → H' l = some (.lst zs) → Lns K H' zs (Mq.redX X) → Q (.ref l) H'
theorem cut_fromI (xs : List V) (k : Nat) : cutV xs (some (k : Int)) none = xs.drop k := by
  unfold cutV
  have h1 : HT.sIx xs.length xs.length none = xs.length := rfl
  have h2 : HT.sIx xs.length 0 (some (k : Int)) = min k xs.length := by simp [HT.sIx]; omega
  rw [h1, h2]
  by_cases h : k ≤ xs.length
  · rw [Nat.min_eq_left h, List.take_of_length_le (by simp)]
  · rw [Nat.min_eq_right (by omega), List.drop_of_length_le (Nat.le_refl _), List.drop_of_length_le (by omega)]; simp
theorem nd_row : (["row"] : List Str).Nodup := by decide +kernel
theorem nd_left_row_end_count : (["left", "row", "end", "count"] : List Str).Nodup := by decide +kernel
abbrev sRed : Stmt := top 16
theorem scRed : FnScope ["matrix", "count", "rows", "end"] ["matrix", "count"] (defScope sRed) := ⟨rfl, rfl, rfl, by decide +kernel, rfl, by decide +kernel, by decide +kernel⟩
theorem ok_red {dV : Value} (F : FunD K "reduced" "reduced" sRed dV f fd)
    (mz : mg "zip" = none)
    (G1 : FnOk P w K mg base CX0 2 g1 gd1 ["some"] (spIWd K)) (b1 : Binds K gd1 ["some"] []) (k1 : PySem.W.keepIn K (.ref g1) = true) (m1 : mg "in_wholes" = some (.ref g1))
    (G2 : FnOk P w K mg base CX0 3 g2 gd2 ["rows", "width"] (spElim1 K)) (b2 : Binds K gd2 ["rows", "width"] []) (k2 : PySem.W.keepIn K (.ref g2) = true) (m2 : mg "eliminated" = some (.ref g2))
    (G3 : FnOk P w K mg base CX0 3 g3 gd3 ["tops", "pivot"] (spOver K)) (b3 : Binds K gd3 ["tops", "pivot"] []) (k3 : PySem.W.keepIn K (.ref g3) = true) (m3 : mg "over_pivot" = some (.ref g3)) :
    FnOk P w K mg base CX 4 f fd ["matrix", "count"] (spRed1 K) := by
  refine F.ok scRed (fun vs H Q E h => ?_) (fun cdv A outer s H vs Q E hr h => ?_)
  · obtain ⟨g, us, X, n, w', rfl, hU, hX, hO, q⟩ := h
    rfl
  obtain ⟨g, us, X, n, w', rfl, hU, hX, hO, q⟩ := h
  have r2 := hr.mono (show 2 ≤ 3 by omega)
  have hu := hu_of hr
  refine ⟨_, (pss_cons (ps_setC (i := 2) (nl := 1) (fr := []) (Nc := ["row"]) (cl := []) scRed.nd rfl rfl rfl ⟨rfl, rfl, by decide +kernel, by decide +kernel, fun x c h => (by cases h), has_of rfl, rfl, fun i n h => (by simp at h)⟩
        (pi_list (pv 0)) (fun C s3 H3 fp pins => (pg_name (i := 0) nd_row rfl (Or.inl rfl))) (fun C s3 H3 fp pins => pif_nil)
        (fun C s3 H3 fp pins => (pe_call G1 r2 rfl m1 k1 b1 .nil pass0 (pa_cons (pv 0) pa_nil))) rfl)
    (pss_cons (ps_set (i := 3) scRed.nd rfl (Or.inr rfl) (pe_call G2 hr rfl m2 k2 b2 .nil pass0 (pa_cons (pe_comp (nl := 1) (fr := []) (Nc := ["row"]) (cl := []) rfl ⟨rfl, rfl, by decide +kernel, by decide +kernel, fun x c h => (by cases h), has_of rfl, rfl, fun i n h => (by simp at h)⟩
        (pi_list (pv 2)) (fun C s3 H3 fp pins => (pg_name (i := 0) nd_row rfl (Or.inl rfl))) (fun C s3 H3 fp pins => pif_nil)
        (fun C s3 H3 fp pins => (pe_ix (ix_tupK (K := K) rfl) (pv 0) pe_int (fun _ _ => rfl)))) (pa_cons (pv 1) pa_nil))))
    (pss_one (ps_ret (pe_comp (nl := 2) (fr := [3, 1]) (Nc := ["left", "row", "end", "count"]) (cl := [("end", s.heap.objs.size + 2), ("count", s.heap.objs.size + 1)]) (g := (gTup K 2 (gCons (gName 0) (gCons (gName 1) gNil)))) rfl ⟨rfl, rfl, by decide +kernel, by decide +kernel, (sub_cons rfl (sub_cons rfl (sub_nil))), has_of rfl, rfl, fun i n h => match i, h with | 0, h => by cases h; exact ⟨3, rfl, rfl, rfl, rfl, .inl rfl⟩ | 1, h => by cases h; exact ⟨1, rfl, rfl, rfl, rfl, .inl rfl⟩ | k + 2, h => by rw [show 2 + (k + 2) = k + 4 by omega] at h; cases h⟩
        (pi_zip rfl mz rfl (pa_cons (pe_slice sl_list (pe_dget hu (pv 3) pe_str (fun _ _ => rfl)) (po_some (pv 1)) po_none) (pa_cons (pe_slice sl_list (pv 2) (po_some (pv 1)) po_none) pa_nil))) (fun C s3 H3 fp pins => (pg_tup rfl (pgs_cons (pg_name (i := 0) nd_left_row_end_count rfl (Or.inl rfl)) (pgs_cons (pg_name (i := 1) nd_left_row_end_count rfl (Or.inl rfl)) pgs_nil)))) (fun C s3 H3 fp pins => pif_nil)
        (fun C s3 H3 fp pins => (pe_call G3 hr rfl m3 k3 b3 .nil pass0 (pa_cons (pe_slice (sl_listK (K := K) rfl) (pv 0) (po_some (pv 3)) po_none) (pa_cons (pe_op op_mulB (pe_dget hu (pv 2) pe_str (fun _ _ => rfl)) (pe_ix (ix_tupK (K := K) rfl) (pv 1) pe_int (fun _ _ => rfl))) pa_nil))))))))), ?_⟩
  have lu := hX.l
  have m1 := hO.m1
  have m9 := hO.m9
  have w1 := hO.w1
  have w9 := hO.w9
  have bits := hO.bits
  refine ⟨_, rfl, g, rfl, ⟨_, hU⟩, fun D1 hD1 => ?_⟩
  have sD1 := same_new hD1 (.lst [])
  refine comp_list (xs := us) (fun i zs H' => Same H H' ∧ H' D1 = some (.lst zs) ∧ Wmx K D1 H' zs ((X.take i).map wh)) ⟨sD1, upd_same, .nil⟩ (fun i zs H' h => h.2.1) (fun i zs H' _ h => h.1.seq hU) ?_ ?_
  · rintro i zs x H1 hx ⟨s1, e1, W1⟩ C hC
    have hi : i < X.length := by have := (List.getElem?_eq_some_iff.mp hx).1; omega
    have er := Mq.getL hi
    obtain ⟨u, ys, rfl, hu', fu⟩ := hX.r i x _ hx er
    obtain ⟨rl, rp, rb⟩ := hO.row hi
    have lz := W1.length
    rw [List.length_map, List.length_take] at lz
    refine ⟨keep1.1, keep1.2, iteT ?_⟩
    refine ⟨_, rfl, u, ys, X.getD i [], n, rfl, s1.seq hu', fu.same s1, rp, rb, by omega, by rw [rl]; omega, fun t l H2 s2 nl ht hl => ?_⟩
    have e2 := s2 _ _ e1
    have ne : l ≠ D1 := fun z => by rw [z, e1] at nl; cases nl
    refine ⟨e2, small1000 (by omega), hC _ _ ⟨(s1.trans s2).change hD1, upd_same, ?_⟩⟩
    have ee : (X.take (i + 1)).map wh = (X.take i).map wh ++ [wh (X.getD i [])] := by rw [List.take_add_one, er, List.map_append]; rfl
    rw [ee]
    exact ((W1.same s2).app (.cons ne ht hl .nil)).upd e2
  rintro zs1 H1 ⟨s1, e1, W1⟩
  rw [lu, List.take_length] at W1
  have lz1 := W1.length
  rw [List.length_map] at lz1
  refine ⟨_, rfl, D1, rfl, ⟨_, SqL.of e1⟩, fun D2 hD2 => ?_⟩
  have sD2 := same_new hD2 (.lst [])
  refine comp_list (xs := zs1) (fun i zs H' => Same H1 H' ∧ H' D2 = some (.lst zs) ∧ Imx D2 H' zs ((X.map Mq.iw).take i)) ⟨sD2, upd_same, .nil⟩ (fun i zs H' h => h.2.1) (fun i zs H' _ h => h.1.seq (SqL.of e1)) ?_ ?_
  · rintro i zs x H2 hx ⟨s2, e2, J2⟩ C hC
    obtain ⟨t, l, r, rfl, er, ht, hl⟩ := W1.get hx
    obtain ⟨row, erow, rfl⟩ : ∃ row, X[i]? = some row ∧ r = wh row := by
      rw [List.getElem?_map] at er
      cases e : X[i]? with
      | none => rw [e] at er; cases er
      | some row => rw [e] at er; cases er; exact ⟨row, rfl, rfl⟩
    have lz := J2.length
    rw [List.length_take, List.length_map] at lz
    have ne : l ≠ D2 := fun z => by rw [z, hD2] at hl; cases hl
    refine ⟨keep1.1, keep1.2, iteT ?_⟩
    refine ⟨_, rfl, t, _, _, _, rfl, rfl, s2.seqT ht, rfl, ?_⟩
    refine ⟨e2, small1000 (by omega), hC _ _ ⟨s2.change hD2, upd_same, ?_⟩⟩
    have ee : (X.map Mq.iw).take (i + 1) = (X.map Mq.iw).take i ++ [Mq.iw row] := by rw [List.take_add_one, List.getElem?_map, erow]; rfl
    rw [ee]
    exact (J2.app (.cons ne (s2 _ _ hl) .nil)).upd
  rintro zs2 H2 ⟨s2, e2, J2⟩
  rw [lz1, show X.length = (X.map Mq.iw).length by simp, List.take_length] at J2
  have sA := s1.trans s2
  have bd0 := hO.bd
  refine ⟨_, rfl, D2, D2, zs2, X.map Mq.iw, X.length, w', n + (1 + n * w'), rfl, SqL.of e2, J2, by simp, m1, by omega, hO.wid, w1, by omega, bd0, by omega, by omega, hO.e0, fun d lE zE H3 s3 ed el IE => ?_⟩
  obtain ⟨g1', g2', g3', g4'⟩ := elim_get ed
  have sB := sA.trans s3
  have W3 := W1.same (s2.trans s3)
  have lE' := IE.length
  rw [Mq.clr_len, List.length_map] at lE'
  -- the slices
  refine ⟨_, rfl, d, _, rfl, g1', _, rfl, 1, rfl, lE, zE, rfl, SqL.of el, fun A hA => ?_⟩
  rw [show (1 : Int) = ((1 : Nat) : Int) from rfl, cut_fromI]
  have s4 := same_new hA (.lst (zE.drop 1))
  have e4 : upd H3 A (.lst (zE.drop 1)) A = some (.lst (zE.drop 1)) := upd_same
  generalize upd H3 A (.lst (zE.drop 1)) = H4 at s4 e4 ⊢
  refine ⟨_, rfl, _, rfl, ((1 : Nat) : Int), rfl, D1, zs1, rfl, SqL.of (s4 _ _ ((s2.trans s3) _ _ e1)), fun B hB => ?_⟩
  rw [cut_fromI]
  have s5 := same_new hB (.lst (zs1.drop 1))
  have e5 : upd H4 B (.lst (zs1.drop 1)) B = some (.lst (zs1.drop 1)) := upd_same
  generalize upd H4 B (.lst (zs1.drop 1)) = H5 at s5 e5 ⊢
  have e4' := s5 _ _ e4
  have s35 := s4.trans s5
  refine ⟨A, B, rfl, ⟨_, SqL.of e4'⟩, ⟨_, SqL.of e5⟩, fun D hD => ?_⟩
  have sD := same_new hD (.lst [])
  refine comp_zip (xs := zE.drop 1) (ys := zs1.drop 1) (fun i zs H' => Same H5 H' ∧ H' D = some (.lst zs) ∧ Lns K H' zs ((Mq.redX X).take i) ∧ ∀ x ∈ zs, x ≠ .ref D) ⟨sD, upd_same, by rw [List.take_zero]; exact .nil, fun x hx => by cases hx⟩ (fun i zs H' h => h.2.1) (fun i zs H' _ h => ⟨h.1.seq (SqL.of e4'), h.1.seq (SqL.of e5)⟩) ?_ ?_
  · rintro i zs x y H6 T1 ex ey ⟨s6, e6, F6, n6⟩ hT C hC
    rw [List.getElem?_drop] at ex ey
    have hi : 1 + i < X.length := by have := (List.getElem?_eq_some_iff.mp ey).1; omega
    obtain ⟨t, l, r, rfl, er, ht, hl⟩ := W3.get ey
    have er' : r = wh (X.getD (i + 1) []) := by
      rw [List.getElem?_map, Mq.getL hi, Nat.add_comm] at er
      cases er; rfl
    subst er'
    obtain ⟨u, r', rfl, eR, _, hu6⟩ := IE.get ex
    have eR' : r' = (Mq.clrRows (X.map Mq.iw) 0 0 1).getD (i + 1) [] := by
      rw [List.getD_eq_getElem?_getD, Nat.add_comm, eR]; rfl
    have sT := same_new hT (.tup [.ref u, .ref t])
    refine ⟨T1, _, rfl, SqT.of upd_same, rfl, _, _, rfl, _, _, rfl, rfl, keep2.1, keep2.2, iteT ?_⟩
    generalize upd H6 T1 (.tup [.ref u, .ref t]) = H7 at sT ⊢
    have s37 := (s35.trans s6).trans sT
    refine ⟨_, rfl, _, rfl, ((1 : Nat) : Int), rfl, u, _, rfl, SqL.of (s37 _ _ hu6), fun L hL => ?_⟩
    rw [cut_fromI, ← List.map_drop]
    have sL := same_new hL (.lst ((r'.drop 1).map V.int))
    have eL : upd H7 L (.lst ((r'.drop 1).map V.int)) L = some (.lst ((r'.drop 1).map V.int)) := upd_same
    generalize upd H7 L (.lst ((r'.drop 1).map V.int)) = H8 at sL eL ⊢
    have s38 := s37.trans sL
    obtain ⟨l1, lb⟩ := hO.lcm (i := i + 1) (by omega)
    have pB := (bd0 0 0).mul lb
    have ne : Mq.ent (X.map Mq.iw) 0 0 * Mq.lcmB (X.getD (i + 1) []) ≠ 0 := Int.mul_ne_zero hO.e0 (by omega)
    have rl' : r'.length = w' := by
      rw [eR']
      exact (Mq.clr_row (R := X.map Mq.iw) (w := w') (i := i + 1) (j := 0) (fun i hi => hO.wid i (by simpa using hi)) (by simp; omega) (by omega) (by omega)).1
    refine ⟨_, rfl, d, _, rfl, (elim_get (s38 _ _ ed)).2.2.1, _, rfl, t, _, _, _, rfl, rfl, s38.seqT ht, rfl, rd_mulB (bd0 0 0) lb (by omega) (by omega) ?_⟩
    refine ⟨L, r'.drop 1, _, n + (1 + n * w') + (1 + n * w'), rfl, SqL.of eL, by rw [List.length_drop]; omega, ne, pB, by omega, fun l' zs' H9 s9 nl' e9 F9 => ?_⟩
    have eA := s9 _ _ (sL _ _ (sT _ _ e6))
    have lz := F6.l
    rw [List.length_take, Mq.redX_len] at lz
    have nlD : l' ≠ D := fun z => by rw [z, sL _ _ (sT _ _ e6)] at nl'; cases nl'
    refine ⟨eA, small1000 (by omega), hC _ _ ⟨(s6.trans (sT.trans (sL.trans s9))).change hD, upd_same, ?_, fun z hz => ?_⟩⟩
    · rw [List.take_add_one, Mq.getL (by rw [Mq.redX_len]; omega), Mq.redX_get (by omega)]
      have F9' : Fqs K H9 zs' (Mq.redRow X (i + 1)) := by unfold Mq.redRow; rw [← eR']; exact F9
      refine ((F6.same (sT.trans (sL.trans s9))).snoc (SqL.of e9) F9').upd eA fun z hz => ?_
      rcases List.mem_append.mp hz with c | c
      · exact n6 z c
      · have : z = .ref l' := by simpa using c
        rw [this]; exact fun c => nlD (by injection c)
    · rcases List.mem_append.mp hz with c | c
      · exact n6 z c
      · have : z = .ref l' := by simpa using c
        rw [this]; exact fun c => nlD (by injection c)
  rintro zs H6 ⟨s6, e6, F6, n6⟩
  rw [List.length_drop, List.length_drop, lE', lz1, Nat.min_self, List.take_of_length_le (by rw [Mq.redX_len]; omega)] at F6
  exact q D zs H6 ((sB.trans s35).trans s6) e6 F6
end
end K55

set_option Elab.async false
set_option linter.all false
set_option maxRecDepth 100000
set_option maxHeartbeats 4000000
namespace K55
open PySem L2 Shp
section
variable {P : Program} {w : World} {K : PySem.W.Frag} {mg : Str → Option Value} {base : Heap} {f g1 g2 g3 g4 g5 g6 g7 g8 g9 g10 g11 : Addr} {fd gd1 gd2 gd3 gd4 gd5 gd6 gd7 gd8 gd9 gd10 gd11 : FuncData} {CX : CXT}
theorem pe_fldK {X : Cx} {K : PySem.W.Frag} {e : Expr} {f : Str} {pos : Pos} {ta : TE} (h : X.K = K) (he : PE X e ta) (hb : attributeBase e f X.env (eval e X.env) = eval e X.env) : PE X (.Attribute e f pos) (tFld K ta f) := by subst h; exact pe_fld he hb
theorem op_notIn_seqK {X : Cx} {K : PySem.W.Frag} (h : X.K = K) : OpR X (compareOp .NotIn) (rIn K true) := by subst h; exact op_notIn_seq
theorem eqV_int (p c : Int) : eqV (.int p) (.int c) = decide (p = c) := by unfold eqV; first | rfl | simp
theorem inV_ints (c : Int) : ∀ ps : List Int, inV (.int c) (ps.map V.int) = decide (c ∈ ps)
  | [] => rfl
  | p :: ps => by
    have ih := inV_ints c ps
    show (eqV (.int p) (.int c) || inV (.int c) (ps.map V.int)) = _
    rw [ih, eqV_int]
    by_cases h : p = c
    · subst h; simp
    · have h' : c ≠ p := fun z => h z.symm
      simp [h, h']
theorem flat_ints : ∀ ps : List Int, (ps.map V.int).all flatV = true
  | [] => rfl
  | p :: ps => by show (true && (ps.map V.int).all flatV) = true; rw [flat_ints ps]; rfl
theorem wt_all {n : Nat} : ∀ {ps : List Mq.Q2}, (∀ p ∈ ps, Mq.Bd n p) → Mq.Wt ps ((n + 1) * ps.length)
  | [], _ => .nil
  | p :: r, h => by
    have := Mq.Wt.cons (h p (by simp)) (wt_all (ps := r) fun q hq => h q (by simp [hq]))
    rw [List.length_cons, Nat.mul_add, Nat.mul_one, Nat.add_comm]
    exact this
def dotL (ps qs : List Mq.Q2) : List Mq.Q2 := List.zipWith Mq.times ps qs
def dot (ps qs : List Mq.Q2) : Mq.Q2 := Mq.tot (dotL ps qs)
structure LB (n : Nat) (ps : List Mq.Q2) : Prop where
  h : ∀ p ∈ ps, Mq.Low p ∧ Mq.Bd n p
theorem LB.at {n : Nat} {ps : List Mq.Q2} (h : LB n ps) {i : Nat} (hi : i < ps.length) : Mq.Low (ps.getD i Mq.z0) ∧ Mq.Bd n (ps.getD i Mq.z0) := h.h _ (List.mem_of_getElem? (Mq.getQ1 hi))
theorem dot_len {ps qs : List Mq.Q2} (hl : ps.length = qs.length) : (dotL ps qs).length = ps.length := by unfold dotL; rw [List.length_zipWith]; omega
theorem dot_get {ps qs : List Mq.Q2} (hl : ps.length = qs.length) {i : Nat} (hi : i < ps.length) : (dotL ps qs)[i]? = some (Mq.times (ps.getD i Mq.z0) (qs.getD i Mq.z0)) := by
  unfold dotL
  rw [List.getElem?_zipWith, Mq.getQ1 hi, Mq.getQ1 (show i < qs.length by omega)]
theorem dot_all {n m : Nat} {ps qs : List Mq.Q2} (hp : LB n ps) (hq : LB m qs) (hl : ps.length = qs.length) : ∀ p ∈ dotL ps qs, Mq.Low p ∧ Mq.Bd (n + m) p := fun p h => by
  obtain ⟨i, hi, rfl⟩ := List.getElem_of_mem h
  rw [dot_len hl] at hi
  have e := dot_get hl hi
  rw [List.getElem?_eq_getElem (by rw [dot_len hl]; exact hi)] at e
  injection e with e
  rw [e]
  obtain ⟨a1, a2⟩ := hp.at hi
  obtain ⟨b1, b2⟩ := hq.at (i := i) (by omega)
  exact ⟨Mq.times_low a1.pos b1.pos, Mq.times_bd a2 b2 a1.pos b1.pos⟩
theorem dot_low {n m : Nat} {ps qs : List Mq.Q2} (hp : LB n ps) (hq : LB m qs) (hl : ps.length = qs.length) : Mq.Low (dot ps qs) := Mq.tot_low fun p h => (dot_all hp hq hl p h).1.pos
theorem dot_bd {n m : Nat} {ps qs : List Mq.Q2} (hp : LB n ps) (hq : LB m qs) (hl : ps.length = qs.length) : Mq.Bd (1 + (n + m + 1) * ps.length) (dot ps qs) := by
  have := Mq.tot_bd (l := dotL ps qs) (fun p h => (dot_all hp hq hl p h).1.pos) (fun p h => (dot_all hp hq hl p h).2)
  rwa [dot_len hl] at this
theorem dot_val {n m : Nat} {ps qs : List Mq.Q2} (hp : LB n ps) (hq : LB m qs) (hl : ps.length = qs.length) : Mq.val (dot ps qs) = Mq.rs ps.length fun i => Mq.val (ps.getD i Mq.z0) * Mq.val (qs.getD i Mq.z0) := by
  unfold dot
  rw [Mq.val_tot (fun p h => (dot_all hp hq hl p h).1.pos), Mq.rsum_get, List.length_map, dot_len hl]
  refine Mq.rs_congr fun i hi => ?_
  rw [List.getD_eq_getElem?_getD, List.getElem?_map, dot_get hl hi]
  exact Mq.val_times (hp.at hi).1.pos (hq.at (i := i) (by omega)).1.pos
def spAlong (K : PySem.W.Frag) : Sp := fun vs H Q _ => ∃ (a b : Addr) (xs ys : List V) (ps qs : List Mq.Q2) (n m : Nat), vs = [.ref a, .ref b] ∧ SqL K H a xs ∧ Fqs K H xs ps ∧ SqL K H b ys ∧ Fqs K H ys qs ∧ LB n ps ∧ LB m qs ∧ ps.length = qs.length ∧ ps.length ≤ 10 ∧ n + m + 1 ≤ 800 ∧ ∀ r H', Same H H' → Fq K H' r (dot ps qs) → Q (.ref r) H'
def brL (X : List (List Mq.Q2)) (cs hs : List Mq.Q2) : List Mq.Q2 := List.zipWith (fun row c => Mq.minus (dot row hs) c) X cs
def spBrought (CT : Addr) (K : PySem.W.Frag) : Sp := fun vs H Q _ => ∃ (t b : Addr) (es : List Int) (X : List (List Mq.Q2)) (cs hs : List Mq.Q2) (ys : List V) (n m w : Nat), vs = [.ref t, .ref b] ∧ TabAt CT K H t es X cs ∧ TbOk n w es X cs ∧ SqL K H b ys ∧ Fqs K H ys hs ∧ LB m hs ∧ hs.length = w ∧ n + m + 1 ≤ 800 ∧ ∀ l zs H', Same H H' → H' l = some (.lst zs) → Fqs K H' zs (brL X cs hs) → Q (.ref l) H'
theorem br_len {n w : Nat} {es : List Int} {X : List (List Mq.Q2)} {cs : List Mq.Q2} (h : TbOk n w es X cs) (hs : List Mq.Q2) : (brL X cs hs).length = w := by unfold brL; rw [List.length_zipWith, h.lX, h.lc]; omega
theorem br_get {n w : Nat} {es : List Int} {X : List (List Mq.Q2)} {cs : List Mq.Q2} (h : TbOk n w es X cs) (hs : List Mq.Q2) {i : Nat} (hi : i < w) : (brL X cs hs)[i]? = some (Mq.minus (dot (X.getD i []) hs) (cs.getD i Mq.z0)) := by
  unfold brL
  rw [List.getElem?_zipWith, Mq.getL (by rw [h.lX]; exact hi), Mq.getQ1 (by rw [h.lc]; exact hi)]
theorem _root_.L2.TbOk.lb {n w : Nat} {es : List Int} {X : List (List Mq.Q2)} {cs : List Mq.Q2} (h : TbOk n w es X cs) {i : Nat} (hi : i < w) : (X.getD i []).length = w ∧ LB n (X.getD i []) := by
  have a := h.r _ (List.mem_of_getElem? (Mq.getL (by rw [h.lX]; exact hi)))
  exact ⟨a.1, ⟨a.2⟩⟩
theorem br_val {n m w : Nat} {es : List Int} {X : List (List Mq.Q2)} {cs hs : List Mq.Q2} (h : TbOk n w es X cs) (hh : LB m hs) (hl : hs.length = w) {i : Nat} (hi : i < w) : Mq.Low ((brL X cs hs).getD i Mq.z0) ∧ Mq.Bd (1 + (n + m + 1) * w + n + 1) ((brL X cs hs).getD i Mq.z0) ∧ Mq.val ((brL X cs hs).getD i Mq.z0) = (Mq.rs w fun j => matX X i j * cv hs j) - cv cs i := by
  obtain ⟨l1, l2⟩ := h.lb hi
  obtain ⟨c1, c2⟩ := h.cat hi
  have dl := dot_low l2 hh (by omega)
  have db := dot_bd l2 hh (by omega)
  rw [List.getD_eq_getElem?_getD, br_get h hs hi]
  rw [l1] at db
  refine ⟨Mq.minus_low dl.pos c1.pos, Mq.minus_bd db c2 dl.pos c1.pos, ?_⟩
  show Mq.val (Mq.minus (dot (X.getD i []) hs) (cs.getD i Mq.z0)) = _
  rw [Mq.val_minus dl.pos c1.pos, dot_val l2 hh (by omega), l1]
  rfl
def pickX (ks : List Nat) (X : List (List Mq.Q2)) : List (List Mq.Q2) := ks.map fun i => ks.map fun j => Mq.ix2 X i j
abbrev nats (ks : List Nat) : List V := ks.map fun (i : Nat) => V.int (i : Int)
def spPicked (K : PySem.W.Frag) : Sp := fun vs H Q _ => ∃ (g l : Addr) (us : List V) (X : List (List Mq.Q2)) (ks : List Nat) (w : Nat), vs = [.ref g, .ref l] ∧ SqL K H g us ∧ Lns K H us X ∧ X.length = w ∧ (∀ row ∈ X, row.length = w) ∧ SqL K H l (nats ks) ∧ (∀ k ∈ ks, k < w) ∧ ks.length ≤ 100 ∧ ∀ l' zs H', Same H H' → H' l' = some (.lst zs) → LnH K H' zs (pickX ks X) → Q (.ref l') H'
theorem nd_number_height : (["number", "height"] : List Str).Nodup := by decide +kernel
abbrev sAlong : Stmt := top 25
theorem scAlong : FnScope ["line", "heights"] ["line", "heights"] (defScope sAlong) := ⟨rfl, rfl, rfl, by decide +kernel, rfl, by decide +kernel, by decide +kernel⟩
theorem ok_along {dV : Value} (F : FunD K "along" "along" sAlong dV f fd)
    (mz : mg "zip" = none)
    (G1 : FnOk P w K mg base CX0 4 g1 gd1 ["some"] (spTotW K)) (b1 : Binds K gd1 ["some"] []) (k1 : PySem.W.keepIn K (.ref g1) = true) (m1 : mg "total" = some (.ref g1))
    (G2 : FnOk P w K mg base CX0 3 g2 gd2 ["one", "other"] (spTwo K Mq.times)) (b2 : Binds K gd2 ["one", "other"] []) (k2 : PySem.W.keepIn K (.ref g2) = true) (m2 : mg "times" = some (.ref g2)) :
    FnOk P w K mg base CX 5 f fd ["line", "heights"] (spAlong K) := by
  refine F.ok scAlong (fun vs H Q E h => ?_) (fun cdv A outer s H vs Q E hr h => ?_)
  · obtain ⟨a, b, xs, ys, ps, qs, n, m, rfl, ha, hp, hb, hq, LP, LQ, hl, h10, hn, q⟩ := h
    rfl
  obtain ⟨a, b, xs, ys, ps, qs, n, m, rfl, ha, hp, hb, hq, LP, LQ, hl, h10, hn, q⟩ := h
  have r3 := hr.mono (show 3 ≤ 4 by omega)
  refine ⟨_, (pss_one (ps_ret (pe_call G1 hr rfl m1 k1 b1 .nil pass0 (pa_cons (pe_comp (nl := 2) (fr := []) (Nc := ["number", "height"]) (cl := []) (g := (gTup K 2 (gCons (gName 0) (gCons (gName 1) gNil)))) rfl ⟨rfl, rfl, by decide +kernel, by decide +kernel, fun x c h => (by cases h), has_of rfl, rfl, fun i n h => (by simp at h)⟩
        (pi_zip rfl mz rfl (pa_cons (pv 0) (pa_cons (pv 1) pa_nil))) (fun C s3 H3 fp pins => (pg_tup rfl (pgs_cons (pg_name (i := 0) nd_number_height rfl (Or.inl rfl)) (pgs_cons (pg_name (i := 1) nd_number_height rfl (Or.inl rfl)) pgs_nil)))) (fun C s3 H3 fp pins => pif_nil)
        (fun C s3 H3 fp pins => (pe_call G2 r3 rfl m2 k2 b2 .nil pass0 (pa_cons (pv 0) (pa_cons (pv 1) pa_nil))))) pa_nil)))), ?_⟩
  refine ⟨_, rfl, _, rfl, a, b, rfl, ⟨_, ha⟩, ⟨_, hb⟩, fun D hD => ?_⟩
  have sD := same_new hD (.lst [])
  have lx := hp.length
  have ly := hq.length
  refine comp_zip (xs := xs) (ys := ys) (fun i zs H' => Same H H' ∧ H' D = some (.lst zs) ∧ Fqs K H' zs ((dotL ps qs).take i)) ⟨sD, upd_same, .nil⟩ (fun i zs H' h => h.2.1) (fun i zs H' _ h => ⟨h.1.seq ha, h.1.seq hb⟩) ?_ ?_
  · rintro i zs x y H1 T1 ex ey ⟨s1, e1, F1⟩ hT C hC
    have hi : i < ps.length := by have := (List.getElem?_eq_some_iff.mp ex).1; omega
    obtain ⟨u, p, rfl, ep, fu⟩ := hp.get ex
    obtain ⟨v, p', rfl, ep', fv⟩ := hq.get ey
    rw [Mq.getQ1 hi] at ep
    rw [Mq.getQ1 (show i < qs.length by omega)] at ep'
    cases ep
    cases ep'
    have lz := F1.length
    rw [List.length_take, dot_len hl] at lz
    have sT := same_new hT (.tup [.ref u, .ref v])
    refine ⟨T1, _, rfl, SqT.of upd_same, rfl, _, _, rfl, _, _, rfl, rfl, keep2.1, keep2.2, iteT ?_⟩
    generalize upd H1 T1 (.tup [.ref u, .ref v]) = H2 at sT ⊢
    obtain ⟨a1, a2⟩ := LP.at hi
    obtain ⟨b1, b2⟩ := LQ.at (i := i) (by omega)
    refine ⟨_, rfl, _, rfl, u, v, _, _, n, m, rfl, (s1.trans sT).seqT fu, (s1.trans sT).seqT fv, a1.pos, b1.pos, a2, b2, by omega, fun r H3 s3 e3 => ?_⟩
    have eA := s3 _ _ (sT _ _ e1)
    refine ⟨eA, small1000 (by omega), hC _ _ ⟨(s1.trans (sT.trans s3)).change hD, upd_same, ?_⟩⟩
    rw [List.take_add_one, dot_get hl hi]
    exact ((F1.same (sT.trans s3)).app (.cons (Fq.of e3) .nil)).upd eA
  rintro zs H1 ⟨s1, e1, F1⟩
  rw [lx, ly, ← hl, Nat.min_self, List.take_of_length_le (by rw [dot_len hl]; omega)] at F1
  have W := wt_all (ps := dotL ps qs) (n := n + m) (fun p h => (dot_all LP LQ hl p h).2)
  rw [dot_len hl] at W
  have mb : (n + m + 1) * ps.length ≤ 800 * 10 := Nat.mul_le_mul (by omega) h10
  exact ⟨D, zs, _, _, rfl, SqL.of e1, F1, fun p h => (dot_all LP LQ hl p h).1.pos, W, by omega, fun r H2 s2 f2 => q r H2 (s1.trans s2) f2⟩
theorem nd_line_arrival_heights : (["line", "arrival", "heights"] : List Str).Nodup := by decide +kernel
abbrev sBrought : Stmt := inClass (top 24) 4
theorem scBrought : FnScope ["self", "heights"] ["self", "heights"] (defScope sBrought) := ⟨rfl, rfl, rfl, by decide +kernel, rfl, by decide +kernel, by decide +kernel⟩
theorem ok_brought {dV : Value} {CT : Addr} (F : FunD K "brought" "Table.brought" sBrought dV f fd) (TBx : TB K mg CT)
    (mz : mg "zip" = none)
    (G1 : FnOk P w K mg base CX0 5 g1 gd1 ["line", "heights"] (spAlong K)) (b1 : Binds K gd1 ["line", "heights"] []) (k1 : PySem.W.keepIn K (.ref g1) = true) (m1 : mg "along" = some (.ref g1))
    (G2 : FnOk P w K mg base CX0 3 g2 gd2 ["one", "other"] (spTwo K Mq.minus)) (b2 : Binds K gd2 ["one", "other"] []) (k2 : PySem.W.keepIn K (.ref g2) = true) (m2 : mg "minus" = some (.ref g2)) : FnOk P w K mg base CX 6 f fd ["self", "heights"] (spBrought CT K) := by
  refine F.ok scBrought (fun vs H Q E h => ?_) (fun cdv A outer s H vs Q E hr h => ?_)
  · obtain ⟨t, b, es, X, cs, hs, ys, n, m, w', rfl, ⟨⟨dx, p, l, a, us, zc, ht, hp, hU, hL0, ha, hC⟩⟩, TO, hb, fh, LH, lh, hn, q⟩ := h
    rfl
  obtain ⟨t, b, es, X, cs, hs, ys, n, m, w', rfl, ⟨⟨dx, p, l, a, us, zc, ht, hp, hU, hL0, ha, hC⟩⟩, TO, hb, fh, LH, lh, hn, q⟩ := h
  have r3 := hr.mono (show 3 ≤ 5 by omega)
  refine ⟨_, (pss_one (ps_ret (pe_comp (nl := 2) (fr := [1]) (Nc := ["line", "arrival", "heights"]) (cl := [("heights", s.heap.objs.size + 1)]) (g := (gTup K 2 (gCons (gName 0) (gCons (gName 1) gNil)))) rfl ⟨rfl, rfl, by decide +kernel, by decide +kernel, fun x c h => h, has_of rfl, rfl, fun i n h => match i, h with | 0, h => by cases h; exact ⟨1, rfl, rfl, rfl, rfl, .inl rfl⟩ | k + 1, h => by rw [show 2 + (k + 1) = k + 3 by omega] at h; cases h⟩
        (pi_zip rfl mz rfl (pa_cons (pe_fld (pv 0) rfl) (pa_cons (pe_fld (pv 0) rfl) pa_nil))) (fun C s3 H3 fp pins => (pg_tup rfl (pgs_cons (pg_name (i := 0) nd_line_arrival_heights rfl (Or.inl rfl)) (pgs_cons (pg_name (i := 1) nd_line_arrival_heights rfl (Or.inl rfl)) pgs_nil)))) (fun C s3 H3 fp pins => pif_nil)
        (fun C s3 H3 fp pins => (pe_call G2 r3 rfl m2 k2 b2 .nil pass0 (pa_cons (pe_call G1 hr rfl m1 k1 b1 .nil pass0 (pa_cons (pv 0) (pa_cons (pv 2) pa_nil))) (pa_cons (pv 1) pa_nil))))))), ?_⟩
  refine ⟨_, rfl, t, CT, _, _, _, rfl, ht, TBx.cl, TBx.nL, tflds_l _ _ _, _, rfl, t, CT, _, _, _, rfl, ht, TBx.cl, TBx.nA, tflds_a _ _ _, l, a, rfl, ⟨_, hU⟩, ⟨_, ha⟩, fun D hD => ?_⟩
  have sD := same_new hD (.lst [])
  have lu := hL0.l
  have lX := TO.lX
  have lc := TO.lc
  have w6 := TO.w6
  have lz0 := hC.length
  refine comp_zip (xs := us) (ys := zc) (fun i zs H' => Same H H' ∧ H' D = some (.lst zs) ∧ Fqs K H' zs ((brL X cs hs).take i)) ⟨sD, upd_same, .nil⟩ (fun i zs H' h => h.2.1) (fun i zs H' _ h => ⟨h.1.seq hU, h.1.seq ha⟩) ?_ ?_
  · rintro i zs x y H1 T1 ex ey ⟨s1, e1, F1⟩ hT C hC'
    have hi : i < w' := by have := (List.getElem?_eq_some_iff.mp ex).1; omega
    obtain ⟨u, xs, rfl, hu, fu⟩ := hL0.r i x _ ex (Mq.getL (by omega))
    obtain ⟨v, p', rfl, ep', fv⟩ := hC.get ey
    rw [Mq.getQ1 (show i < cs.length by omega)] at ep'
    cases ep'
    have lz := F1.length
    rw [List.length_take, br_len TO] at lz
    have sT := same_new hT (.tup [.ref u, .ref v])
    refine ⟨T1, _, rfl, SqT.of upd_same, rfl, _, _, rfl, _, _, rfl, rfl, keep2.1, keep2.2, iteT ?_⟩
    generalize upd H1 T1 (.tup [.ref u, .ref v]) = H2 at sT ⊢
    have s2 := s1.trans sT
    obtain ⟨l1, l2⟩ := TO.lb hi
    obtain ⟨c1, c2⟩ := TO.cat hi
    have dl := dot_low l2 LH (by omega)
    have db := dot_bd l2 LH (by omega)
    rw [l1] at db
    refine ⟨_, rfl, _, rfl, u, b, xs, ys, _, hs, n, m, rfl, s2.seq hu, fu.same s2, s2.seq hb, fh.same s2, l2, LH, by omega, by omega, hn, fun r H3 s3 f3 => ?_⟩
    have mb : (n + m + 1) * w' ≤ 800 * 6 := Nat.mul_le_mul (by omega) w6
    refine ⟨_, rfl, r, v, _, _, _, n, rfl, f3, s3.seqT (s2.seqT fv), dl.pos, c1.pos, db, c2, by omega, fun r' H4 s4 e4 => ?_⟩
    have eA := s4 _ _ (s3 _ _ (sT _ _ e1))
    refine ⟨eA, small1000 (by omega), hC' _ _ ⟨(s2.trans (s3.trans s4)).change hD, upd_same, ?_⟩⟩
    rw [List.take_add_one, br_get TO hs hi]
    exact ((F1.same (sT.trans (s3.trans s4))).app (.cons (Fq.of e4) .nil)).upd eA
  rintro zs H1 ⟨s1, e1, F1⟩
  rw [lu, lz0, lX, lc, Nat.min_self, List.take_of_length_le (by rw [br_len TO]; omega)] at F1
  exact q D zs H1 s1 e1 F1
theorem nd_line_places_matrix : (["line", "places", "matrix"] : List Str).Nodup := by decide +kernel
theorem nd_column_matrix_line : (["column", "matrix", "line"] : List Str).Nodup := by decide +kernel
abbrev sPick : Stmt := top 27
theorem scPick : FnScope ["matrix", "places"] ["matrix", "places"] (defScope sPick) := ⟨rfl, rfl, rfl, by decide +kernel, rfl, by decide +kernel, by decide +kernel⟩
theorem ok_pick {dV : Value} (F : FunD K "picked" "picked" sPick dV f fd) :
    FnOk P w K mg base CX 1 f fd ["matrix", "places"] (spPicked K) := by
  refine F.ok scPick (fun vs H Q E h => ?_) (fun cdv A outer s H vs Q E hr h => ?_)
  · obtain ⟨g, l, us, X, ks, w', rfl, hU, hX, lX, wX, hK, hk, h100, q⟩ := h
    rfl
  obtain ⟨g, l, us, X, ks, w', rfl, hU, hX, lX, wX, hK, hk, h100, q⟩ := h
  refine ⟨_, (pss_one (ps_ret (pe_comp1 (nl := 1) (fr := [1, 0]) (Nc := ["line", "places", "matrix"]) (cl := [("places", s.heap.objs.size + 2), ("matrix", s.heap.objs.size + 1)]) (x0 := "line") rfl ⟨rfl, rfl, by decide +kernel, fun _ => rfl, fun _ => rfl, rfl, (sub_cons rfl (sub_cons rfl (sub_nil))), fun _ => has_of rfl, rfl, fun i n h => match i, h with | 0, h => by cases h; exact ⟨1, rfl, rfl, rfl, rfl, .inl rfl⟩ | 1, h => by cases h; exact ⟨0, rfl, rfl, rfl, rfl, .inl rfl⟩ | k + 2, h => by rw [show 1 + (k + 2) = k + 3 by omega] at h; cases h⟩
        (pi_list (pv 1)) (fun C s3 H3 fp pins => (pg_name (i := 0) nd_line_places_matrix rfl (Or.inr rfl))) (fun C s3 H3 fp pins => pif_nil)
        (fun C s3 H3 fp pins => (pe_comp (nl := 1) (fr := [2, 0]) (Nc := ["column", "matrix", "line"]) (cl := [("matrix", s.heap.objs.size + 1), ("line", C + 1)]) rfl ⟨rfl, rfl, by decide +kernel, by decide +kernel, (sub_cons rfl (sub_cons rfl (sub_nil))), has_of rfl, rfl, fun i n h => match i, h with | 0, h => by cases h; exact ⟨2, rfl, rfl, rfl, rfl, .inl rfl⟩ | 1, h => by cases h; exact ⟨0, rfl, rfl, rfl, rfl, .inl rfl⟩ | k + 2, h => by rw [show 1 + (k + 2) = k + 3 by omega] at h; cases h⟩
        (pi_listK (K := K) rfl (pv 1)) (fun C s3 H3 fp pins => (pg_name (i := 0) nd_column_matrix_line rfl (Or.inl rfl))) (fun C s3 H3 fp pins => pif_nil)
        (fun C s3 H3 fp pins => (pe_ix (ix_listK (K := K) rfl) (pe_ix (ix_listK (K := K) rfl) (pv 1) (pv 2) (fun _ _ => rfl)) (pv 0) (fun _ _ => rfl)))))))), ?_⟩
  have ek : ∀ i x, (nats ks)[i]? = some x → i < ks.length ∧ x = .int (ks.getD i 0 : Nat) ∧ ks[i]? = some (ks.getD i 0) ∧ ks.getD i 0 < w' := fun i x h => by
    rw [List.getElem?_map] at h
    cases e : ks[i]? with
    | none => rw [e] at h; cases h
    | some k =>
      rw [e] at h
      cases h
      have g : ks.getD i 0 = k := by rw [List.getD_eq_getElem?_getD, e]; rfl
      rw [g]
      exact ⟨(List.getElem?_eq_some_iff.mp e).1, rfl, rfl, hk k (List.mem_of_getElem? e)⟩
  refine ⟨_, rfl, l, rfl, ⟨_, hK⟩, fun D hD => ?_⟩
  have sD := same_new hD (.lst [])
  refine comp_list (xs := nats ks) (fun i zs H' => Same H H' ∧ H' D = some (.lst zs) ∧ LnH K H' zs ((pickX ks X).take i) ∧ ∀ x ∈ zs, x ≠ .ref D) ⟨sD, upd_same, by rw [List.take_zero]; exact .nil, fun x hx => by cases hx⟩ (fun i zs H' h => h.2.1) (fun i zs H' _ h => h.1.seq hK) ?_ ?_
  · rintro i zs x H1 hx ⟨s1, e1, F1, n1⟩ C hC
    obtain ⟨hi, rfl, ei, li⟩ := ek i x hx
    obtain ⟨u, xs, eu, hu, fu⟩ := hX.at (Mq.getL (show ks.getD i 0 < X.length by omega))
    have wr := wX _ (List.mem_of_getElem? (Mq.getL (show ks.getD i 0 < X.length by omega)))
    have lz := F1.l
    rw [List.length_take] at lz
    have lp : (pickX ks X).length = ks.length := by unfold pickX; simp
    rw [lp] at lz
    refine ⟨keep1.1, keep1.2, iteT ?_⟩
    refine ⟨_, rfl, l, rfl, ⟨_, s1.seq hK⟩, fun L hL => ?_⟩
    have sL := same_new hL (.lst [])
    refine comp_list (xs := nats ks) (fun j zs' H' => Same H1 H' ∧ H' L = some (.lst zs') ∧ Fqs K H' zs' ((ks.map fun j => Mq.ix2 X (ks.getD i 0) j).take j)) ⟨sL, upd_same, .nil⟩ (fun j zs' H' h => h.2.1) (fun j zs' H' _ h => h.1.seq (s1.seq hK)) ?_ ?_
    · rintro j zs' y H2 hy ⟨s2, e2, F2⟩ C' hC'
      obtain ⟨hj, rfl, ej, lj⟩ := ek j y hy
      obtain ⟨v, ev, fv⟩ := fu.at (Mq.getQ1 (show ks.getD j 0 < (X.getD (ks.getD i 0) []).length by omega))
      have lz' := F2.length
      rw [List.length_take, List.length_map] at lz'
      refine ⟨keep1.1, keep1.2, iteT ?_⟩
      have s02 := s1.trans s2
      refine ⟨_, rfl, _, rfl, g, us, _, _, rfl, rfl, s02.seq hU, atI_nat eu, _, rfl, u, xs, _, _, rfl, rfl, s02.seq hu, atI_nat ev, ?_⟩
      refine ⟨e2, small1000 (by omega), hC' _ _ ⟨s2.change hL, upd_same, ?_⟩⟩
      rw [List.take_add_one, List.getElem?_map, ej]
      exact (F2.app (.cons (s02.seqT fv) .nil)).upd e2
    rintro zs' H2 ⟨s2, e2, F2⟩
    rw [List.length_map, List.take_of_length_le (by simp)] at F2
    have eA := s2 _ _ e1
    have nLD : L ≠ D := fun z => by rw [z, e1] at hL; cases hL
    refine ⟨eA, small1000 (by omega), hC _ _ ⟨(s1.trans s2).change hD, upd_same, ?_, fun z hz => ?_⟩⟩
    · have : (pickX ks X)[i]? = some (ks.map fun j => Mq.ix2 X (ks.getD i 0) j) := by unfold pickX; rw [List.getElem?_map, ei]; rfl
      rw [List.take_add_one, this]
      refine ((F1.same s2).snoc e2 F2).upd eA fun z hz => ?_
      rcases List.mem_append.mp hz with c | c
      · exact n1 z c
      · have : z = .ref L := by simpa using c
        rw [this]; exact fun c => nLD (by injection c)
    · rcases List.mem_append.mp hz with c | c
      · exact n1 z c
      · have : z = .ref L := by simpa using c
        rw [this]; exact fun c => nLD (by injection c)
  rintro zs H1 ⟨s1, e1, F1, n1⟩
  rw [List.length_map, List.take_of_length_le (by unfold pickX; simp)] at F1
  exact q D zs H1 s1 e1 F1
end
end K55

set_option Elab.async false
set_option linter.all false
set_option maxRecDepth 100000
set_option maxHeartbeats 4000000
namespace K55
open PySem L2 Shp
section
variable {P : Program} {w : World} {K : PySem.W.Frag} {mg : Str → Option Value} {base : Heap} {f g1 g2 g3 g4 g5 g6 g7 g8 g9 g10 g11 : Addr} {fd gd1 gd2 gd3 gd4 gd5 gd6 gd7 gd8 gd9 gd10 gd11 : FuncData} {CX : CXT}
theorem pe_bmK {X : Cx} {K : PySem.W.Frag} (hK : X.K = K) {o e : Expr} {es : List Expr} {to : TE} {t : TA} {name : Str} {apos cpos : Pos} {T id : String} {r : V → List V → Hp → VK → Prop} (pa : PySem.PlainAttrs T) (slot : PySem.Slot T name id) (hty : typeOf (.builtin id) = pure (.type "method_descriptor")) (hm : MtR X id r) (ho : PE X o to) (ha : PA X (e :: es) t)
    (hbase : attributeBase o name X.env (eval o X.env) = eval o X.env := by rfl)
    (hfew : ((backTo cpos (starEach (e :: es) X.env)).all (fun x => !x.1) && (backToKw cpos (keywordEach [] X.env)).all (fun x => x.1.isSome)
      && decide ((e :: es).length + ([] : List Keyword).length + (if ([] : List Keyword).isEmpty then 0 else 1) < 30)) = true := by rfl)
    (hline : (apos.endLine == cpos.line) = true := by rfl) (hs : starEach (e :: es) X.env = (false, eval e X.env) :: starEach es X.env := by rfl) (hplain : (backTo cpos (starEach es X.env)).any (·.1) = false := by rfl) :
    PE X (.Call (.Attribute o name apos) (e :: es) [] cpos) (tBM K T r to t) := by subst hK; exact pe_bm pa slot hty hm ho ha hbase hfew hline hs hplain
theorem es_get {es : List Int} {i : Nat} (h : i < es.length) : es[i]? = some (es.getD i 0) := Mq.get_some h
theorem es_era (es : List Int) (k i : Nat) : (es.eraseIdx k)[i]? = es[Mq.skp k i]? := by
  unfold Mq.skp
  rw [List.getElem?_eraseIdx]
  split <;> rfl
theorem es_mem {es : List Int} (nd : es.Nodup) {k i : Nat} (hi : i < es.length) : es.getD i 0 ∈ es.eraseIdx k ↔ i ≠ k := by
  rw [List.mem_eraseIdx_iff_getElem?]
  constructor
  · rintro ⟨j, hj, e⟩ rfl
    have hj' := (List.getElem?_eq_some_iff.mp e).1
    have e2 := es_get hi
    rw [← e2] at e
    exact hj ((List.getElem?_inj hj' nd).mp e)
  · intro h
    exact ⟨i, h, es_get hi⟩
theorem es_ord {es : List Int} {k w : Nat} (hw : es.length = w) (hk : k < w) : [es.getD k 0] ++ es.eraseIdx k = (Mq.ordN k w).map fun i => es.getD i 0 := by
  unfold Mq.ordN
  rw [List.map_cons, List.singleton_append, List.map_map]
  congr 1
  refine List.ext_getElem? fun i => ?_
  rw [es_era, List.getElem?_map]
  by_cases hi : i < w - 1
  · rw [List.getElem?_range hi]
    exact es_get (by rw [hw]; exact Mq.skp_lt hk hi)
  · rw [List.getElem?_eq_none (l := es) (by unfold Mq.skp; split <;> omega), List.getElem?_eq_none (by simp; omega)]; rfl
theorem es_idx {es : List Int} (nd : es.Nodup) {i : Nat} (hi : i < es.length) : es.idxOf (es.getD i 0) = i := by
  have e := es_get hi
  rw [List.getElem?_eq_getElem hi] at e
  injection e with e
  rw [← e]
  exact nd.idxOf_getElem i hi
theorem cut_last (xs : List V) (h : 1 ≤ xs.length) : cutV xs none (some (-1)) = xs.take (xs.length - 1) := by
  unfold cutV
  have h1 : HT.sIx xs.length 0 none = 0 := rfl
  have h2 : HT.sIx xs.length xs.length (some (-1)) = xs.length - 1 := by simp [HT.sIx]; omega
  rw [h1, h2]; rfl
theorem at_last {xs : List V} {n : Nat} {v : V} (hl : xs.length = n + 1) (h : xs[n]? = some v) : atI xs (-1) = some v := by
  have e : xs = xs.take n ++ [v] := by
    have := List.take_append_drop n xs
    have d : xs.drop n = [v] := by
      refine List.ext_getElem? fun i => ?_
      rw [List.getElem?_drop]
      cases i with
      | zero => rw [Nat.add_zero, h]; rfl
      | succ j => rw [List.getElem?_eq_none (by omega)]; simp
    rw [d] at this
    exact this.symm
  rw [e]; exact atI_last _ _
theorem same_make {H H' : Hp} {x dx : Addr} {C : Addr} (hx : H x = none) (hd : H dx = none) (nd : dx ≠ x) (s : SameX x (upd (upd H dx (.own x)) x (.ins C dx [])) H') : Same H H' := fun b o h => by
  have n1 : b ≠ x := fun z => by rw [z, hx] at h; cases h
  have n2 : b ≠ dx := fun z => by rw [z, hd] at h; cases h
  exact s b o (by rw [upd_ne n1, upd_ne n2]; exact h) n1
theorem seq_make {K : PySem.W.Frag} {H : Hp} {x dx : Addr} {C : Addr} (hx : H x = none) (hd : H dx = none) (nd : dx ≠ x) : Same H (upd (upd H dx (.own x)) x (.ins C dx [])) := fun b o h => by
  have n1 : b ≠ x := fun z => by rw [z, hx] at h; cases h
  have n2 : b ≠ dx := fun z => by rw [z, hd] at h; cases h
  rw [upd_ne n1, upd_ne n2]; exact h
def spNarrow (CT : Addr) (K : PySem.W.Frag) : Sp := fun vs H Q _ => ∃ (t b : Addr) (es : List Int) (X : List (List Mq.Q2)) (cs : List Mq.Q2) (k n w : Nat), vs = [.ref t, .ref b] ∧ TabAt CT K H t es X cs ∧ TbOk n w es X cs ∧ (∀ e ∈ es, e.natAbs < 32) ∧ k < w ∧ 2 ≤ w ∧ H b = some (.lst ((es.eraseIdx k).map V.int)) ∧ (Mq.ix2 X k k).1 ≠ 0 ∧ 10 + n + n * (w + 1) ≤ 4400 ∧ ∀ t' H', Same H H' → TabAt CT K H' t' (es.eraseIdx k) (Mq.tkX k w X cs) (Mq.tkC k w X cs) → Q (.ref t') H'
theorem nd_end_ends : (["end", "ends"] : List Str).Nodup := by decide +kernel
theorem nd_point_table : (["point", "table"] : List Str).Nodup := by decide +kernel
theorem nd_line_place_table : (["line", "place", "table"] : List Str).Nodup := by decide +kernel
abbrev sNar : Stmt := top 26
theorem scNar : FnScope ["table", "ends", "inner", "order", "lines", "left"] ["table", "ends"] (defScope sNar) := ⟨rfl, rfl, rfl, by decide +kernel, rfl, by decide +kernel, by decide +kernel⟩
theorem ok_nar {dV : Value} (F : FunD K "narrowed" "narrowed" sNar dV f fd)
    {CT : Addr} (TBx : TB K mg CT) (mz : mg "zip" = none) (ml : mg "len" = none)
    {gTI : Addr} {gdTI : FuncData} (GTI : FnOk P w K mg base CX0 1 gTI gdTI ["self", "ends", "matrix", "comes"] (spTInit CT K)) (bTI : Binds K gdTI ["self", "ends", "matrix", "comes"] []) (MT : Mk K CT gTI)
    (G1 : FnOk P w K mg base CX0 1 g1 gd1 ["matrix", "places"] (spPicked K)) (b1 : Binds K gd1 ["matrix", "places"] []) (k1 : PySem.W.keepIn K (.ref g1) = true) (m1 : mg "picked" = some (.ref g1))
    (G2 : FnOk P w K mg base CX0 4 g2 gd2 ["matrix", "count"] (spRed1 K)) (b2 : Binds K gd2 ["matrix", "count"] []) (k2 : PySem.W.keepIn K (.ref g2) = true) (m2 : mg "reduced" = some (.ref g2)) :
    FnOk P w K mg base CX 5 f fd ["table", "ends"] (spNarrow CT K) := by
  refine F.ok scNar (fun vs H Q E h => ?_) (fun cdv A outer s H vs Q E hr h => ?_)
  · obtain ⟨t, b, es, X, cs, k, n, w', rfl, TA, TO, e32, hk, w2, hb, hz, bits, q⟩ := h
    rfl
  obtain ⟨t, b, es, X, cs, k, n, w', rfl, TA, TO, e32, hk, w2, hb, hz, bits, q⟩ := h
  have r1 := hr.mono (show 1 ≤ 4 by omega)
  have r2 := hr.mono (show 2 ≤ 4 by omega)
  refine ⟨_, (pss_cons (ps_setC (i := 2) (nl := 1) (fr := [1]) (Nc := ["end", "ends"]) (cl := [("ends", s.heap.objs.size + 2)]) scNar.nd rfl rfl rfl ⟨rfl, rfl, by decide +kernel, by decide +kernel, (sub_cons rfl (sub_nil)), has_of rfl, rfl, fun i n h => match i, h with | 0, h => by cases h; exact ⟨1, rfl, rfl, rfl, rfl, .inl rfl⟩ | k + 1, h => by rw [show 1 + (k + 1) = k + 2 by omega] at h; cases h⟩
        (pi_list (pe_fld (pv 0) rfl)) (fun C s3 H3 fp pins => (pg_name (i := 0) nd_end_ends rfl (Or.inl rfl))) (fun C s3 H3 fp pins => (pif_one (pt_cmpR (op_notIn_seqK (K := K) rfl) (pv 0) (pv 1) rfl)))
        (fun C s3 H3 fp pins => (pv 0)) rfl)
    (pss_cons (ps_setC (i := 3) (nl := 1) (fr := [0]) (Nc := ["point", "table"]) (cl := [("table", s.heap.objs.size + 1)]) scNar.nd rfl rfl rfl ⟨rfl, rfl, by decide +kernel, by decide +kernel, (sub_cons rfl (sub_nil)), has_of rfl, rfl, fun i n h => match i, h with | 0, h => by cases h; exact ⟨0, rfl, rfl, rfl, rfl, .inl rfl⟩ | k + 1, h => by rw [show 1 + (k + 1) = k + 2 by omega] at h; cases h⟩
        (pi_list (pe_op op_cat (pv 2) (pv 1))) (fun C s3 H3 fp pins => (pg_name (i := 0) nd_point_table rfl (Or.inl rfl))) (fun C s3 H3 fp pins => pif_nil)
        (fun C s3 H3 fp pins => (pe_bmK (K := K) rfl PySem.F.plainAttrs_list PySem.F.slot_list_index PySem.F.type_list_index (mt_indexK (K := K) rfl) (pe_fldK (K := K) rfl (pv 1) rfl) (pa_cons (pv 0) pa_nil))) rfl)
    (pss_cons (ps_setC (i := 4) (nl := 2) (fr := [0]) (Nc := ["line", "place", "table"]) (cl := [("table", s.heap.objs.size + 1)]) (g := (gTup K 2 (gCons (gName 0) (gCons (gName 1) gNil)))) scNar.nd rfl rfl rfl ⟨rfl, rfl, by decide +kernel, by decide +kernel, (sub_cons rfl (sub_nil)), has_of rfl, rfl, fun i n h => match i, h with | 0, h => by cases h; exact ⟨0, rfl, rfl, rfl, rfl, .inl rfl⟩ | k + 1, h => by rw [show 2 + (k + 1) = k + 3 by omega] at h; cases h⟩
        (pi_zip rfl mz rfl (pa_cons (pe_call G1 r1 rfl m1 k1 b1 .nil pass0 (pa_cons (pe_fld (pv 0) rfl) (pa_cons (pv 3) pa_nil))) (pa_cons (pv 3) pa_nil))) (fun C s3 H3 fp pins => (pg_tup rfl (pgs_cons (pg_name (i := 0) nd_line_place_table rfl (Or.inl rfl)) (pgs_cons (pg_name (i := 1) nd_line_place_table rfl (Or.inl rfl)) pgs_nil)))) (fun C s3 H3 fp pins => pif_nil)
        (fun C s3 H3 fp pins => (pe_op op_cat (pv 0) (pe_lst (pa_cons (pe_ix (ix_listK (K := K) rfl) (pe_fldK (K := K) rfl (pv 2) rfl) (pv 1) (fun _ _ => rfl)) pa_nil)))) rfl)
    (pss_cons (ps_set (i := 5) scNar.nd rfl (Or.inl rfl) (pe_call G2 hr rfl m2 k2 b2 .nil pass0 (pa_cons (pv 4) (pa_cons (pe_callB call_len_seq rfl ml PySem.boot_len (pa_cons (pv 2) pa_nil)) pa_nil))))
    (pss_one (ps_ret (pe_make MT GTI r2 rfl TBx.mT bTI .nil pass0 (pa_cons (pv 1) (pa_cons (pe_comp (nl := 1) (fr := []) (Nc := ["line"]) (cl := []) rfl ⟨rfl, rfl, by decide +kernel, by decide +kernel, fun x c h => (by cases h), has_of rfl, rfl, fun i n h => (by simp at h)⟩
        (pi_list (pv 5)) (fun C s3 H3 fp pins => (pg_name (i := 0) nd_line rfl (Or.inl rfl))) (fun C s3 H3 fp pins => pif_nil)
        (fun C s3 H3 fp pins => (pe_slice (sl_listK (K := K) rfl) (pv 0) po_none (po_some (pe_un un_neg pe_int))))) (pa_cons (pe_comp (nl := 1) (fr := []) (Nc := ["line"]) (cl := []) rfl ⟨rfl, rfl, by decide +kernel, by decide +kernel, fun x c h => (by cases h), has_of rfl, rfl, fun i n h => (by simp at h)⟩
        (pi_list (pv 5)) (fun C s3 H3 fp pins => (pg_name (i := 0) nd_line rfl (Or.inl rfl))) (fun C s3 H3 fp pins => pif_nil)
        (fun C s3 H3 fp pins => (pe_ix (ix_listK (K := K) rfl) (pv 0) (pe_un un_neg pe_int) (fun _ _ => rfl)))) pa_nil)))))))))), ?_⟩
  have TA0 := TA
  obtain ⟨⟨dx, p, l, a, us, zc, ht, hp, hU, hL0, ha, hC⟩⟩ := TA
  have le := TO.le
  have w6 := TO.w6
  -- inner
  refine ⟨_, rfl, t, CT, _, _, _, rfl, ht, TBx.cl, TBx.nP, tflds_p _ _ _, p, rfl, ⟨_, hp⟩, fun D1 hD1 => ?_⟩
  have sD1 := same_new hD1 (.lst [])
  refine comp_list (xs := es.map V.int) (fun i zs H' => Same H H' ∧ H' D1 = some (.lst zs) ∧ zs = if k < i then [.int (es.getD k 0)] else []) ⟨sD1, upd_same, rfl⟩ (fun i zs H' h => h.2.1) (fun i zs H' _ h => h.1.seq hp) ?_ ?_
  · rintro i zs x H1 hx ⟨s1, e1, ez⟩ C hC
    have hi : i < es.length := by have := (List.getElem?_eq_some_iff.mp hx).1; simpa using this
    have ex : x = .int (es.getD i 0) := by rw [map_get hi] at hx; cases hx; rfl
    subst ex
    have iv : inV (.int (es.getD i 0)) ((es.eraseIdx k).map V.int) = decide (i ≠ k) := by
      rw [inV_ints]
      exact decide_eq_decide.mpr (es_mem TO.nd hi)
    refine ⟨keep1.1, keep1.2, _, rfl, _, rfl, b, _, rfl, .inl (SqL.of (s1 _ _ hb)), rfl, flat_ints _, ?_⟩
    rw [iv]
    refine ⟨_, rfl, ?_⟩
    by_cases c : i = k
    · subst c
      refine L2.ifT (by simp) ?_
      refine ⟨_, rfl, e1, ?_, hC _ _ ⟨s1.change hD1, upd_same, ?_⟩⟩
      · rw [ez, if_neg (by omega)]; exact small1000 (by decide)
      · rw [ez, if_neg (by omega), if_pos (by omega)]; rfl
    · refine L2.ifF (by simp [c]) ?_
      refine hC _ _ ⟨s1, e1, ?_⟩
      rw [ez]
      by_cases d : k < i
      · rw [if_pos d, if_pos (by omega)]
      · rw [if_neg d, if_neg (by omega)]
  rintro zs1 H1 ⟨s1, e1, ez⟩
  rw [List.length_map, if_pos (by omega)] at ez
  subst ez
  -- order
  refine ⟨_, rfl, _, rfl, D1, b, _, _, rfl, rfl, e1, s1 _ _ hb, ?_, fun B hB => ?_⟩
  · rw [List.length_map, List.length_cons, List.length_nil]
    exact Nat.le_trans (show _ ≤ 100 by have := List.length_eraseIdx_le es k; omega) (by decide)
  have eo : ([V.int (es.getD k 0)] ++ (es.eraseIdx k).map V.int) = ((Mq.ordN k w').map fun i => es.getD i 0).map V.int := by rw [← es_ord le hk, List.map_append]; rfl
  rw [eo]
  generalize hpt : ((Mq.ordN k w').map fun i => es.getD i 0) = pts
  have s2 := same_new hB (.lst (pts.map V.int))
  have e2 : upd H1 B (.lst (pts.map V.int)) B = some (.lst (pts.map V.int)) := upd_same
  generalize upd H1 B (.lst (pts.map V.int)) = H2 at s2 e2 ⊢
  have s02 := s1.trans s2
  have lo : (Mq.ordN k w').length = w' := Mq.ord_len (by omega)
  have lp : pts.length = w' := by rw [← hpt, List.length_map, lo]
  refine ⟨B, rfl, ⟨_, SqL.of e2⟩, fun D3 hD3 => ?_⟩
  have sD3 := same_new hD3 (.lst [])
  refine comp_list (xs := pts.map V.int) (fun i zs H' => Same H2 H' ∧ H' D3 = some (.lst zs) ∧ zs = (nats (Mq.ordN k w')).take i) ⟨sD3, upd_same, rfl⟩ (fun i zs H' h => h.2.1) (fun i zs H' _ h => h.1.seq (SqL.of e2)) ?_ ?_
  · rintro i zs x H3 hx ⟨s3, e3, rfl⟩ C hC
    have hi : i < w' := by have := (List.getElem?_eq_some_iff.mp hx).1; rw [List.length_map] at this; omega
    have oi := Mq.ord_at (i := i) hk hi
    have og := Mq.ordG (k := k) (w := w') (i := i) (by omega) hi
    have ex : x = .int (es.getD ((Mq.ordN k w').getD i 0) 0) := by
      rw [← hpt, List.getElem?_map, List.getElem?_map, og] at hx
      cases hx; rfl
    subst ex
    have s03 := s02.trans s3
    refine ⟨keep1.1, keep1.2, iteT ?_⟩
    refine ⟨_, rfl, t, CT, _, _, _, rfl, s03 _ _ ht, TBx.cl, TBx.nP, tflds_p _ _ _, .inl ⟨rfl, _, s03.seq hp⟩, _, rfl, p, es, _, rfl, rfl, s03.seq hp, ?_, ints_layable e32 (by omega), ?_⟩
    · exact List.mem_of_getElem? (es_get (by omega))
    rw [es_idx TO.nd (by omega)]
    refine ⟨e3, small1000 (by rw [List.length_take]; omega), hC _ _ ⟨s3.change hD3, upd_same, ?_⟩⟩
    rw [List.take_add_one, List.getElem?_map, og]; rfl
  rintro zs3 H3 ⟨s3, e3, rfl⟩
  rw [List.length_map, lp, List.take_of_length_le (by rw [List.length_map, lo]; omega)] at e3
  have s03 := s02.trans s3
  -- lines
  refine ⟨_, rfl, t, CT, _, _, _, rfl, s03 _ _ ht, TBx.cl, TBx.nL, tflds_l _ _ _, _, rfl, l, D3, us, X, Mq.ordN k w', w', rfl, s03.seq hU, hL0.same s03, TO.lX, fun row hr => (TO.r row hr).1, SqL.of e3, fun j hj => Mq.ord_lt hk j hj, by omega, fun P zP H4 s4 e4 LP => ?_⟩
  have s04 := s03.trans s4
  have lPz : zP.length = w' := by rw [LP.l]; unfold pickX; rw [List.length_map, lo]
  refine ⟨_, rfl, P, D3, rfl, ⟨_, SqL.of e4⟩, ⟨_, SqL.of (s4 _ _ e3)⟩, fun D5 hD5 => ?_⟩
  have sD5 := same_new hD5 (.lst [])
  have lpk := Mq.pick_len (k := k) (w := w') (by omega) X cs
  refine comp_zip (xs := zP) (ys := nats (Mq.ordN k w')) (fun i zs H' => Same H4 H' ∧ H' D5 = some (.lst zs) ∧ LnH K H' zs ((Mq.pick k w' X cs).take i) ∧ ∀ x ∈ zs, x ≠ .ref D5) ⟨sD5, upd_same, by rw [List.take_zero]; exact .nil, fun x hx => by cases hx⟩ (fun i zs H' h => h.2.1) (fun i zs H' _ h => ⟨h.1.seq (SqL.of e4), h.1.seq (SqL.of (s4 _ _ e3))⟩) ?_ ?_
  · rintro i zs x y H5 T1 ex ey ⟨s5, e5, F5, n5⟩ hT C hC'
    have hi : i < w' := by have := (List.getElem?_eq_some_iff.mp ex).1; omega
    have oi := Mq.ord_at (i := i) hk hi
    have og := Mq.ordG (k := k) (w := w') (i := i) (by omega) hi
    have ey' : y = .int ((Mq.ordN k w').getD i 0 : Nat) := by
      rw [List.getElem?_map, og] at ey
      cases ey; rfl
    subst ey'
    have pg : (pickX (Mq.ordN k w') X)[i]? = some ((Mq.ordN k w').map fun j => Mq.ix2 X ((Mq.ordN k w').getD i 0) j) := by unfold pickX; rw [List.getElem?_map, og]; rfl
    obtain ⟨u, xs, rfl, hu, fu⟩ := LP.r i x _ ex pg
    obtain ⟨v, ev, fv⟩ := hC.at (Mq.getQ1 (show (Mq.ordN k w').getD i 0 < cs.length by have := TO.lc; omega))
    have lz := F5.l
    rw [List.length_take, lpk] at lz
    have sT := same_new hT (.tup [.ref u, .int ((Mq.ordN k w').getD i 0 : Nat)])
    refine ⟨T1, _, rfl, SqT.of upd_same, rfl, _, _, rfl, _, _, rfl, rfl, keep2.1, keep2.2, iteT ?_⟩
    generalize upd H5 T1 (.tup [.ref u, .int ((Mq.ordN k w').getD i 0 : Nat)]) = H6 at sT ⊢
    have s46 := s5.trans sT
    have s06 := s04.trans s46
    refine ⟨_, rfl, _, rfl, t, CT, _, _, _, rfl, s06 _ _ ht, TBx.cl, TBx.nA, tflds_a _ _ _, _, rfl, a, zc, _, _, rfl, rfl, s06.seq ha, atI_nat ev, (by show 1 ≤ sizeLine; decide), fun L hL => ?_⟩
    have sL := same_new hL (.lst [V.ref v])
    have eL : upd H6 L (.lst [V.ref v]) L = some (.lst [V.ref v]) := upd_same
    generalize upd H6 L (.lst [V.ref v]) = H7 at sL eL ⊢
    have lxs := fu.length
    rw [List.length_map, lo] at lxs
    refine ⟨u, L, xs, [V.ref v], rfl, rfl, sL _ _ (s46 _ _ hu), eL, ?_, fun M hM => ?_⟩
    · rw [lxs]
      exact Nat.le_trans (show _ ≤ 100 by simp only [List.length_cons, List.length_nil]; omega) (by decide)
    have sM := same_new hM (.lst (xs ++ [V.ref v]))
    have eM : upd H7 M (.lst (xs ++ [V.ref v])) M = some (.lst (xs ++ [V.ref v])) := upd_same
    generalize upd H7 M (.lst (xs ++ [V.ref v])) = H8 at sM eM ⊢
    have s58 := sT.trans (sL.trans sM)
    have eA := s58 _ _ e5
    have nMD : M ≠ D5 := fun z => by rw [z, sL _ _ (sT _ _ e5)] at hM; cases hM
    refine ⟨eA, small1000 (by omega), hC' _ _ ⟨(s5.trans s58).change hD5, upd_same, ?_, fun z hz => ?_⟩⟩
    · rw [List.take_add_one, Mq.pick_get (by omega) hi]
      refine ((F5.same s58).snoc eM ((fu.same (s5.trans s58)).app (.cons ((s04.trans (s5.trans s58)).seqT fv) .nil))).upd eA fun z hz => ?_
      rcases List.mem_append.mp hz with c | c
      · exact n5 z c
      · have : z = .ref M := by simpa using c
        rw [this]; exact fun c => nMD (by injection c)
    · rcases List.mem_append.mp hz with c | c
      · exact n5 z c
      · have : z = .ref M := by simpa using c
        rw [this]; exact fun c => nMD (by injection c)
  rintro zs5 H5 ⟨s5, e5, F5, n5⟩
  rw [lPz, List.length_map, lo, Nat.min_self, List.take_of_length_le (by omega)] at F5
  have s05 := s04.trans s5
  -- left
  refine ⟨_, rfl, _, rfl, D1, _, rfl, .inl (SqL.of ((s2.trans (s3.trans (s4.trans s5))) _ _ e1)), D5, zs5, Mq.pick k w' X cs, n, w' + 1, rfl, SqL.of e5, F5.lns, TO.pick hk hz bits, fun R zR H6 s6 e6 LR => ?_⟩
  have RO := TO.pick hk hz bits
  have s06 := s05.trans s6
  have lR := LR.l
  rw [Mq.redX_len, lpk] at lR
  -- the table
  refine ⟨_, rfl, _, rfl, R, rfl, ⟨_, SqL.of e6⟩, fun D7 hD7 => ?_⟩
  have sD7 := same_new hD7 (.lst [])
  refine comp_list (xs := zR) (fun i zs H' => Same H6 H' ∧ H' D7 = some (.lst zs) ∧ LnH K H' zs ((Mq.tkX k w' X cs).take i) ∧ ∀ x ∈ zs, x ≠ .ref D7) ⟨sD7, upd_same, by rw [List.take_zero]; exact .nil, fun x hx => by cases hx⟩ (fun i zs H' h => h.2.1) (fun i zs H' _ h => h.1.seq (SqL.of e6)) ?_ ?_
  · rintro i zs x H7 hx ⟨s7, e7, F7, n7⟩ C hC'
    have hi : i < w' - 1 := by have := (List.getElem?_eq_some_iff.mp hx).1; omega
    have rg : (Mq.redX (Mq.pick k w' X cs))[i]? = some (Mq.redRow (Mq.pick k w' X cs) (i + 1)) := by rw [Mq.getL (by rw [Mq.redX_len, lpk]; omega), Mq.redX_get (by rw [lpk]; omega)]
    obtain ⟨u, xs, rfl, hu, fu⟩ := LR.r i x _ hx rg
    have lr := (RO.redRow (i := i) (by rw [lpk]; omega)).1
    have lxs := fu.length
    have lz := F7.l
    have lt : (Mq.tkX k w' X cs).length = w' - 1 := by unfold Mq.tkX; rw [List.length_map, Mq.redX_len, lpk]
    rw [List.length_take, lt] at lz
    refine ⟨keep1.1, keep1.2, iteT ?_⟩
    refine ⟨_, rfl, _, rfl, _, rfl, u, xs, rfl, s7.seq hu, fun L hL => ?_⟩
    rw [cut_last xs (by omega), show xs.length - 1 = w' - 1 by omega]
    have sL := same_new hL (.lst (xs.take (w' - 1)))
    have eL : upd H7 L (.lst (xs.take (w' - 1))) L = some (.lst (xs.take (w' - 1))) := upd_same
    generalize upd H7 L (.lst (xs.take (w' - 1))) = H8 at sL eL ⊢
    have eA := sL _ _ e7
    have nLD : L ≠ D7 := fun z => by rw [z, e7] at hL; cases hL
    refine ⟨eA, small1000 (by omega), hC' _ _ ⟨(s7.trans sL).change hD7, upd_same, ?_, fun z hz => ?_⟩⟩
    · have tg : (Mq.tkX k w' X cs)[i]? = some ((Mq.redRow (Mq.pick k w' X cs) (i + 1)).take (w' - 1)) := by unfold Mq.tkX; rw [List.getElem?_map, rg]; rfl
      rw [List.take_add_one, tg]
      refine ((F7.same sL).snoc eL ((fu.same (s7.trans sL)).take _)).upd eA fun z hz => ?_
      rcases List.mem_append.mp hz with c | c
      · exact n7 z c
      · have : z = .ref L := by simpa using c
        rw [this]; exact fun c => nLD (by injection c)
    · rcases List.mem_append.mp hz with c | c
      · exact n7 z c
      · have : z = .ref L := by simpa using c
        rw [this]; exact fun c => nLD (by injection c)
  rintro zs7 H7 ⟨s7, e7, F7, n7⟩
  rw [lR, List.take_of_length_le (by unfold Mq.tkX; rw [List.length_map, Mq.redX_len, lpk]; omega)] at F7
  refine ⟨_, rfl, R, rfl, ⟨_, SqL.of (s7 _ _ e6)⟩, fun D8 hD8 => ?_⟩
  have sD8 := same_new hD8 (.lst [])
  refine comp_list (xs := zR) (fun i zs H' => Same H7 H' ∧ H' D8 = some (.lst zs) ∧ Fqs K H' zs ((Mq.tkC k w' X cs).take i)) ⟨sD8, upd_same, .nil⟩ (fun i zs H' h => h.2.1) (fun i zs H' _ h => h.1.seq (SqL.of (s7 _ _ e6))) ?_ ?_
  · rintro i zs x H8 hx ⟨s8, e8, F8⟩ C hC'
    have hi : i < w' - 1 := by have := (List.getElem?_eq_some_iff.mp hx).1; omega
    have rg : (Mq.redX (Mq.pick k w' X cs))[i]? = some (Mq.redRow (Mq.pick k w' X cs) (i + 1)) := by rw [Mq.getL (by rw [Mq.redX_len, lpk]; omega), Mq.redX_get (by rw [lpk]; omega)]
    obtain ⟨u, xs, rfl, hu, fu⟩ := LR.r i x _ hx rg
    have lr := (RO.redRow (i := i) (by rw [lpk]; omega)).1
    have lxs := fu.length
    obtain ⟨v, ev, fv⟩ := fu.at (Mq.getQ1 (show w' - 1 < (Mq.redRow (Mq.pick k w' X cs) (i + 1)).length by omega))
    have lz := F8.length
    have lt : (Mq.tkC k w' X cs).length = w' - 1 := by unfold Mq.tkC; rw [List.length_map, Mq.redX_len, lpk]
    rw [List.length_take, lt] at lz
    refine ⟨keep1.1, keep1.2, iteT ?_⟩
    refine ⟨_, rfl, _, rfl, u, xs, -1, _, rfl, rfl, (s7.trans s8).seq hu, at_last (n := w' - 1) (by omega) ev, ?_⟩
    refine ⟨e8, small1000 (by omega), hC' _ _ ⟨s8.change hD8, upd_same, ?_⟩⟩
    have tg : (Mq.tkC k w' X cs)[i]? = some ((Mq.redRow (Mq.pick k w' X cs) (i + 1)).getD (w' - 1) Mq.z0) := by unfold Mq.tkC; rw [List.getElem?_map, rg]; rfl
    rw [List.take_add_one, tg]
    exact (F8.app (.cons ((s7.trans s8).seqT fv) .nil)).upd e8
  rintro zs8 H8 ⟨s8, e8, F8⟩
  rw [lR, List.take_of_length_le (by unfold Mq.tkC; rw [List.length_map, Mq.redX_len, lpk]; omega)] at F8
  have s08 := s06.trans (s7.trans s8)
  intro x dx' hx hdx ndx
  have sN : Same H8 (upd (upd H8 dx' (.own x)) x (.ins CT dx' [])) := seq_make (K := K) hx hdx ndx
  refine ⟨x, dx', b, D7, D8, es.eraseIdx k, zs7, zs8, _, _, rfl, upd_same, sN.seq (SqL.of (s08 _ _ hb)), sN.seq (SqL.of (s8 _ _ e7)), (F7.lns.same s8).same sN, ?_, sN.seq (SqL.of e8), F8.same sN, fun H9 s9 T9 => ⟨rfl, q x H9 (s08.trans (same_make hx hdx ndx s9)) T9⟩⟩
  have := F7.l
  unfold Mq.tkX at this
  rw [List.length_map, Mq.redX_len, lpk] at this
  omega
end
end K55

set_option Elab.async false
set_option linter.all false
set_option maxRecDepth 100000
set_option maxHeartbeats 4000000
namespace K55
open PySem L2 Shp
section
variable {P : Program} {w : World} {K : PySem.W.Frag} {mg : Str → Option Value} {base : Heap} {f g1 g2 g3 g4 g5 g6 g7 g8 g9 g10 g11 : Addr} {fd gd1 gd2 gd3 gd4 gd5 gd6 gd7 gd8 gd9 gd10 gd11 : FuncData} {CX : CXT}
def spFInit (K : PySem.W.Frag) (C : Addr) : Sp := fun vs H Q _ => ∃ (x l : Addr) (xs : List V), vs = [.ref x, .ref l] ∧ H x = some (newX x (.ref C) none) ∧ SqL K H l xs ∧ xs.length ≤ 1000 ∧
  ∀ dx l2 H', H dx = none → H l2 = none → dx ≠ x → l2 ≠ x → (∀ b o, H b = some o → b ≠ x → H' b = some o) → H' x = some (newX x (.ref C) (some dx)) → H' dx = some (.xd [("points", .ref l2)]) → H' l2 = some (.lst xs) → Q .non H'
def NoEnd (K : PySem.W.Frag) (H : Hp) (x : V) (es : List Int) : Prop := (∃ t, TyOf K H x t ∧ NotWhole t) ∨ ∃ i, x = .int i ∧ (i ∉ es ∨ es.length = 1)
def spTaken (CT CN CF : Addr) (K : PySem.W.Frag) : Sp := fun vs H Q E => ∃ (t : Addr) (x : V) (es : List Int) (X : List (List Mq.Q2)) (cs : List Mq.Q2) (n w : Nat), vs = [.ref t, x] ∧ TabAt CT K H t es X cs ∧ TbOk n w es X cs ∧ (∀ e ∈ es, e.natAbs < 32) ∧
  ((NoEnd K H x es ∧ ∀ H', Same H H' → E (.ref CN) none H') ∨ ∃ k, x = .int (es.getD k 0) ∧ k < w ∧ 2 ≤ w ∧
    (((Mq.ix2 X k k).1 = 0 ∧ ∀ dx l H', Same H H' → H' dx = some (.xd [("points", .ref l)]) → H' l = some (.lst [.int (es.getD k 0)]) → E (.ref CF) (some dx) H') ∨
     ((Mq.ix2 X k k).1 ≠ 0 ∧ 10 + n + n * (w + 1) ≤ 4400 ∧ ∀ t' H', Same H H' → TabAt CT K H' t' (es.eraseIdx k) (Mq.tkX k w X cs) (Mq.tkC k w X cs) → Q (.ref t') H')))
theorem low_01 {p : Mq.Q2} (h : Mq.Low p) : decide (p = (0, 1)) = decide (p.1 = 0) := by
  refine decide_eq_decide.mpr ⟨fun e => by rw [e], fun e => ?_⟩
  refine Mq.low_ext h ⟨by decide, by decide⟩ ?_
  unfold Mq.val
  rw [e]
  simp
  grind
abbrev sFInit : Stmt := inClass (top 5) 0
theorem scFInit : FnScope ["self", "points"] ["self", "points"] (defScope sFInit) := ⟨rfl, rfl, rfl, by decide +kernel, rfl, by decide +kernel, by decide +kernel⟩
theorem ok_finit {dV : Value} (F : FunD K "__init__" "Floats.__init__" sFInit dV f fd) {CF C0 : Addr} (qI : ExcI K CF C0 f) (cI : ClsI K C0) (qF : ExcF K CF "points") (mO : mg "OhmError" = some (.ref C0)) (mt : mg "tuple" = none) (mli : mg "list" = none) :
    FnOk P w K mg base CX 1 f fd ["self", "points"] (spFInit K CF) := by
  refine F.ok scFInit (fun vs H Q E h => ?_) (fun cdv A outer s H vs Q E hr h => ?_)
  · obtain ⟨x, l, xs, rfl, _⟩ := h
    rfl
  obtain ⟨x, l, xs, rfl, hx, hS, h1000, q⟩ := h
  refine ⟨_, (pss_cons (ps_expr (pe_excInit rfl mO cI (pa_cons (pv 0) (pa_cons (pe_callTy call_tuple_of rfl mt PyProof.Rows.boot_tuple (pa_cons (pv 1) pa_nil)) pa_nil)))) (pss_one (ps_fldX (pv 0) (pe_callTy call_list_of rfl mli PyProof.Rows.boot_list (pa_cons (pv 1) pa_nil)) rfl))), ?_⟩
  refine ⟨_, rfl, _, rfl, l, xs, rfl, .inl ⟨hS, fun t ht => ?_⟩⟩
  have s1 := same_new ht (.tup xs)
  have nt : t ≠ x := fun z => by rw [z, hx] at ht; cases ht
  generalize upd H t (.tup xs) = H1 at s1 ⊢
  refine ⟨x, CF, C0, f, none, _, rfl, s1 _ _ hx, qI, ?_⟩
  refine ⟨_, rfl, l, xs, rfl, .inl (s1.seq hS), fun l2 hl2 => ?_⟩
  have s2 := same_new hl2 (.lst xs)
  have e2 : upd H1 l2 (.lst xs) l2 = some (.lst xs) := upd_same
  have x1 := s1 _ _ hx
  have n2 : l2 ≠ x := fun z => by rw [z, x1] at hl2; cases hl2
  generalize upd H1 l2 (.lst xs) = H2 at s2 e2 ⊢
  have x2 := s2 _ _ x1
  refine ⟨_, rfl, x, CF, C0, f, rfl, x2, qI, qF, fun dx hdx => ?_⟩
  have nx : dx ≠ x := fun z => by rw [z, x2] at hdx; cases hdx
  have nl : l2 ≠ dx := fun z => by rw [z] at e2; rw [e2] at hdx; cases hdx
  have s02 := s1.trans s2
  refine q dx l2 _ (s02.free hdx) (s1.free hl2) nx n2 (fun b' o e nb => ?_) upd_same ?_ ?_
  · rw [upd_ne nb, upd_ne (fun z => by rw [z, s02.free hdx] at e; cases e)]
    exact s02 _ _ e
  · rw [upd_ne nx, upd_same]
  · rw [upd_ne n2, upd_ne nl]; exact e2
theorem nd_end_point : (["end", "point"] : List Str).Nodup := by decide +kernel
abbrev sTaken : Stmt := inClass (top 24) 5
theorem scTaken : FnScope ["self", "point", "place"] ["self", "point"] (defScope sTaken) := ⟨rfl, rfl, rfl, by decide +kernel, rfl, by decide +kernel, by decide +kernel⟩
theorem ok_taken {dV : Value} {CT : Addr} (F : FunD K "taken" "Table.taken" sTaken dV f fd) (TBx : TB K mg CT)
    {aN CN CF C0 fI : Addr} {fdI : FuncData} (fN : ∀ H, Fq K H aN (0, 1)) (mNO : mg "NOUGHT" = some (.ref aN)) (ml : mg "len" = none) (mN : mg "NoPoint" = some (.ref CN)) (xN : ExcC K CN)
    (mF : mg "Floats" = some (.ref CF)) (qI : ExcI K CF C0 fI) (GI : FnOk P w K mg base CX0 1 fI fdI ["self", "points"] (spFInit K CF)) (bI : Binds K fdI ["self", "points"] [])
    (G1 : FnOk P w K mg base CX0 1 g1 gd1 ["thing"] (spWhole K)) (b1 : Binds K gd1 ["thing"] []) (k1 : PySem.W.keepIn K (.ref g1) = true) (m1 : mg "is_whole" = some (.ref g1))
    (G2 : FnOk P w K mg base CX0 5 g2 gd2 ["table", "ends"] (spNarrow CT K)) (b2 : Binds K gd2 ["table", "ends"] []) (k2 : PySem.W.keepIn K (.ref g2) = true) (m2 : mg "narrowed" = some (.ref g2)) : FnOk P w K mg base (CX1 P w) 6 f fd ["self", "point"] (spTaken CT CN CF K) := by
  refine F.okX scTaken (fun vs H Q E h => ?_) (fun cdv A outer s H vs Q E hr h => ?_)
  · obtain ⟨t, x, es, X, cs, n, w', rfl, TA, TO, e32, h⟩ := h
    rfl
  obtain ⟨t, x, es, X, cs, n, w', rfl, TA, TO, e32, h⟩ := h
  have hu := hr.units
  have r1 := hr.mono (show 1 ≤ 5 by omega)
  have r2 := hr.mono (show 2 ≤ 5 by omega)
  have TA0 := TA
  obtain ⟨⟨dx, p, l, a, us, zc, ht, hp, hU, hL0, ha, hC⟩⟩ := TA
  have le := TO.le
  have w6 := TO.w6
  refine ⟨_, (pss_cons (ps_if (PW.pt (pw_or (pt_not (pt_val (pe_call G1 r1 rfl m1 k1 b1 .nil pass0 (pa_cons (pv 1) pa_nil)))) (pw_or (pt_cmpR op_notIn_seq (pv 1) (pe_fld (pv 0) rfl) rfl) (pw_or1 (pt_cmpR op_eq (pe_callB call_len_seq rfl ml PySem.boot_len (pa_cons (pe_fld (pv 0) rfl) pa_nil)) pe_int (nomark _)))))) (pss_one (ps_raise frm_cxOf xe_cxOf rfl rfl mN xN (pa_cons pe_str pa_nil))) pss_nil)
    (pss_cons (ps_set (i := 2) scTaken.nd rfl (Or.inl rfl) (pe_bm PySem.F.plainAttrs_list PySem.F.slot_list_index PySem.F.type_list_index mt_index (pe_fld (pv 0) rfl) (pa_cons (pv 1) pa_nil)))
    (pss_cons (ps_if (pt_cmpR (op_eqD hu) (pe_ix ix_list (pe_ix ix_list (pe_fld (pv 0) rfl) (pv 2) (fun _ _ => rfl)) (pv 2) (fun _ _ => rfl)) (pe_glob (v := .ref aN) rfl mNO rfl) (nomark _)) (pss_one (ps_raiseI frm_cxOf xe_cxOf rfl rfl mF qI GI r2 bI (pa_cons (pe_lst (pa_cons (pv 1) pa_nil)) pa_nil))) pss_nil)
    (pss_one (ps_ret (pe_call G2 hr rfl m2 k2 b2 .nil pass0 (pa_cons (pv 0) (pa_cons (pe_comp (nl := 1) (fr := [1]) (Nc := ["end", "point"]) (cl := [("point", s.heap.objs.size + 1)]) rfl ⟨rfl, rfl, by decide +kernel, by decide +kernel, fun x c h => h, has_of rfl, rfl, fun i n h => match i, h with | 0, h => by cases h; exact ⟨1, rfl, rfl, rfl, rfl, .inl rfl⟩ | k + 1, h => by rw [show 1 + (k + 1) = k + 2 by omega] at h; cases h⟩
        (pi_list (pe_fld (pv 0) rfl)) (fun C s3 H3 fp pins => (pg_name (i := 0) nd_end_point rfl (Or.inl rfl))) (fun C s3 H3 fp pins => (pif_one (pt_cmpR op_ne (pv 0) (pv 1) (nomark _))))
        (fun C s3 H3 fp pins => (pv 0))) pa_nil)))))))), ?_⟩
  rcases h with ⟨hE, qE⟩ | ⟨k, rfl, hk, w2, h⟩
  · rcases hE with ⟨ty, h1, h2⟩ | ⟨i, rfl, hi⟩
    · refine ⟨_, rfl, x, rfl, .inr ⟨ty, h1, h2, ?_⟩⟩
      refine ⟨_, rfl, iteT ?_⟩
      refine iteT ?_
      exact ⟨by show 1 ≤ sizeLine; decide, qE H (Same.refl H)⟩
    · refine ⟨_, rfl, .int i, rfl, .inl ⟨i, rfl, ?_⟩⟩
      refine ⟨_, rfl, iteF ?_⟩
      refine ⟨_, rfl, _, rfl, t, CT, _, _, _, rfl, ht, TBx.cl, TBx.nP, tflds_p _ _ _, p, _, rfl, .inl hp, rfl, flat_ints _, ?_⟩
      rw [inV_ints]
      refine ⟨_, rfl, ?_⟩
      by_cases c : i ∈ es
      · have h1 : es.length = 1 := hi.resolve_left (fun z => z c)
        refine L2.ifF (by simp [c]) ?_
        refine ⟨_, rfl, t, CT, _, _, _, rfl, ht, TBx.cl, TBx.nP, tflds_p _ _ _, p, _, rfl, .inl hp, rfl, _, rfl, ?_⟩
        refine L2.ifT (by rw [List.length_map, h1]; rfl) ?_
        exact ⟨by show 1 ≤ sizeLine; decide, qE H (Same.refl H)⟩
      · refine L2.ifT (by simp [c]) ?_
        refine iteT ?_
        exact ⟨by show 1 ≤ sizeLine; decide, qE H (Same.refl H)⟩
  have mk : es.getD k 0 ∈ es := List.mem_of_getElem? (es_get (by omega))
  refine ⟨_, rfl, .int (es.getD k 0), rfl, .inl ⟨_, rfl, ?_⟩⟩
  refine ⟨_, rfl, iteF ?_⟩
  refine ⟨_, rfl, _, rfl, t, CT, _, _, _, rfl, ht, TBx.cl, TBx.nP, tflds_p _ _ _, p, _, rfl, .inl hp, rfl, flat_ints _, ?_⟩
  rw [inV_ints]
  refine ⟨_, rfl, L2.ifF (by rw [decide_eq_true mk]; rfl) ?_⟩
  refine ⟨_, rfl, t, CT, _, _, _, rfl, ht, TBx.cl, TBx.nP, tflds_p _ _ _, p, _, rfl, .inl hp, rfl, _, rfl, ?_⟩
  refine L2.ifF (by rw [List.length_map, le, decide_eq_false (fun z => by injection z with z; omega)]) ?_
  refine ⟨_, rfl, t, CT, _, _, _, rfl, ht, TBx.cl, TBx.nP, tflds_p _ _ _, .inl ⟨rfl, _, hp⟩, _, rfl, p, es, _, rfl, rfl, hp, mk, ints_layable e32 (by omega), ?_⟩
  rw [es_idx TO.nd (by omega)]
  obtain ⟨u, xs, eu, hu1, fu⟩ := hL0.at (Mq.getL (show k < X.length by rw [TO.lX]; exact hk))
  have lrow := (TO.r _ (List.mem_of_getElem? (Mq.getL (show k < X.length by rw [TO.lX]; exact hk)))).1
  obtain ⟨v, ev, fv⟩ := fu.at (Mq.getQ1 (show k < (X.getD k []).length by rw [lrow]; exact hk))
  have lw := (TO.at hk hk).1
  refine ⟨_, rfl, t, CT, _, _, _, rfl, ht, TBx.cl, TBx.nL, tflds_l _ _ _, _, rfl, l, us, _, _, rfl, rfl, hU, atI_nat eu, _, rfl, u, xs, _, _, rfl, rfl, hu1, atI_nat ev, ?_⟩
  dsimp only [tC]
  change rDat _ _ _ _ _ _
  refine rd_eqF (neg := false) fv (fN H) ?_
  rw [show (if false = true then !decide ((X.getD k []).getD k Mq.z0 = (0, 1)) else decide ((X.getD k []).getD k Mq.z0 = (0, 1))) = decide ((Mq.ix2 X k k).1 = 0) from low_01 lw]
  refine ⟨_, rfl, ?_⟩
  rcases h with ⟨hz, qF⟩ | ⟨hz, bits, q⟩
  · refine L2.ifT (by simp [hz]) ?_
    refine ⟨_, rfl, (by show 1 ≤ sizeLine; decide), fun L hL => ?_⟩
    have s1 := same_new hL (.lst [.int (es.getD k 0)])
    have e1 : upd H L (.lst [.int (es.getD k 0)]) L = some (.lst [.int (es.getD k 0)]) := upd_same
    generalize upd H L (.lst [.int (es.getD k 0)]) = H1 at s1 e1 ⊢
    refine ⟨by show 1 ≤ sizeLine; decide, fun x hx => ?_⟩
    have sx := same_new hx (newX x (.ref CF) none)
    refine ⟨x, L, [.int (es.getD k 0)], rfl, upd_same, SqL.of (sx _ _ e1), (by show 1 ≤ 1000; decide), fun dx l4 H4 ndx nl4 ne1 ne2 keep ex ed4 el4 => ⟨rfl, some dx, ex, ?_⟩⟩
    have sD : Same H1 (dropH H4 x) := fun b o e => by
      have nb : b ≠ x := fun z => by rw [z, hx] at e; cases e
      rw [dropH_ne nb]
      exact keep b o (sx b o e) nb
    exact qF dx l4 _ (s1.trans sD) (by rw [dropH_ne ne1]; exact ed4) (by rw [dropH_ne ne2]; exact el4)
  refine L2.ifF (by simp [hz]) ?_
  refine ⟨_, rfl, _, rfl, t, CT, _, _, _, rfl, ht, TBx.cl, TBx.nP, tflds_p _ _ _, p, rfl, ⟨_, hp⟩, fun D hD => ?_⟩
  have sD := same_new hD (.lst [])
  refine comp_list (xs := es.map V.int) (fun i zs H' => Same H H' ∧ H' D = some (.lst zs) ∧ zs = ((es.eraseIdx k).take (if k < i then i - 1 else i)).map V.int) ⟨sD, upd_same, rfl⟩ (fun i zs H' h => h.2.1) (fun i zs H' _ h => h.1.seq hp) ?_ ?_
  · rintro i zs y H1 hy ⟨s1, e1, ez⟩ C hC
    have hi : i < es.length := by have := (List.getElem?_eq_some_iff.mp hy).1; simpa using this
    have ey : y = .int (es.getD i 0) := by rw [map_get hi] at hy; cases hy; rfl
    subst ey
    have lz : zs.length ≤ 6 := by rw [ez, List.length_map, List.length_take]; have := List.length_eraseIdx_le es k; omega
    refine ⟨keep1.1, keep1.2, _, rfl, _, rfl, rfl, _, rfl, ?_⟩
    by_cases c : i = k
    · subst c
      refine L2.ifF (by simp) ?_
      refine hC _ _ ⟨s1, e1, ?_⟩
      rw [ez, if_neg (by omega), if_pos (by omega)]; rfl
    · have ne : es.getD i 0 ≠ es.getD k 0 := fun z => c (by have e1 := es_idx TO.nd hi; rw [z, es_idx TO.nd (by omega)] at e1; exact e1.symm)
      refine L2.ifT (by rw [decide_eq_false (fun z => ne (by injection z))]; rfl) ?_
      refine ⟨_, rfl, e1, small1000 (by omega), hC _ _ ⟨s1.change hD, upd_same, ?_⟩⟩
      rw [ez]
      by_cases d : k < i
      · have g : (es.eraseIdx k)[i - 1]? = some (es.getD i 0) := by
          rw [es_era, show Mq.skp k (i - 1) = i by unfold Mq.skp; split <;> omega]; exact es_get hi
        rw [if_pos d, if_pos (by omega), show i + 1 - 1 = i - 1 + 1 by omega, List.take_add_one, g, List.map_append]; rfl
      · have g : (es.eraseIdx k)[i]? = some (es.getD i 0) := by
          rw [es_era, show Mq.skp k i = i by unfold Mq.skp; split <;> omega]; exact es_get hi
        rw [if_neg d, if_neg (by omega), List.take_add_one, g, List.map_append]; rfl
  rintro zs H1 ⟨s1, e1, ez⟩
  have lE : (es.eraseIdx k).length = es.length - 1 := by rw [List.length_eraseIdx, if_pos (by omega)]
  rw [List.length_map, if_pos (by omega), List.take_of_length_le (by omega)] at ez
  subst ez
  exact ⟨t, D, es, X, cs, k, n, w', rfl, TA0.same s1, TO, e32, hk, w2, e1, hz, bits, fun t' H2 s2 T2 => q t' H2 (s1.trans s2) T2⟩
end
end K55

set_option Elab.async false
set_option linter.all false
set_option maxHeartbeats 1000000
namespace L2
open PySem PySem.Spec PyProof.Rows
def SX (as : List Addr) (H H' : Hp) : Prop := ∀ b o, H b = some o → b ∉ as → H' b = some o
theorem Same.sx {as : List Addr} {H H' : Hp} (s : Same H H') : SX as H H' := fun b o e _ => s b o e
theorem SX.trans {as : List Addr} {H H1 H2 : Hp} (a : SX as H H1) (b : SX as H1 H2) : SX as H H2 := fun c o h n => b c o (a c o h n) n
theorem SX.write {as : List Addr} {H H1 : Hp} {l : Addr} {o : HO} (a : SX as H H1) (hl : l ∈ as) : SX as H (upd H1 l o) := fun c u h n => by rw [upd_ne (fun z => n (by rw [z]; exact hl))]; exact a c u h n
theorem SX.same {as : List Addr} {H0 H H' : Hp} (s : Same H0 H) (a : SX as H H') (h : ∀ x ∈ as, H0 x = none) : Same H0 H' := fun c o e => a c o (s c o e) fun z => by rw [h c z] at e; cases e
def Lsts (as : List Addr) (H : Hp) : Prop := ∀ a ∈ as, ∃ xs, H a = some (.lst xs)
theorem SX.seqT {K : PySem.W.Frag} {as : List Addr} {H H' : Hp} (hl : Lsts as H) (e : SX as H H') {a : Addr} {xs : List V} (h : SqT K H a xs) : SqT K H' a xs := by
  have nx : ∀ {o : HO}, H a = some o → (∀ ys, o ≠ .lst ys) → a ∉ as := fun ho n z => by
    obtain ⟨ys, hy⟩ := hl a z
    rw [hy] at ho
    exact n ys (Option.some.inj ho).symm
  rcases h with (h | ⟨u, h⟩) | h
  · exact .inl (.inl (e _ _ h (nx h fun ys z => by cases z)))
  · exact .inl (.inr ⟨u, e _ _ h (nx h fun ys z => by cases z)⟩)
  · exact .inr h
structure Mx (K : PySem.W.Frag) (H : Hp) (D : Addr) (as : List Addr) (M : List (List Mq.Q2)) : Prop where
  d : H D = some (.lst (as.map V.ref))
  n : as.Nodup
  nd : D ∉ as
  la : as.length = M.length
  r : ∀ (i : Nat) (a : Addr) (ps : List Mq.Q2), as[i]? = some a → M[i]? = some ps → ∃ xs, H a = some (.lst xs) ∧ Fqs K H xs ps
theorem Mx.lsts {K : PySem.W.Frag} {H : Hp} {D : Addr} {as : List Addr} {M : List (List Mq.Q2)} (m : Mx K H D as M) : Lsts as H := fun a ha => by
  obtain ⟨i, hi⟩ := List.getElem?_of_mem ha
  have il := (List.getElem?_eq_some_iff.mp hi).1
  have il' : i < M.length := by rw [← m.la]; exact il
  obtain ⟨xs, h, _⟩ := m.r i a M[i] hi (List.getElem?_eq_getElem il')
  exact ⟨xs, h⟩
theorem Mx.same {K : PySem.W.Frag} {H H' : Hp} {D : Addr} {as : List Addr} {M : List (List Mq.Q2)} (s : Same H H') (m : Mx K H D as M) : Mx K H' D as M := ⟨s _ _ m.d, m.n, m.nd, m.la, fun i a ps h1 h2 => by
  obtain ⟨xs, h, f⟩ := m.r i a ps h1 h2
  exact ⟨xs, s _ _ h, f.same s⟩⟩
theorem Mx.set {K : PySem.W.Frag} {H H1 : Hp} {D a v : Addr} {as : List Addr} {M : List (List Mq.Q2)} {i j : Nat} {ps : List Mq.Q2} {xs : List V} {q : Mq.Q2} (m : Mx K H D as M) (ha : as[i]? = some a) (hp : M[i]? = some ps) (hx : H a = some (.lst xs)) (hF : Fqs K H xs ps) (s : Same H H1) (fv : Fq K H1 v q) : Mx K (upd H1 a (.lst (xs.set j (.ref v)))) D as (M.set i (ps.set j q)) ∧ SX as H (upd H1 a (.lst (xs.set j (.ref v)))) := by
  have ma := List.mem_of_getElem? ha
  have hx1 := s _ _ hx
  have il := (List.getElem?_eq_some_iff.mp ha).1
  refine ⟨⟨?_, m.n, m.nd, by rw [List.length_set]; exact m.la, fun k b qs h1 h2 => ?_⟩, s.sx.write ma⟩
  · rw [upd_ne (fun z => m.nd (by rw [z]; exact ma))]; exact s _ _ m.d
  · rw [List.getElem?_set] at h2
    by_cases c : i = k
    · subst c
      rw [ha] at h1
      have h1 : a = b := Option.some.inj h1
      subst h1
      rw [if_pos rfl] at h2
      split at h2
      · have h2 : ps.set j q = qs := Option.some.inj h2
        rw [← h2]
        exact ⟨_, upd_same, (Fqs.set fv j (hF.same s)).upd hx1⟩
      · cases h2
    · rw [if_neg c] at h2
      obtain ⟨ys, hy, fy⟩ := m.r k b qs h1 h2
      have nb : b ≠ a := fun z => by
        subst z
        have kl := (List.getElem?_eq_some_iff.mp h1).1
        have e1 : as[i]'il = b := (List.getElem?_eq_some_iff.mp ha).2
        have e2 : as[k]'kl = b := (List.getElem?_eq_some_iff.mp h1).2
        exact c ((List.getElem_inj m.n).mp (e1.trans e2.symm))
      exact ⟨ys, by rw [upd_ne nb]; exact s _ _ hy, (fy.same s).upd hx1⟩
end L2

set_option Elab.async false
set_option linter.all false
set_option maxRecDepth 100000
set_option maxHeartbeats 4000000
namespace K55
open PySem L2 Shp
section
variable {P : Program} {w : World} {K : PySem.W.Frag} {mg : Str → Option Value} {base : Heap} {f g1 g2 g3 g4 g5 g6 g7 g8 g9 g10 g11 : Addr} {fd gd1 gd2 gd3 gd4 gd5 gd6 gd7 gd8 gd9 gd10 gd11 : FuncData} {CX : CXT}
def spNth (K : PySem.W.Frag) : Sp := fun vs H Q _ => ∃ (a : Addr) (ns : List Int) (j : Int) (k : Nat), vs = [.ref a, .int j] ∧ j = (k : Int) ∧ SqL K H a (ns.map V.int) ∧ ns.length ≤ 63 ∧ k ≤ 63 ∧ ∀ i H', Same H H' → Q (.int i) H'
theorem em_lo (x : Int) {m : Int} (h : 0 < m) : 0 ≤ x % m := Int.emod_nonneg x (by omega)
theorem em_hi (x : Int) {m : Int} (h : 0 < m) : x % m < m := Int.emod_lt_of_pos x h
def bits (fr : Bool) : Nat := if fr then 30 else 4
def spSize : Sp := fun vs H Q _ => ∃ (c : Int) (fr : Bool), vs = [.int c, .bl fr] ∧ ∀ p, Mq.Ps p → Mq.Bd (bits fr) p → NewF H Q p
def spAmount : Sp := fun vs H Q _ => ∃ (c : Int) (fr : Bool), vs = [.int c, .bl fr] ∧ ∀ p, Mq.Low p → Mq.Bd (bits fr) p → NewF H Q p
theorem size_fin {H : Hp} {Q : VK} {fr : Bool} (q : ∀ p, Mq.Ps p → Mq.Bd (bits fr) p → NewF H Q p) {t b : Int} (h1 : 0 < t) (h2 : t < 2 ^ bits fr) (h3 : 0 < b) (h4 : b < 2 ^ bits fr) : spLowP [.int t, .int b] H Q E0 := by
  have bT : Mq.B (bits fr) t := B_of (by have : (0 : Int) < 2 ^ bits fr := Int.pow_pos (by decide); omega) h2
  have bB : Mq.B (bits fr) b := B_of (by have : (0 : Int) < 2 ^ bits fr := Int.pow_pos (by decide); omega) h4
  have le := Mq.red_le (t := t) (show b ≠ 0 by omega)
  exact ⟨t, b, bits fr, rfl, h3, bB, by unfold bits; split <;> omega, q _ (Mq.red_ps h1 h3) ⟨bT.le le.1, bB.le le.2⟩⟩
theorem amount_fin {H : Hp} {Q : VK} {fr : Bool} (q : ∀ p, Mq.Low p → Mq.Bd (bits fr) p → NewF H Q p) {t b : Int} (h1 : -(2 ^ bits fr) < t) (h2 : t < 2 ^ bits fr) (h3 : 0 < b) (h4 : b < 2 ^ bits fr) : spLowP [.int t, .int b] H Q E0 := by
  have bT : Mq.B (bits fr) t := B_of h1 h2
  have bB : Mq.B (bits fr) b := B_of (by have : (0 : Int) < 2 ^ bits fr := Int.pow_pos (by decide); omega) h4
  have le := Mq.red_le (t := t) (show b ≠ 0 by omega)
  exact ⟨t, b, bits fr, rfl, h3, bB, by unfold bits; split <;> omega, q _ (Mq.red_low (by omega)) ⟨bT.le le.1, bB.le le.2⟩⟩
abbrev sNth : Stmt := top 29
theorem scNth : FnScope ["_law_script", "_law_k", "_law_cell"] ["_law_script", "_law_k"] (defScope sNth) := ⟨rfl, rfl, rfl, by decide +kernel, rfl, by decide +kernel, by decide +kernel⟩
theorem ok_nth {dV : Value} (F : FunD K "_law_nth" "_law_nth" sNth dV f fd) :
    FnOk P w K mg base CX 1 f fd ["_law_script", "_law_k"] (spNth K) := by
  refine F.ok scNth (fun vs H Q E h => ?_) (fun cdv A outer s H vs Q E hr h => ?_)
  · obtain ⟨a, ns, j, k, rfl, hj, hS, h63, hk, q⟩ := h
    rfl
  obtain ⟨a, ns, j, k, rfl, hj, hS, h63, hk, q⟩ := h
  refine ⟨_, (pss_cons (ps_for PassesOwn.never rfl (pi_list (pe_slice sl_list (pv 0) (po_some (pv 1)) (po_some (pe_op op_add (pv 1) pe_int)))) (pg_name (i := 2) scNth.nd rfl (Or.inl rfl))
      (pss_one (ps_ret (pv 2))))
    (pss_one (ps_ret (pe_op op_mod (pe_op op_mulB (pe_op op_mul pe_int (pv 1)) (pv 1)) pe_int)))), ?_⟩
  refine ⟨_, rfl, _, rfl, j, rfl, _, rfl, _, _, rfl, rfl, j + 1, rfl, a, _, rfl, hS, fun l hl => ?_⟩
  have s1 := same_new hl (.lst (cutV (ns.map V.int) (some j) (some (j + 1))))
  have e1 : upd H l (.lst (cutV (ns.map V.int) (some j) (some (j + 1)))) l = some (.lst (cutV (ns.map V.int) (some j) (some (j + 1)))) := upd_same
  obtain ⟨ms, em, lm⟩ := cut_ints ns (some j) (some (j + 1))
  rw [em] at e1 s1 ⊢
  generalize upd H l (.lst (ms.map V.int)) = H1 at e1 s1 ⊢
  refine ⟨l, rfl, ⟨_, SqL.of e1⟩, ?_⟩
  refine for_list (xs := ms.map V.int) (fun i σ H' => H' = H1 ∧ ∃ z, σ = [some (.ref a), some (.int j), z]) ⟨rfl, none, rfl⟩ (fun i σ H' _ h => by rw [h.1]; exact SqL.of e1) ?_ ?_
  · rintro i x σ H' hx ⟨rfl, z, rfl⟩
    obtain ⟨c, rfl⟩ : ∃ c, x = .int c := by
      rw [List.getElem?_map] at hx
      cases hm : ms[i]? with
      | none => rw [hm] at hx; cases hx
      | some c => rw [hm] at hx; cases hx; exact ⟨c, rfl⟩
    exact ⟨_, rfl, q c _ s1⟩
  · rintro σ H' ⟨rfl, z, rfl⟩
    refine ⟨_, rfl, _, _, rfl, rfl, Or.inl ⟨by decide, by decide⟩, _, rfl, rd_mulB (n := 40) (m := 40) (B_of (by omega) (by omega)) (B_of (by omega) (by omega)) (by omega) (by omega) ⟨_, _, rfl, rfl, (show (0 : Int) < 1009 by decide), q _ _ s1⟩⟩
abbrev sDiv : Stmt := top 30
theorem scDiv : FnScope ["_law_one", "_law_other"] ["_law_one", "_law_other"] (defScope sDiv) := ⟨rfl, rfl, rfl, by decide +kernel, rfl, by decide +kernel, by decide +kernel⟩
theorem ok_div {dV : Value} (F : FunD K "_law_divisor" "_law_divisor" sDiv dV f fd)
    (b : Bl mg) :
    FnOk P w K mg base CX 1 f fd ["_law_one", "_law_other"] spGc := by
  refine F.ok scDiv (fun vs H Q E h => ?_) (fun cdv A outer s H vs Q E hr h => ?_)
  · obtain ⟨x, y, rfl, q⟩ := h
    rfl
  obtain ⟨x, y, rfl, q⟩ := h
  refine ⟨_, (pss_cons (ps_while PassesOwn.never (pt_cmpR op_ne (pv 1) pe_int (nomark _)) (pss_one (ps_par (i := 0) (j := 1) rfl scDiv.nd rfl rfl (by decide) rfl rfl (pa_cons (pv 1) (pa_cons (pe_op op_modN (pv 0) (pv 1)) pa_nil)) rfl)))
    (pss_one (ps_ret (pe_callB call_abs rfl b.abs PyProof.Rows.boot_abs (pa_cons (pv 0) pa_nil))))), ?_⟩
  refine while_by (fun σ H' => H' = H ∧ ∃ u v, σ = [some (.int u), some (.int v)] ∧ Mq.gc u v = Mq.gc x y) (fun σ _ => match σ with | [_, some (.int v)] => v.natAbs | _ => 0) ⟨rfl, x, y, rfl, rfl⟩ ?_ ?_
  · rintro σ H' ⟨rfl, u, v, rfl, e⟩
    refine ⟨_, rfl, rfl, _, rfl, ?_⟩
    refine ite2 (fun c => ?_) (fun c => ?_)
    · have hv : v ≠ 0 := by intro q; subst q; simp at c
      refine ⟨_, rfl, _, rfl, _, rfl, _, _, rfl, rfl, hv, _, _, rfl, ⟨rfl, v, Int.fmod u v, rfl, (Mq.gc_step u v).trans e⟩, Mq.fmod_less hv⟩
    · have hv : v = 0 := by
        simp at c
        exact c
      subst hv
      refine ⟨_, rfl, _, rfl, ?_⟩
      rw [← Mq.gc_zero, e]
      exact q
  · rintro σ H Q Q' m ⟨v, h1, h2, k, h3, h4⟩
    exact ⟨v, h1, h2, k, h3, m _ _ h4⟩
abbrev sLowest : Stmt := top 31
theorem scLowest : FnScope ["_law_top", "_law_bottom", "_law_part"] ["_law_top", "_law_bottom"] (defScope sLowest) := ⟨rfl, rfl, rfl, by decide +kernel, rfl, by decide +kernel, by decide +kernel⟩
theorem ok_lowest {dV : Value} (F : FunD K "_law_lowest" "_law_lowest" sLowest dV f fd)
    (G1 : FnOk P w K mg base CX0 1 g1 gd1 ["_law_one", "_law_other"] spGc) (b1 : Binds K gd1 ["_law_one", "_law_other"] []) (k1 : PySem.W.keepIn K (.ref g1) = true) (m1 : mg "_law_divisor" = some (.ref g1)) :
    FnOk P w K mg base CX 2 f fd ["_law_top", "_law_bottom"] spLowP := by
  refine F.ok scLowest (fun vs H Q E h => ?_) (fun cdv A outer s H vs Q E hr h => ?_)
  · obtain ⟨t, b', n, rfl, hb, hB, hn, q⟩ := h
    rfl
  obtain ⟨t, b', n, rfl, hb, hB, hn, q⟩ := h
  refine ⟨_, (pss_cons (ps_set (i := 2) scLowest.nd rfl (Or.inl rfl) (pe_call G1 hr rfl m1 k1 b1 .nil pass0 (pa_cons (pv 0) (pa_cons (pv 1) pa_nil))))
    (pss_one (ps_ret (pe_tup (pa_cons (pe_op op_fdivB (pv 0) (pv 2)) (pa_cons (pe_op op_fdivB (pv 1) (pv 2)) pa_nil)))))), ?_⟩
  have hd := Mq.dvr_ne (t := t) (show b' ≠ 0 by omega)
  have hdB : Mq.B n (Mq.dvr t b') := hB.le (Mq.dvr_le (by omega))
  have e := dvr_pos (t := t) hb
  rw [e] at hd hdB
  have q' : NewF H Q (t.fdiv (Mq.gc t b'), b'.fdiv (Mq.gc t b')) := by
    have z := q
    unfold Mq.red at z
    rw [e] at z
    exact z
  refine ⟨_, rfl, _, rfl, t, b', rfl, ?_⟩
  refine ⟨_, rfl, _, rfl, rd_fdivB hd hdB hn ⟨_, rfl, _, rfl, rd_fdivB hd hdB hn ⟨by show 2 ≤ sizeLine; decide, fun p hp => ?_⟩⟩⟩
  exact q' p _ (same_new hp _) upd_same
def spIs (K : PySem.W.Frag) : Sp := fun vs H Q _ => ∃ (a : Addr) (p : Mq.Q2), vs = [.ref a] ∧ Fq K H a p ∧ Mq.Low p ∧ Q (.bl true) H
abbrev sIs : Stmt := top 32
theorem scIs : FnScope ["_law_found", "_law_number"] ["_law_found"] (defScope sIs) := ⟨rfl, rfl, rfl, by decide +kernel, rfl, by decide +kernel, by decide +kernel⟩
theorem ok_is {dV : Value} (F : FunD K "_law_is" "_law_is" sIs dV f fd)
    (b : Bl mg) (ml : mg "len" = none) (mt : mg "tuple" = none)
    (G1 : FnOk P w K mg base CX0 1 g1 gd1 ["_law_one", "_law_other"] spGc) (b1 : Binds K gd1 ["_law_one", "_law_other"] []) (k1 : PySem.W.keepIn K (.ref g1) = true) (m1 : mg "_law_divisor" = some (.ref g1)) :
    FnOk P w K mg base CX 2 f fd ["_law_found"] (spIs K) := by
  refine F.ok scIs (fun vs H Q E h => ?_) (fun cdv A outer s H vs Q E hr h => ?_)
  · obtain ⟨a, p, rfl, fa, hp, q⟩ := h
    rfl
  obtain ⟨a, p, rfl, fa, hp, q⟩ := h
  refine ⟨_, (pss_cons (ps_if (PW.pt (pw_or (pt_not (pt_val (pe_isiQ (i := 0) rfl (Or.inl rfl) b.isi mt rfl rfl PyProof.Rows.boot_tuple))) (pw_or1 (pt_cmpR op_ne (pe_callB call_len_seq rfl ml PySem.boot_len (pa_cons (pv 0) pa_nil)) pe_int (nomark _))))) (pss_one (ps_ret pe_bl)) pss_nil)
    (pss_cons (ps_for PassesOwn.never rfl (pi_tup (pv 0)) (pg_name (i := 1) scIs.nd rfl (Or.inl rfl))
      (pss_one (ps_if (PW.pt (pw_or (pt_not (pt_val (pe_isiQ (i := 1) rfl (Or.inl rfl) b.isi b.int rfl rfl PyProof.Rows.boot_int))) (pw_or1 (pt_val (pe_isiQ (i := 1) rfl (Or.inl rfl) b.isi b.bool rfl rfl PyProof.Rows.boot_bool))))) (pss_one (ps_ret pe_bl)) pss_nil)))
    (pss_one (ps_ret (pe_and (pe_cmpR op_gt (pe_ix ix_tup (pv 0) pe_int (fun _ _ => rfl)) pe_int (nomark _)) (pe_one (pe_cmpR op_eq (pe_call G1 hr rfl m1 k1 b1 .nil pass0 (pa_cons (pe_ix ix_tup (pv 0) pe_int (fun _ _ => rfl)) (pa_cons (pe_ix ix_tup (pv 0) pe_int (fun _ _ => rfl)) pa_nil))) pe_int (nomark _)))))))), ?_⟩
  refine ⟨_, _, true, rfl, .tup fa, rfl, _, rfl, iteF ⟨_, rfl, a, _, rfl, .inr fa, rfl, _, rfl, iteF ?_⟩⟩
  refine ⟨_, rfl, a, rfl, ⟨_, fa⟩, ?_⟩
  refine for_tup (xs := [.int p.1, .int p.2]) (fun i σ H' => H' = H ∧ ∃ z, σ = [some (.ref a), z]) ⟨rfl, none, rfl⟩ (fun i σ H' _ h => by rw [h.1]; exact fa) ?_ ?_
  · rintro i x σ H' hx ⟨rfl, z, rfl⟩
    have hint : ∃ j, x = .int j := by
      match i, hx with
      | 0, h => exact ⟨p.1, by simpa using h.symm⟩
      | 1, h => exact ⟨p.2, by simpa using h.symm⟩
      | n + 2, h => simp at h
    obtain ⟨j, rfl⟩ := hint
    exact ⟨_, _, true, rfl, .of (.int j), rfl, _, rfl, iteF ⟨_, _, false, rfl, .of (.int j), (by with_unfolding_all rfl), _, rfl, iteF ⟨rfl, _, rfl⟩⟩⟩
  · rintro σ H' ⟨rfl, z, rfl⟩
    have h1 := hp.pos
    refine rd_ix1 rfl fa ⟨_, _, rfl, rfl, _, rfl, L2.ifT (decide_eq_true (show p.2 > 0 by omega)) (rd_ix0 rfl fa (rd_ix1 rfl fa ⟨_, _, rfl, rfl, ?_⟩))⟩
    rw [hp.one]
    exact q
def spLList (K : PySem.W.Frag) : Sp := fun vs H Q _ => ∃ (a : Addr) (xs : List V) (ps : List Mq.Q2), vs = [.ref a, .int (ps.length : Int)] ∧ SqL K H a xs ∧ Fqs K H xs ps ∧ Mq.AllLow ps ∧ ps.length ≤ 100 ∧ ∀ H', Same H H' → Q (.bl true) H'
theorem nd_one : (["_law_one"] : List Str).Nodup := by decide +kernel
abbrev sLList : Stmt := top 33
theorem scLList : FnScope ["_law_found", "_law_many"] ["_law_found", "_law_many"] (defScope sLList) := ⟨rfl, rfl, rfl, by decide +kernel, rfl, by decide +kernel, by decide +kernel⟩
theorem ok_llist {dV : Value} (F : FunD K "_law_list" "_law_list" sLList dV f fd)
    (b : Bl mg) (ml : mg "len" = none) (mli : mg "list" = none) (ma : mg "all" = none)
    (G1 : FnOk P w K mg base CX0 2 g1 gd1 ["_law_found"] (spIs K)) (b1 : Binds K gd1 ["_law_found"] []) (k1 : PySem.W.keepIn K (.ref g1) = true) (m1 : mg "_law_is" = some (.ref g1)) :
    FnOk P w K mg base CX 3 f fd ["_law_found", "_law_many"] (spLList K) := by
  refine F.ok scLList (fun vs H Q E h => ?_) (fun cdv A outer s H vs Q E hr h => ?_)
  · obtain ⟨a, xs, ps, rfl, hS, hF, hP, h100, q⟩ := h
    rfl
  obtain ⟨a, xs, ps, rfl, hS, hF, hP, h100, q⟩ := h
  refine ⟨_, (pss_cons (ps_if (PW.pt (pw_or (pt_not (pt_val (pe_isiQ (i := 0) rfl (Or.inl rfl) b.isi mli rfl rfl PyProof.Rows.boot_list))) (pw_or1 (pt_cmpR op_ne (pe_callB call_len_seq rfl ml PySem.boot_len (pa_cons (pv 0) pa_nil)) (pv 1) (nomark _))))) (pss_one (ps_ret pe_bl)) pss_nil)
    (pss_one (ps_ret (pe_callB (call_all rfl) rfl ma PyProof.Rows.boot_all (pa_cons (pe_comp (nl := 1) (fr := []) (Nc := ["_law_one"]) (cl := []) rfl ⟨rfl, rfl, by decide +kernel, by decide +kernel, fun x c h => (by cases h), has_of rfl, rfl, fun i n h => (by simp at h)⟩
        (pi_list (pv 0)) (fun C s3 H3 fp pins => (pg_name (i := 0) nd_one rfl (Or.inl rfl))) (fun C s3 H3 fp pins => pif_nil)
        (fun C s3 H3 fp pins => (pe_call G1 hr rfl m1 k1 b1 .nil pass0 (pa_cons (pv 0) pa_nil)))) pa_nil))))), ?_⟩
  have lx := hF.length
  refine ⟨_, _, true, rfl, .lst hS, rfl, _, rfl, iteF ⟨_, rfl, a, _, rfl, .inl hS, _, rfl, rfl, _, rfl, ?_⟩⟩
  rw [lx]
  refine iteNS rfl ?_
  refine ⟨_, rfl, a, rfl, ⟨_, hS⟩, fun D hD => ?_⟩
  have sD := same_new hD (.lst [])
  refine comp_list (xs := xs) (fun i zs H' => Same H H' ∧ H' D = some (.lst zs) ∧ zs = (List.replicate i true).map V.bl) ⟨sD, upd_same, rfl⟩ (fun i zs H' h => h.2.1) (fun i zs H' _ h => h.1.seq hS) ?_ ?_
  · rintro i zs x H1 hx ⟨s1, e1, rfl⟩ C hC
    obtain ⟨u, p, rfl, ep, fu⟩ := hF.get hx
    have hi : i < ps.length := (List.getElem?_eq_some_iff.mp ep).1
    refine ⟨keep1.1, keep1.2, iteT ?_⟩
    refine ⟨_, rfl, u, p, rfl, s1.fq fu, hP p (List.mem_of_getElem? ep), ?_⟩
    refine ⟨e1, small1000 (by rw [List.length_map, List.length_replicate]; omega), hC _ _ ⟨s1.change hD, upd_same, ?_⟩⟩
    rw [List.replicate_succ', List.map_append]; rfl
  · rintro zs H1 ⟨s1, e1, rfl⟩
    refine ⟨D, _, rfl, SqL.of e1, ?_⟩
    rw [show (List.replicate xs.length true).all id = true by simp]
    exact q _ s1
abbrev sMeets : Stmt := top 34
theorem scMeets : FnScope ["_law_some", "_law_others", "_law_due", "_law_top", "_law_bottom", "_law_one", "_law_other"] ["_law_some", "_law_others", "_law_due"] (defScope sMeets) := ⟨rfl, rfl, rfl, by decide +kernel, rfl, by decide +kernel, by decide +kernel⟩
theorem ok_meets {dV : Value} (F : FunD K "_law_meets" "_law_meets" sMeets dV f fd)
    (mz : mg "zip" = none) :
    FnOk P w K mg base CX 1 f fd ["_law_some", "_law_others", "_law_due"] (spMeetsG K) := by
  refine F.ok scMeets (fun vs H Q E h => ?_) (fun cdv A outer s H vs Q E hr h => ?_)
  · obtain ⟨a, o, d, xs, ys, ms, ps, q, n, n', rfl, hX, fX, hO, fO, fd', hb, hb2, hq, hl, hn, hn', hpl, hE, z⟩ := h
    rfl
  obtain ⟨a, o, d, xs, ys, ms, ps, q, n, n', rfl, hX, fX, hO, fO, fd', hb, hb2, hq, hl, hn, hn', hpl, hE, z⟩ := h
  refine ⟨_, (pss_cons (ps_set (i := 3) scMeets.nd rfl (Or.inl rfl) pe_int)
    (pss_cons (ps_set (i := 4) scMeets.nd rfl (Or.inl rfl) pe_int)
    (pss_cons (ps_for PassesOwn.never rfl (pi_zip rfl mz rfl (pa_cons (pv 0) (pa_cons (pv 1) pa_nil))) (pg_tup rfl (pgs_cons (pg_name (i := 5) scMeets.nd rfl (Or.inl rfl)) (pgs_cons (pg_name (i := 6) scMeets.nd rfl (Or.inl rfl)) pgs_nil)))
      (pss_cons (ps_set (i := 3) scMeets.nd rfl (Or.inl rfl) (pe_op op_add (pe_op op_mulB (pe_op op_mulB (pv 3) (pe_ix ix_tup (pv 5) pe_int (fun _ _ => rfl))) (pe_ix ix_tup (pv 6) pe_int (fun _ _ => rfl))) (pe_op op_mulB (pe_op op_mulB (pe_ix ix_tup (pv 5) pe_int (fun _ _ => rfl)) (pe_ix ix_tup (pv 6) pe_int (fun _ _ => rfl))) (pv 4))))
    (pss_one (ps_set (i := 4) scMeets.nd rfl (Or.inl rfl) (pe_op op_mulB (pe_op op_mulB (pv 4) (pe_ix ix_tup (pv 5) pe_int (fun _ _ => rfl))) (pe_ix ix_tup (pv 6) pe_int (fun _ _ => rfl)))))))
    (pss_one (ps_ret (pe_cmpR op_eq (pe_op op_mulB (pv 3) (pe_ix ix_tup (pv 2) pe_int (fun _ _ => rfl))) (pe_op op_mulB (pe_ix ix_tup (pv 2) pe_int (fun _ _ => rfl)) (pv 4)) (nomark _))))))), ?_⟩
  have lx := fX.length
  have ly := fO.length
  have lL : (List.zipWith Mq.pp ms ps).length = ms.length := by simp [hpl]
  refine ⟨_, rfl, _, rfl, a, o, rfl, ⟨_, hX⟩, ⟨_, hO⟩, ?_⟩
  refine for_zip (xs := xs) (ys := ys) (fun i σ H' => Same H H' ∧ i ≤ 10 ∧ ∃ z5 z6, σ = [some (.ref a), some (.ref o), some (.ref d), some (.int (Mq.N ((List.zipWith Mq.pp ms ps).take i))), some (.int (Mq.D ((List.zipWith Mq.pp ms ps).take i))), z5, z6] ∧ Mq.B (1 + (n + n' + 10) * i) (Mq.N ((List.zipWith Mq.pp ms ps).take i)) ∧ Mq.B (1 + (n + n' + 10) * i) (Mq.D ((List.zipWith Mq.pp ms ps).take i))) ⟨Same.refl _, by omega, none, none, rfl, show (0 : Nat) < 2 ^ (1 + (n + n' + 10) * 0) from Nat.two_pow_pos _, show (1 : Nat) < 2 ^ (1 + (n + n' + 10) * 0) by simp⟩ (fun i σ H' _ h => ⟨h.1.seq hX, h.1.seq hO⟩) ?_ ?_
  · rintro i x y σ H1 T1 ex ey ⟨s1, i10, z5, z6, rfl, bN, bD⟩ hT
    obtain ⟨u, p, rfl, ep, fu⟩ := fX.get ex
    obtain ⟨v, r, rfl, er, fv⟩ := fO.get ey
    have hi : i < ms.length := (List.getElem?_eq_some_iff.mp ep).1
    have pb := hb p (List.mem_of_getElem? ep)
    have ob := hb2 r (List.mem_of_getElem? er)
    have sT := same_new hT (.tup [.ref u, .ref v])
    refine ⟨T1, _, rfl, SqT.of upd_same, rfl, _, _, rfl, _, _, rfl, rfl, ?_⟩
    have sx := s1.trans sT
    have fu' := sx.fq fu
    have fv' := sx.fq fv
    generalize upd H1 T1 (.tup [.ref u, .ref v]) = H2 at sx fu' fv' ⊢
    obtain ⟨eN, eD⟩ := Mq.nd_take (ps := List.zipWith Mq.pp ms ps) (i := i) (p := Mq.pp p r) (by rw [List.getElem?_zipWith, ep, er])
    have kb : (n + n' + 10) * i ≤ (n + n' + 10) * 10 := Nat.mul_le_mul_left _ (by omega)
    have b1 := bN.mul pb.b
    have b2 := b1.mul ob.b
    have b3 := pb.a.mul ob.a
    have b4 := b3.mul bD
    have b5 := bD.mul pb.b
    have b6 := b5.mul ob.b
    refine ⟨_, rfl, rd_ix1 rfl fu' (rd_mulB bN pb.b (by omega) (by omega) (rd_ix1 rfl fv' (rd_mulB b1 ob.b (by omega) (by omega) (rd_ix0 rfl fu' (rd_ix0 rfl fv' (rd_mulB pb.a ob.a (by omega) (by omega) ⟨_, rfl, rd_mulB b3 bD (by omega) (by omega) ⟨_, _, rfl, rfl, ?_⟩⟩))))))⟩
    refine ⟨_, rfl, rd_ix1 rfl fu' (rd_mulB bD pb.b (by omega) (by omega) (rd_ix1 rfl fv' (rd_mulB b5 ob.b (by omega) (by omega) ?_)))⟩
    have x1 : Mq.N ((List.zipWith Mq.pp ms ps).take i) * p.2 * r.2 + p.1 * r.1 * Mq.D ((List.zipWith Mq.pp ms ps).take i) = Mq.N ((List.zipWith Mq.pp ms ps).take (i + 1)) := by rw [eN]; show _ = _ * (p.2 * r.2) + (p.1 * r.1) * _; rw [Int.mul_assoc]
    have x2 : Mq.D ((List.zipWith Mq.pp ms ps).take i) * p.2 * r.2 = Mq.D ((List.zipWith Mq.pp ms ps).take (i + 1)) := by rw [eD]; show _ = _ * (p.2 * r.2); rw [Int.mul_assoc]
    refine ⟨sx, by omega, some (.ref u), some (.ref v), by rw [← x1, ← x2]; rfl, ?_, ?_⟩
    · rw [← x1]
      exact (Mq.B.add (n := 1 + (n + n' + 10) * i + n + n') b2 (b4.mono (by omega))).mono (by rw [Nat.mul_succ]; omega)
    · rw [← x2]
      exact b6.mono (by rw [Nat.mul_succ]; omega)
  · rintro σ H1 ⟨s1, _, z5, z6, rfl, bN, bD⟩
    rw [show min xs.length ys.length = (List.zipWith Mq.pp ms ps).length by omega, List.take_length] at bN bD ⊢
    have fd1 := s1.fq fd'
    have kb : (n + n' + 10) * (List.zipWith Mq.pp ms ps).length ≤ (n + n' + 10) * 10 := Nat.mul_le_mul_left _ (by omega)
    refine ⟨_, rfl, rd_ix1 rfl fd1 (rd_mulB bN hq.b (by omega) (by omega) (rd_ix0 rfl fd1 ⟨_, rfl, rd_mulB hq.a bD (by omega) (by omega) ⟨rfl, ?_⟩⟩))⟩
    rw [hE, decide_eq_true rfl]
    exact z _ s1
abbrev sSize : Stmt := top 35
theorem scSize : FnScope ["_law_cell", "_law_far"] ["_law_cell", "_law_far"] (defScope sSize) := ⟨rfl, rfl, rfl, by decide +kernel, rfl, by decide +kernel, by decide +kernel⟩
theorem ok_size {dV : Value} (F : FunD K "_law_size" "_law_size" sSize dV f fd)
    (G1 : FnOk P w K mg base CX0 2 g1 gd1 ["_law_top", "_law_bottom"] spLowP) (b1 : Binds K gd1 ["_law_top", "_law_bottom"] []) (k1 : PySem.W.keepIn K (.ref g1) = true) (m1 : mg "_law_lowest" = some (.ref g1)) :
    FnOk P w K mg base CX 3 f fd ["_law_cell", "_law_far"] spSize := by
  refine F.ok scSize (fun vs H Q E h => ?_) (fun cdv A outer s H vs Q E hr h => ?_)
  · obtain ⟨c, fr, rfl, q⟩ := h
    rfl
  obtain ⟨c, fr, rfl, q⟩ := h
  refine ⟨_, (pss_cons (ps_if (pt_val (pv 1)) (pss_one (ps_ret (pe_call G1 hr rfl m1 k1 b1 .nil pass0 (pa_cons (pe_op op_add pe_int (pe_op op_mod (pe_op op_mul (pv 0) pe_int) pe_int)) (pa_cons (pe_op op_add pe_int (pe_op op_mod (pe_op op_mul (pv 0) pe_int) pe_int)) pa_nil))))) pss_nil)
    (pss_one (ps_ret (pe_call G1 hr rfl m1 k1 b1 .nil pass0 (pa_cons (pe_op op_add pe_int (pe_op op_mod (pe_op op_mod (pe_op op_mul (pv 0) pe_int) pe_int) pe_int)) (pa_cons (pe_op op_add pe_int (pe_op op_mod (pe_op op_mod (pe_op op_mul (pv 0) pe_int) pe_int) pe_int)) pa_nil)))))), ?_⟩
  refine ⟨_, rfl, _, rfl, ?_⟩
  cases fr
  · refine iteF ⟨_, rfl, _, _, rfl, rfl, Or.inr ⟨by decide, by decide⟩, _, _, rfl, rfl, (show (0 : Int) < 10007 by decide), _, _, rfl, rfl, (show (0 : Int) < 9 by decide), _, _, rfl, rfl, _, rfl, _, _, rfl, rfl, Or.inr ⟨by decide, by decide⟩, _, _, rfl, rfl, (show (0 : Int) < 31 by decide), _, _, rfl, rfl, (show (0 : Int) < 4 by decide), _, _, rfl, rfl, ?_⟩
    have a1 := em_lo (c * 48271 % 10007) (show (0 : Int) < 9 by decide)
    have a2 := em_hi (c * 48271 % 10007) (show (0 : Int) < 9 by decide)
    have b1 := em_lo (c * 16807 % 31) (show (0 : Int) < 4 by decide)
    have b2 := em_hi (c * 16807 % 31) (show (0 : Int) < 4 by decide)
    exact size_fin q (by omega) (by show _ < (16 : Int); omega) (by omega) (by show _ < (16 : Int); omega)
  · refine iteT ⟨_, rfl, _, _, rfl, rfl, Or.inr ⟨by decide, by decide⟩, _, _, rfl, rfl, (show (0 : Int) < 999999937 by decide), _, _, rfl, rfl, _, rfl, _, _, rfl, rfl, Or.inr ⟨by decide, by decide⟩, _, _, rfl, rfl, (show (0 : Int) < 999999929 by decide), _, _, rfl, rfl, ?_⟩
    have a1 := em_lo (c * 48271) (show (0 : Int) < 999999937 by decide)
    have a2 := em_hi (c * 48271) (show (0 : Int) < 999999937 by decide)
    have b1 := em_lo (c * 69621) (show (0 : Int) < 999999929 by decide)
    have b2 := em_hi (c * 69621) (show (0 : Int) < 999999929 by decide)
    exact size_fin q (by omega) (by show _ < (1073741824 : Int); omega) (by omega) (by show _ < (1073741824 : Int); omega)
abbrev sAmount : Stmt := top 36
theorem scAmount : FnScope ["_law_cell", "_law_far"] ["_law_cell", "_law_far"] (defScope sAmount) := ⟨rfl, rfl, rfl, by decide +kernel, rfl, by decide +kernel, by decide +kernel⟩
theorem ok_amount {dV : Value} (F : FunD K "_law_amount" "_law_amount" sAmount dV f fd)
    (G1 : FnOk P w K mg base CX0 2 g1 gd1 ["_law_top", "_law_bottom"] spLowP) (b1 : Binds K gd1 ["_law_top", "_law_bottom"] []) (k1 : PySem.W.keepIn K (.ref g1) = true) (m1 : mg "_law_lowest" = some (.ref g1)) :
    FnOk P w K mg base CX 3 f fd ["_law_cell", "_law_far"] spAmount := by
  refine F.ok scAmount (fun vs H Q E h => ?_) (fun cdv A outer s H vs Q E hr h => ?_)
  · obtain ⟨c, fr, rfl, q⟩ := h
    rfl
  obtain ⟨c, fr, rfl, q⟩ := h
  refine ⟨_, (pss_cons (ps_if (pt_val (pv 1)) (pss_one (ps_ret (pe_call G1 hr rfl m1 k1 b1 .nil pass0 (pa_cons (pe_op op_sub (pe_op op_mod (pe_op op_mul (pv 0) pe_int) pe_int) pe_int) (pa_cons (pe_op op_add pe_int (pe_op op_mod (pe_op op_mul (pv 0) pe_int) pe_int)) pa_nil))))) pss_nil)
    (pss_one (ps_ret (pe_call G1 hr rfl m1 k1 b1 .nil pass0 (pa_cons (pe_op op_sub (pe_op op_mod (pe_op op_mod (pe_op op_mul (pv 0) pe_int) pe_int) pe_int) pe_int) (pa_cons (pe_op op_add pe_int (pe_op op_mod (pe_op op_mod (pe_op op_mul (pv 0) pe_int) pe_int) pe_int)) pa_nil)))))), ?_⟩
  refine ⟨_, rfl, _, rfl, ?_⟩
  cases fr
  · refine iteF ⟨_, rfl, _, _, rfl, rfl, Or.inr ⟨by decide, by decide⟩, _, _, rfl, rfl, (show (0 : Int) < 10009 by decide), _, _, rfl, rfl, (show (0 : Int) < 19 by decide), _, _, rfl, rfl, _, rfl, _, _, rfl, rfl, Or.inr ⟨by decide, by decide⟩, _, _, rfl, rfl, (show (0 : Int) < 37 by decide), _, _, rfl, rfl, (show (0 : Int) < 3 by decide), _, _, rfl, rfl, ?_⟩
    have a1 := em_lo (c * 69621 % 10009) (show (0 : Int) < 19 by decide)
    have a2 := em_hi (c * 69621 % 10009) (show (0 : Int) < 19 by decide)
    have b1 := em_lo (c * 16807 % 37) (show (0 : Int) < 3 by decide)
    have b2 := em_hi (c * 16807 % 37) (show (0 : Int) < 3 by decide)
    exact amount_fin q (by show -(16 : Int) < _; omega) (by show _ < (16 : Int); omega) (by omega) (by show _ < (16 : Int); omega)
  · refine iteT ⟨_, rfl, _, _, rfl, rfl, Or.inr ⟨by decide, by decide⟩, _, _, rfl, rfl, (show (0 : Int) < 1999999973 by decide), _, _, rfl, rfl, _, rfl, _, _, rfl, rfl, Or.inr ⟨by decide, by decide⟩, _, _, rfl, rfl, (show (0 : Int) < 999999893 by decide), _, _, rfl, rfl, ?_⟩
    have a1 := em_lo (c * 69621) (show (0 : Int) < 1999999973 by decide)
    have a2 := em_hi (c * 69621) (show (0 : Int) < 1999999973 by decide)
    have b1 := em_lo (c * 48271) (show (0 : Int) < 999999893 by decide)
    have b2 := em_hi (c * 48271) (show (0 : Int) < 999999893 by decide)
    exact amount_fin q (by show -(1073741824 : Int) < _; omega) (by show _ < (1073741824 : Int); omega) (by omega) (by show _ < (1073741824 : Int); omega)
abbrev sLPlus : Stmt := top 37
theorem scLPlus : FnScope ["_law_one", "_law_other"] ["_law_one", "_law_other"] (defScope sLPlus) := ⟨rfl, rfl, rfl, by decide +kernel, rfl, by decide +kernel, by decide +kernel⟩
theorem ok_lplus {dV : Value} (F : FunD K "_law_plus" "_law_plus" sLPlus dV f fd)
    (G1 : FnOk P w K mg base CX0 2 g1 gd1 ["_law_top", "_law_bottom"] spLowP) (b1 : Binds K gd1 ["_law_top", "_law_bottom"] []) (k1 : PySem.W.keepIn K (.ref g1) = true) (m1 : mg "_law_lowest" = some (.ref g1)) :
    FnOk P w K mg base CX 3 f fd ["_law_one", "_law_other"] (spTwo K Mq.plus) := by
  refine F.ok scLPlus (fun vs H Q E h => ?_) (fun cdv A outer s H vs Q E hr h => ?_)
  · obtain ⟨a, b, p, q, n, m, rfl, fa, fb, hp, hq, bp, bq, hnm, z⟩ := h
    rfl
  obtain ⟨a, b, p, q, n, m, rfl, fa, fb, hp, hq, bp, bq, hnm, z⟩ := h
  refine ⟨_, (pss_one (ps_ret (pe_call G1 hr rfl m1 k1 b1 .nil pass0 (pa_cons (pe_op op_add (pe_op op_mulB (pe_ix ix_tup (pv 0) pe_int (fun _ _ => rfl)) (pe_ix ix_tup (pv 1) pe_int (fun _ _ => rfl))) (pe_op op_mulB (pe_ix ix_tup (pv 1) pe_int (fun _ _ => rfl)) (pe_ix ix_tup (pv 0) pe_int (fun _ _ => rfl)))) (pa_cons (pe_op op_mulB (pe_ix ix_tup (pv 0) pe_int (fun _ _ => rfl)) (pe_ix ix_tup (pv 1) pe_int (fun _ _ => rfl))) pa_nil))))), ?_⟩
  refine rd_ix0 rfl fa (rd_ix1 rfl fb (rd_mulB bp.a bq.b (by omega) (by omega) ?_))
  refine rd_ix0 rfl fb (rd_ix1 rfl fa (rd_mulB bq.a bp.b (by omega) (by omega) ⟨_, _, rfl, rfl, ?_⟩))
  refine rd_ix1 rfl fa (rd_ix1 rfl fb (rd_mulB bp.b bq.b (by omega) (by omega) ?_))
  exact ⟨_, _, n + m, rfl, Int.mul_pos (by omega) (by omega), bp.b.mul bq.b, by omega, z⟩
def spSumD (K : PySem.W.Frag) : Sp := fun vs H Q _ => ∃ (a b : Addr) (xs ys : List V) (ps qs : List Mq.Q2) (n m : Nat), vs = [.ref a, .ref b] ∧ SqL K H a xs ∧ Fqs K H xs ps ∧ SqL K H b ys ∧ Fqs K H ys qs ∧ LB n ps ∧ LB m qs ∧ ps.length = qs.length ∧ ps.length ≤ 10 ∧ n + m + 1 ≤ 800 ∧ ∀ r H', Same H H' → Fq K H' r (dot ps qs) → Q (.ref r) H'
abbrev sSumD : Stmt := top 39
theorem scSumD : FnScope ["_law_some", "_law_others", "_law_found", "_law_one", "_law_other"] ["_law_some", "_law_others"] (defScope sSumD) := ⟨rfl, rfl, rfl, by decide +kernel, rfl, by decide +kernel, by decide +kernel⟩
theorem ok_sumd {dV : Value} (F : FunD K "_law_sum" "_law_sum" sSumD dV f fd)
    (mz : mg "zip" = none)
    (G1 : FnOk P w K mg base CX0 3 g1 gd1 ["_law_one", "_law_other"] (spTwo K Mq.plus)) (b1 : Binds K gd1 ["_law_one", "_law_other"] []) (k1 : PySem.W.keepIn K (.ref g1) = true) (m1 : mg "_law_plus" = some (.ref g1))
    (G2 : FnOk P w K mg base CX0 2 g2 gd2 ["_law_top", "_law_bottom"] spLowP) (b2 : Binds K gd2 ["_law_top", "_law_bottom"] []) (k2 : PySem.W.keepIn K (.ref g2) = true) (m2 : mg "_law_lowest" = some (.ref g2)) :
    FnOk P w K mg base CX 4 f fd ["_law_some", "_law_others"] (spSumD K) := by
  refine F.ok scSumD (fun vs H Q E h => ?_) (fun cdv A outer s H vs Q E hr h => ?_)
  · obtain ⟨a, o, xs, ys, ps, qs, n, m, rfl, ha, hp, hb, hq, LP, LQ, hl, h10, hn, q⟩ := h
    rfl
  obtain ⟨a, o, xs, ys, ps, qs, n, m, rfl, ha, hp, hb, hq, LP, LQ, hl, h10, hn, q⟩ := h
  have r2 := hr.mono (show 2 ≤ 3 by omega)
  refine ⟨_, (pss_cons (ps_set (i := 2) scSumD.nd rfl (Or.inl rfl) (pe_tup (pa_cons pe_int (pa_cons pe_int pa_nil))))
    (pss_cons (ps_for PassesOwn.never rfl (pi_zip rfl mz rfl (pa_cons (pv 0) (pa_cons (pv 1) pa_nil))) (pg_tup rfl (pgs_cons (pg_name (i := 3) scSumD.nd rfl (Or.inl rfl)) (pgs_cons (pg_name (i := 4) scSumD.nd rfl (Or.inl rfl)) pgs_nil)))
      (pss_one (ps_set (i := 2) scSumD.nd rfl (Or.inl rfl) (pe_call G1 hr rfl m1 k1 b1 .nil pass0 (pa_cons (pv 2) (pa_cons (pe_call G2 r2 rfl m2 k2 b2 .nil pass0 (pa_cons (pe_op op_mulB (pe_ix ix_tup (pv 3) pe_int (fun _ _ => rfl)) (pe_ix ix_tup (pv 4) pe_int (fun _ _ => rfl))) (pa_cons (pe_op op_mulB (pe_ix ix_tup (pv 3) pe_int (fun _ _ => rfl)) (pe_ix ix_tup (pv 4) pe_int (fun _ _ => rfl))) pa_nil))) pa_nil))))))
    (pss_one (ps_ret (pv 2))))), ?_⟩
  have lx := hp.length
  have ly := hq.length
  refine ⟨by show 2 ≤ sizeLine; decide, fun t0 ht0 => ?_⟩
  have s0 := same_new ht0 (.tup [.int 0, .int 1])
  have f0 : Fq K (upd H t0 (.tup [.int 0, .int 1])) t0 (0, 1) := Fq.of upd_same
  generalize upd H t0 (.tup [.int 0, .int 1]) = H0 at s0 f0 ⊢
  refine ⟨_, rfl, _, rfl, a, o, rfl, ⟨_, s0.seq ha⟩, ⟨_, s0.seq hb⟩, ?_⟩
  refine for_zip (xs := xs) (ys := ys) (fun i σ H' => Same H H' ∧ ∃ r z3 z4, σ = [some (.ref a), some (.ref o), some (.ref r), z3, z4] ∧ Fq K H' r (Mq.tot ((dotL ps qs).take i))) ⟨s0, t0, none, none, rfl, f0⟩ (fun i σ H' _ h => ⟨h.1.seq ha, h.1.seq hb⟩) ?_ ?_
  · rintro i x y σ H1 T1 ex ey ⟨s1, r, z3, z4, rfl, fr⟩ hT
    have hi : i < ps.length := by have := (List.getElem?_eq_some_iff.mp ex).1; omega
    obtain ⟨u, p, rfl, ep, fu⟩ := hp.get ex
    obtain ⟨v, p', rfl, ep', fv⟩ := hq.get ey
    rw [Mq.getQ1 hi] at ep
    rw [Mq.getQ1 (show i < qs.length by omega)] at ep'
    cases ep
    cases ep'
    have sT := same_new hT (.tup [.ref u, .ref v])
    refine ⟨T1, _, rfl, SqT.of upd_same, rfl, _, _, rfl, _, _, rfl, rfl, ?_⟩
    generalize upd H1 T1 (.tup [.ref u, .ref v]) = H2 at sT ⊢
    have s2 := s1.trans sT
    have fu' := s2.fq fu
    have fv' := s2.fq fv
    obtain ⟨a1, a2⟩ := LP.at hi
    obtain ⟨b1, b2⟩ := LQ.at (i := i) (by omega)
    have mb : (n + m + 1) * ps.length ≤ 800 * 10 := Nat.mul_le_mul (by omega) h10
    have dk : ∀ f ∈ (dotL ps qs).take i, Mq.Low f ∧ Mq.Bd (n + m) f := fun f hf => dot_all LP LQ hl f (List.mem_of_mem_take hf)
    have pt : Mq.Pos ((dotL ps qs).take i) := fun f hf => (dk f hf).1.pos
    have bt := Mq.tot_bd pt (fun f hf => (dk f hf).2)
    have tl : ((dotL ps qs).take i).length ≤ ps.length := by rw [List.length_take, dot_len hl]; omega
    have mono : (n + m + 1) * ((dotL ps qs).take i).length ≤ (n + m + 1) * ps.length := Nat.mul_le_mul_left _ tl
    refine ⟨_, rfl, rd_ix0 rfl fu' (rd_ix0 rfl fv' (rd_mulB a2.a b2.a (by omega) (by omega) (rd_ix1 rfl fu' (rd_ix1 rfl fv' (rd_mulB a2.b b2.b (by omega) (by omega) ?_)))))⟩
    refine ⟨_, _, n + m, rfl, Int.mul_pos (by have := a1.pos; omega) (by have := b1.pos; omega), a2.b.mul b2.b, by omega, fun v3 H3 s3 e3 => ?_⟩
    have t1 := Mq.times_low a1.pos b1.pos
    have t2 := Mq.times_bd a2 b2 a1.pos b1.pos
    refine ⟨r, v3, _, _, _, n + m, rfl, (sT.trans s3).fq fr, Fq.of (p := Mq.times (ps.getD i Mq.z0) (qs.getD i Mq.z0)) e3, (Mq.tot_low pt).pos, t1.pos, bt, t2, by omega, fun v4 H4 s4 e4 => ?_⟩
    refine ⟨s2.trans (s3.trans s4), v4, some (.ref u), some (.ref v), rfl, ?_⟩
    rw [List.take_add_one, dot_get hl hi]
    show Fq K H4 v4 (Mq.tot (_ ++ [_]))
    rw [Mq.tot_snoc]
    exact Fq.of e4
  · rintro σ H1 ⟨s1, r, z3, z4, rfl, fr⟩
    rw [lx, ly, ← hl, Nat.min_self, List.take_of_length_le (by rw [dot_len hl]; omega)] at fr
    exact ⟨_, rfl, q r H1 s1 fr⟩
end
end K55

set_option Elab.async false
set_option linter.all false
set_option maxRecDepth 100000
set_option maxHeartbeats 2000000
namespace L2
open PySem Mq Shp
theorem ne_len {a : Int} : ∀ {l : List Int}, l.Nodup → l.length ≤ (l.filter fun x => decide (x ≠ a)).length + 1
  | [], _ => by simp
  | b :: l, h => by
    have h2 := List.nodup_cons.mp h
    by_cases c : b = a
    · have : l.filter (fun x => decide (x ≠ a)) = l := List.filter_eq_self.mpr fun x hx => by
        have : x ≠ a := fun z => h2.1 (by rw [c, ← z]; exact hx)
        simp [this]
      rw [List.filter_cons_of_neg (by simp [c]), this, List.length_cons]
      omega
    · rw [List.filter_cons_of_pos (by simp [c]), List.length_cons, List.length_cons]
      have := ne_len (a := a) h2.2
      omega
theorem out_len : ∀ (es : List Int) {l : List Int}, l.Nodup → l.length ≤ (l.filter fun x => decide (x ∉ es)).length + es.length
  | [], l, _ => by rw [List.filter_eq_self.mpr (fun x hx => by simp)]; simp
  | a :: es, l, h => by
    have ih := out_len es h
    have e : (l.filter fun x => decide (x ∉ a :: es)) = (l.filter fun x => decide (x ∉ es)).filter fun x => decide (x ≠ a) := by
      rw [List.filter_filter]
      congr 1
      funext x
      simp
    have := ne_len (a := a) (h.sublist (List.filter_sublist (p := fun x => decide (x ∉ es))))
    rw [e, List.length_cons]
    omega
def ints20 : List Int := (List.range 20).map fun (p : Nat) => (p : Int)
theorem out20 {es : List Int} (h : es.length ≤ 6) : 14 ≤ (ints20.filter fun x => decide (x ∉ es)).length := by
  have := out_len es (l := ints20) (by unfold ints20; decide)
  have l : ints20.length = 20 := rfl
  omega
theorem free20 {es : List Int} (h : es.length ≤ 6) : ∃ q : Int, 0 ≤ q ∧ q < 20 ∧ q ∉ es := by
  have := out20 h
  cases e : ints20.filter fun x => decide (x ∉ es) with
  | nil => rw [e] at this; simp at this
  | cons q r =>
    have hq : q ∈ ints20.filter fun x => decide (x ∉ es) := by rw [e]; simp
    obtain ⟨h1, h2⟩ := List.mem_filter.mp hq
    obtain ⟨p, hp, rfl⟩ := List.mem_map.mp h1
    have := List.mem_range.mp hp
    exact ⟨(p : Int), by omega, by omega, by simpa using h2⟩
structure Eok (es : List Int) : Prop where
  nd : es.Nodup
  lo : ∀ e ∈ es, 0 ≤ e ∧ e < 20
theorem Eok.snoc {es : List Int} (h : Eok es) {p : Int} (h0 : 0 ≤ p) (h1 : p < 20) (n : p ∉ es) : Eok (es ++ [p]) := by
  refine ⟨List.nodup_append.mpr ⟨h.nd, by simp, fun a ha b hb => ?_⟩, fun e he => ?_⟩
  · have : b = p := by simpa using hb
    rw [this]; exact fun z => n (by rw [← z]; exact ha)
  · rcases List.mem_append.mp he with z | z
    · exact h.lo e z
    · have : e = p := by simpa using z
      rw [this]; exact ⟨h0, h1⟩
def cn (m d i j : Nat) : Nat := if d < i then m - 1 else if d = i then j - 1 else if d < j then i + 1 else i
structure MI (k m i j : Nat) (X : List (List Q2)) : Prop where
  l : X.length = m
  w : ∀ row ∈ X, row.length = m
  o : ∀ d e, d < m → e < m → d ≠ e → Low (ix2 X d e) ∧ Bd k (ix2 X d e)
  g : ∀ d, d < m → Low (ix2 X d d) ∧ Bd (1 + (k + 1) * cn m d i j) (ix2 X d d) ∧ 0 ≤ (ix2 X d d).1
def set2 (X : List (List Q2)) (i j : Nat) (q : Q2) : List (List Q2) := X.set i ((X.getD i []).set j q)
theorem ix2_set {X : List (List Q2)} {i j m : Nat} {q : Q2} (hl : X.length = m) (hw : ∀ row ∈ X, row.length = m) (hi : i < m) (hj : j < m) (d e : Nat) : ix2 (set2 X i j q) d e = if d = i ∧ e = j then q else ix2 X d e := by
  have hr := hw _ (List.mem_of_getElem? (getL (X := X) (i := i) (by omega)))
  unfold set2 ix2
  rw [List.getD_eq_getElem?_getD (l := X.set i _), List.getElem?_set]
  by_cases c : i = d
  · subst c
    rw [if_pos rfl, if_pos (by omega)]
    show ((X.getD i []).set j q).getD e z0 = _
    rw [List.getD_eq_getElem?_getD, List.getElem?_set]
    by_cases c2 : j = e
    · subst c2
      rw [if_pos rfl, if_pos (by omega), if_pos ⟨rfl, rfl⟩]; rfl
    · rw [if_neg c2, if_neg (fun z => c2 z.2.symm)]; exact (List.getD_eq_getElem?_getD ..).symm
  · rw [if_neg c, if_neg (fun z => c z.1.symm), List.getD_eq_getElem?_getD (l := X)]
theorem set2_l {X : List (List Q2)} {i j m : Nat} {q : Q2} (hl : X.length = m) : (set2 X i j q).length = m := by unfold set2; rw [List.length_set]; exact hl
theorem set2_w {X : List (List Q2)} {i j m : Nat} {q : Q2} (hl : X.length = m) (hw : ∀ row ∈ X, row.length = m) (hi : i < m) : ∀ row ∈ set2 X i j q, row.length = m := fun row hr => by
  rcases List.mem_or_eq_of_mem_set hr with z | z
  · exact hw row z
  · rw [z, List.length_set]; exact hw _ (List.mem_of_getElem? (getL (by omega)))
theorem cn_mono {m d i j : Nat} (hd : d < m) (hi : i < j) (hj : j < m) : cn m d i j ≤ cn m d i (j + 1) := by
  unfold cn
  split
  · omega
  · split
    · omega
    · split <;> split <;> omega
theorem cn_le {m d i j : Nat} (hd : d < m) (hj : j ≤ m) : cn m d i j ≤ m - 1 := by
  unfold cn
  split
  · omega
  · split
    · omega
    · split <;> omega
theorem MI.skip {k m i j : Nat} {X : List (List Q2)} (h : MI k m i j X) (hi : i < j) (hj : j < m) : MI k m i (j + 1) X := ⟨h.l, h.w, h.o, fun d hd => ⟨(h.g d hd).1, ⟨(h.g d hd).2.1.a.mono (by have := Nat.mul_le_mul_left (k + 1) (cn_mono hd hi hj); omega), (h.g d hd).2.1.b.mono (by have := Nat.mul_le_mul_left (k + 1) (cn_mono hd hi hj); omega)⟩, (h.g d hd).2.2⟩⟩
theorem MI.next {k m i j : Nat} {X : List (List Q2)} (h : MI k m i j X) (hj : j = m) (hi : i < m) : MI k m (i + 1) (i + 2) X := ⟨h.l, h.w, h.o, fun d hd => ⟨(h.g d hd).1, by
  have : cn m d i j = cn m d (i + 1) (i + 2) := by
    unfold cn
    repeat' split
    all_goals omega
  rw [← this]; exact (h.g d hd).2.1, (h.g d hd).2.2⟩⟩
theorem MI.four {k m i j : Nat} {X : List (List Q2)} (h : MI k m i j X) (hi : i < j) (hj : j < m) {t q : Q2} (lt : Low t) (bt : Bd k t) (pq : Ps q) (bq : Bd k q) :
    MI k m i (j + 1) (set2 (set2 (set2 (set2 X i j t) j i t) i i (plus (ix2 X i i) q)) j j (plus (ix2 X j j) q)) := by
  have l1 := set2_l (i := i) (j := j) (q := t) h.l
  have w1 := set2_w (i := i) (j := j) (q := t) h.l h.w (by omega)
  have l2 := set2_l (i := j) (j := i) (q := t) l1
  have w2 := set2_w (i := j) (j := i) (q := t) l1 w1 (by omega)
  have l3 := set2_l (i := i) (j := i) (q := plus (ix2 X i i) q) l2
  have w3 := set2_w (i := i) (j := i) (q := plus (ix2 X i i) q) l2 w2 (by omega)
  have v : ∀ d e, ix2 (set2 (set2 (set2 (set2 X i j t) j i t) i i (plus (ix2 X i i) q)) j j (plus (ix2 X j j) q)) d e = if d = j ∧ e = j then plus (ix2 X j j) q else if d = i ∧ e = i then plus (ix2 X i i) q else if d = j ∧ e = i then t else if d = i ∧ e = j then t else ix2 X d e := fun d e => by
    rw [ix2_set l3 w3 (by omega) (by omega), ix2_set l2 w2 (by omega) (by omega), ix2_set l1 w1 (by omega) (by omega), ix2_set h.l h.w (by omega) (by omega)]
  have pg : ∀ d, d < m → cn m d i (j + 1) = cn m d i j + 1 → Low (plus (ix2 X d d) q) ∧ Bd (1 + (k + 1) * cn m d i (j + 1)) (plus (ix2 X d d) q) ∧ 0 ≤ (plus (ix2 X d d) q).1 := fun d hd e => by
    obtain ⟨a, b, c⟩ := h.g d hd
    have := plus_ps a.pos c pq
    refine ⟨plus_low a.pos pq.b, (plus_bd b bq a.pos pq.b).mono ?_, by have := this.pos; omega⟩
    rw [e, Nat.mul_succ]; omega
  refine ⟨set2_l l3, set2_w l3 w3 (by omega), fun d e hd he hne => ?_, fun d hd => ?_⟩
  · rw [v]
    rw [if_neg (fun z => hne (z.1.trans z.2.symm)), if_neg (fun z => hne (z.1.trans z.2.symm))]
    split
    · exact ⟨lt, bt⟩
    · split
      · exact ⟨lt, bt⟩
      · exact h.o d e hd he hne
  · rw [v]
    by_cases c : d = j
    · subst c
      rw [if_pos ⟨rfl, rfl⟩]
      exact pg d hd (by unfold cn; repeat' split
                        all_goals omega)
    · by_cases c2 : d = i
      · subst c2
        rw [if_neg (fun z => c z.1), if_pos ⟨rfl, rfl⟩]
        exact pg d hd (by unfold cn; repeat' split
                          all_goals omega)
      · rw [if_neg (fun z => c z.1), if_neg (fun z => c2 z.1), if_neg (fun z => c z.1), if_neg (fun z => c2 z.1)]
        have : cn m d i (j + 1) = cn m d i j := by
          unfold cn
          repeat' split
          all_goals omega
        rw [this]
        exact h.g d hd
theorem MI.start {k m : Nat} (hk : 1 ≤ k) : MI k m 0 1 (List.replicate m (List.replicate m (0, 1))) := by
  have e : ∀ d e, ix2 (List.replicate m (List.replicate m ((0 : Int), (1 : Int)))) d e = (0, 1) := fun d e => by
    unfold ix2
    rw [List.getD_eq_getElem?_getD (l := List.replicate m (List.replicate m ((0 : Int), (1 : Int)))), List.getElem?_replicate]
    split
    · show (List.replicate m ((0 : Int), (1 : Int))).getD e z0 = _
      rw [List.getD_eq_getElem?_getD, List.getElem?_replicate]
      split <;> rfl
    · rfl
  have b1 : ∀ n, 1 ≤ n → Bd n (0, 1) := fun n hn => ⟨Nat.two_pow_pos _, show (1 : Nat) < 2 ^ n from Nat.one_lt_two_pow (by omega)⟩
  refine ⟨by simp, fun row hr => ?_, fun d e' hd he hne => ?_, fun d hd => ?_⟩
  · rw [List.eq_of_mem_replicate hr]; simp
  · rw [e]; exact ⟨⟨by decide, by decide⟩, b1 k hk⟩
  · rw [e]; exact ⟨⟨by decide, by decide⟩, b1 _ (by omega), by decide⟩
theorem MI.rows {k m i j n : Nat} {X : List (List Q2)} (h : MI k m i j X) (hj : j ≤ m) (h1 : k ≤ n) (h2 : 1 + (k + 1) * (m - 1) ≤ n) : ∀ row ∈ X, row.length = m ∧ ∀ p ∈ row, Low p ∧ Bd n p := fun row hr => by
  refine ⟨h.w row hr, fun p hp => ?_⟩
  obtain ⟨d, hd, rfl⟩ := List.getElem_of_mem hr
  obtain ⟨e, he, rfl⟩ := List.getElem_of_mem hp
  have wd := h.w _ (List.getElem_mem hd)
  have ll := h.l
  have eq : ix2 X d e = X[d][e] := by
    unfold ix2
    rw [List.getD_eq_getElem?_getD (l := X), List.getElem?_eq_getElem hd]
    show (X[d]).getD e z0 = _
    rw [List.getD_eq_getElem?_getD, List.getElem?_eq_getElem he]; rfl
  rw [← eq]
  by_cases c : d = e
  · subst c
    obtain ⟨a, b, _⟩ := h.g d (by omega)
    have := Nat.mul_le_mul_left (k + 1) (cn_le (i := i) (show d < m by omega) hj)
    exact ⟨a, ⟨b.a.mono (by omega), b.b.mono (by omega)⟩⟩
  · obtain ⟨a, b⟩ := h.o d e (by omega) (by omega) c
    exact ⟨a, ⟨b.a.mono h1, b.b.mono h1⟩⟩
theorem Mx.at {K : PySem.W.Frag} {H : Hp} {D : Addr} {as : List Addr} {M : List (List Q2)} (m : Mx K H D as M) {i : Nat} (hi : i < M.length) : ∃ a xs, as[i]? = some a ∧ (as.map V.ref)[i]? = some (.ref a) ∧ H a = some (.lst xs) ∧ Fqs K H xs (M.getD i []) := by
  have il : i < as.length := by rw [m.la]; exact hi
  have e := List.getElem?_eq_getElem il
  obtain ⟨xs, h, f⟩ := m.r i _ _ e (getL hi)
  exact ⟨as[i], xs, e, by rw [List.getElem?_map, e]; rfl, h, f⟩
theorem Mx.lnh {K : PySem.W.Frag} {H : Hp} {D : Addr} {as : List Addr} {M : List (List Q2)} (m : Mx K H D as M) : LnH K H (as.map V.ref) M := ⟨by rw [List.length_map, m.la], fun i x ps h1 h2 => by
  rw [List.getElem?_map] at h1
  cases e : as[i]? with
  | none => rw [e] at h1; cases h1
  | some a =>
    rw [e] at h1
    cases h1
    obtain ⟨xs, h, f⟩ := m.r i a ps e h2
    exact ⟨a, xs, rfl, h, f⟩⟩
theorem rs_skp {w k : Nat} (hk : k < w) (F : Nat → Rat) : rs w F = F k + rs (w - 1) fun i => F (skp k i) := by
  induction w with
  | zero => omega
  | succ n ih =>
    show rs n F + F n = F k + rs n fun i => F (skp k i)
    by_cases c : k = n
    · subst c
      rw [rs_congr (n := k) (F := fun i => F (skp k i)) (G := F) fun i hi => by unfold skp; rw [if_pos hi]]
      grind
    · have hk' : k < n := by omega
      rw [ih hk']
      obtain ⟨n', rfl⟩ : ∃ n', n = n' + 1 := ⟨n - 1, by omega⟩
      show F k + rs n' _ + F (n' + 1) = F k + (rs n' _ + F (skp k n'))
      have : skp k n' = n' + 1 := by unfold skp; rw [if_neg (by omega)]
      rw [this]; grind
theorem rs_lin (n : Nat) (F G : Nat → Rat) (c : Rat) : rs n (fun i => F i - c * G i) = rs n F - c * rs n G := by
  induction n with
  | zero => show (0 : Rat) = 0 - c * 0; grind
  | succ n ih =>
    show rs n _ + _ = (rs n F + F n) - c * (rs n G + G n)
    rw [ih]; grind
end L2

set_option Elab.async false
set_option linter.all false
set_option maxRecDepth 100000
set_option maxHeartbeats 4000000
namespace K55
open PySem L2 Shp
section
variable {P : Program} {w : World} {K : PySem.W.Frag} {mg : Str → Option Value} {base : Heap} {f g1 g2 g3 g4 g5 g6 g7 g8 g9 g10 g11 : Addr} {fd gd1 gd2 gd3 gd4 gd5 gd6 gd7 gd8 gd9 gd10 gd11 : FuncData} {CX : CXT}
theorem fqs_repl {K : PySem.W.Frag} {H : Hp} {t : Addr} {p : Mq.Q2} (f : Fq K H t p) : ∀ n, Fqs K H (List.replicate n (.ref t)) (List.replicate n p)
  | 0 => .nil
  | n + 1 => .cons f (fqs_repl f n)
theorem flat_one (x : V) : ∀ n, (List.replicate n [x]).flatten = List.replicate n x
  | 0 => rfl
  | n + 1 => by rw [List.replicate_succ, List.flatten_cons, flat_one x n]; rfl
def nB (fr : Bool) : Nat := if fr then 63 else 26
theorem off_low {p : Mq.Q2} (h : Mq.Ps p) {n : Nat} (b : Mq.Bd n p) : Mq.Low (0 - p.2, p.1) ∧ Mq.Bd n (0 - p.2, p.1) := by
  refine ⟨⟨by have := h.pos; show 1 ≤ p.1; omega, ?_⟩, ⟨by rw [Int.zero_sub]; exact b.b.neg, b.a⟩⟩
  have e := h.low.one
  unfold Mq.gc at e ⊢
  show ((Int.gcd (0 - p.2) p.1 : Nat) : Int) = 1
  rw [Int.zero_sub, Int.neg_gcd, Int.gcd_comm]
  exact e
theorem inv_ok {p : Mq.Q2} (h : Mq.Ps p) {n : Nat} (b : Mq.Bd n p) : Mq.Ps (p.2, p.1) ∧ Mq.Bd n (p.2, p.1) := ⟨Mq.inv_ps h, ⟨b.b, b.a⟩⟩
theorem mi_fin {k m : Nat} {X : List (List Mq.Q2)} (h : MI k m m (m + 1) X) : MI k m m m X := ⟨h.l, h.w, h.o, fun d hd => by
  have := h.g d hd
  have e : cn m d m m = cn m d m (m + 1) := by unfold cn; rw [if_pos hd, if_pos hd]
  rw [e]; exact this⟩
theorem mx_cell {K : PySem.W.Frag} {H : Hp} {D : Addr} {as : List Addr} {M : List (List Mq.Q2)} {n : Nat} (m : Mx K H D as M) (hl : M.length = n) (hw : ∀ row ∈ M, row.length = n) {i j : Nat} (hi : i < n) (hj : j < n) : ∃ a xs v, as[i]? = some a ∧ atI (as.map V.ref) (i : Int) = some (.ref a) ∧ M[i]? = some (M.getD i []) ∧ H a = some (.lst xs) ∧ Fqs K H xs (M.getD i []) ∧ xs.length = n ∧ atI xs (j : Int) = some (.ref v) ∧ Fq K H v (Mq.ix2 M i j) := by
  obtain ⟨a, xs, e1, e2, e3, e4⟩ := m.at (i := i) (by omega)
  have g := Mq.getL (X := M) (i := i) (by omega)
  have lr := hw _ (List.mem_of_getElem? g)
  obtain ⟨v, ev, fv⟩ := e4.at (Mq.getQ1 (show j < (M.getD i []).length by omega))
  exact ⟨a, xs, v, e1, atI_nat e2, g, e3, e4, by have := e4.length; omega, atI_nat ev, fv⟩
structure Known (K : PySem.W.Frag) (H : Hp) (r : Addr) (es : List Int) (X : List (List Mq.Q2)) (cs : List Mq.Q2) : Prop where
  e : ∃ (p l c : Addr) (us ys : List V), SqT K H r [.ref p, .ref l, .ref c] ∧ H p = some (.lst (es.map V.int)) ∧ H l = some (.lst us) ∧ LnH K H us X ∧ H c = some (.lst ys) ∧ Fqs K H ys cs
theorem Known.same {K : PySem.W.Frag} {H H' : Hp} {r : Addr} {es : List Int} {X : List (List Mq.Q2)} {cs : List Mq.Q2} (s : Same H H') (h : Known K H r es X cs) : Known K H' r es X cs := by
  obtain ⟨p, l, c, us, ys, h1, h2, h3, h4, h5, h6⟩ := h.e
  exact ⟨p, l, c, us, ys, s.seqT h1, s _ _ h2, s _ _ h3, h4.same s, s _ _ h5, h6.same s⟩
structure Drawn (fr : Bool) (m : Nat) (es : List Int) (X : List (List Mq.Q2)) (cs : List Mq.Q2) : Prop where
  ok : TbOk (nB fr) m es X cs
  es : Eok es
  g : ∀ d, d < m → 0 ≤ (Mq.ix2 X d d).1
def spTable (K : PySem.W.Frag) : Sp := fun vs H Q _ => ∃ (a : Addr) (ns : List Int) (m : Nat) (fr : Bool), vs = [.ref a, .int (m : Int), .bl fr] ∧ SqL K H a (ns.map V.int) ∧ ns.length ≤ 63 ∧ 2 ≤ m ∧ m ≤ 6 ∧ (fr = true → m ≤ 3) ∧ ∀ r es X cs H', Same H H' → Known K H' r es X cs → Drawn fr m es X cs → Q (.ref r) H'
theorem nd_k_many : (["_law_k", "_law_many"] : List Str).Nodup := by decide +kernel
theorem nd_k_script_far : (["_law_k", "_law_script", "_law_far"] : List Str).Nodup := by decide +kernel
abbrev sTable : Stmt := top 38
theorem scTable : FnScope ["_law_script", "_law_many", "_law_far", "_law_ends", "_law_k", "_law_point", "_law_matrix", "_law_at", "_law_i", "_law_j", "_law_cell", "_law_size_here", "_law_comes"] ["_law_script", "_law_many", "_law_far"] (defScope sTable) := ⟨rfl, rfl, rfl, by decide +kernel, rfl, by decide +kernel, by decide +kernel⟩
theorem ok_table {dV : Value} (F : FunD K "_law_table" "_law_table" sTable dV f fd)
    (mr : mg "range" = none) (ml : mg "len" = none)
    (G1 : FnOk P w K mg base CX0 1 g1 gd1 ["_law_script", "_law_k"] (spNth K)) (b1 : Binds K gd1 ["_law_script", "_law_k"] []) (k1 : PySem.W.keepIn K (.ref g1) = true) (m1 : mg "_law_nth" = some (.ref g1))
    (G2 : FnOk P w K mg base CX0 3 g2 gd2 ["_law_cell", "_law_far"] spSize) (b2 : Binds K gd2 ["_law_cell", "_law_far"] []) (k2 : PySem.W.keepIn K (.ref g2) = true) (m2 : mg "_law_size" = some (.ref g2))
    (G3 : FnOk P w K mg base CX0 3 g3 gd3 ["_law_one", "_law_other"] (spTwo K Mq.plus)) (b3 : Binds K gd3 ["_law_one", "_law_other"] []) (k3 : PySem.W.keepIn K (.ref g3) = true) (m3 : mg "_law_plus" = some (.ref g3))
    (G4 : FnOk P w K mg base CX0 3 g4 gd4 ["_law_cell", "_law_far"] spAmount) (b4 : Binds K gd4 ["_law_cell", "_law_far"] []) (k4 : PySem.W.keepIn K (.ref g4) = true) (m4 : mg "_law_amount" = some (.ref g4)) :
    FnOk P w K mg base CX 4 f fd ["_law_script", "_law_many", "_law_far"] (spTable K) := by
  refine F.ok scTable (fun vs H Q E h => ?_) (fun cdv A outer s H vs Q E hr h => ?_)
  · obtain ⟨a, ns, m, fr, rfl, hS, h63, hm2, hm6, h3, q⟩ := h
    rfl
  obtain ⟨a, ns, m, fr, rfl, hS, h63, hm2, hm6, h3, q⟩ := h
  have r1 := hr.mono (show 1 ≤ 3 by omega)
  have r3 := hr.mono (show 3 ≤ 3 by omega)
  refine ⟨_, (pss_cons (ps_set (i := 3) scTable.nd rfl (Or.inl rfl) (pe_lst pa_nil))
    (pss_cons (ps_if (pt_cmpR op_eq (pe_op op_mod (pe_op op_fdiv (pe_call G1 r1 rfl m1 k1 b1 .nil pass0 (pa_cons (pv 0) (pa_cons pe_int pa_nil))) pe_int) pe_int) pe_int (nomark _)) (pss_one (ps_set (i := 3) scTable.nd rfl (Or.inl rfl) (pe_lst (pa_cons (pe_op op_mod (pe_op op_fdiv (pe_call G1 r1 rfl m1 k1 b1 .nil pass0 (pa_cons (pv 0) (pa_cons pe_int pa_nil))) pe_int) pe_int) pa_nil)))) pss_nil)
    (pss_cons (ps_for PassesOwn.never rfl (pi_range2 rfl mr (pa_cons (pe_callB call_len_seq rfl ml PySem.boot_len (pa_cons (pv 3) pa_nil)) (pa_cons (pv 1) pa_nil))) (pg_name (i := 4) scTable.nd rfl (Or.inl rfl))
      (pss_cons (ps_set (i := 5) scTable.nd rfl (Or.inl rfl) (pe_op op_mod (pe_call G1 r1 rfl m1 k1 b1 .nil pass0 (pa_cons (pv 0) (pa_cons (pe_op op_add pe_int (pv 4)) pa_nil))) pe_int))
    (pss_cons (ps_while PassesOwn.never (pt_cmpR op_in_seq (pv 5) (pv 3) rfl) (pss_one (ps_set (i := 5) scTable.nd rfl (Or.inl rfl) (pe_op op_mod (pe_op op_add (pv 5) pe_int) pe_int))))
    (pss_one (ps_expr (pe_bm PySem.F.plainAttrs_list PySem.F.slot_list_append PySem.F.type_list_append mt_append (pv 3) (pa_cons (pv 5) pa_nil)))))))
    (pss_cons (ps_setC (i := 6) (nl := 1) (fr := [1]) (Nc := ["_law_k", "_law_many"]) (cl := [("_law_many", s.heap.objs.size + 2)]) scTable.nd rfl rfl rfl ⟨rfl, rfl, by decide +kernel, by decide +kernel, (sub_cons rfl (sub_nil)), has_of rfl, rfl, fun i n h => match i, h with | 0, h => by cases h; exact ⟨1, rfl, rfl, rfl, rfl, .inl rfl⟩ | k + 1, h => by rw [show 1 + (k + 1) = k + 2 by omega] at h; cases h⟩
        (pi_range1 rfl mr (pa_cons (pv 1) pa_nil)) (fun C s3 H3 fp pins => (pg_name (i := 0) nd_k_many rfl (Or.inl rfl))) (fun C s3 H3 fp pins => pif_nil)
        (fun C s3 H3 fp pins => (pe_op op_rep (pe_lst (pa_cons (pe_tup (pa_cons pe_int (pa_cons pe_int pa_nil))) pa_nil)) (pv 1))) rfl)
    (pss_cons (ps_set (i := 7) scTable.nd rfl (Or.inl rfl) pe_int)
    (pss_cons (ps_for PassesOwn.never rfl (pi_range1 rfl mr (pa_cons (pv 1) pa_nil)) (pg_name (i := 8) scTable.nd rfl (Or.inl rfl))
      (pss_one (ps_for PassesOwn.never rfl (pi_range2 rfl mr (pa_cons (pe_op op_add (pv 8) pe_int) (pa_cons (pv 1) pa_nil))) (pg_name (i := 9) scTable.nd rfl (Or.inl rfl))
      (pss_cons (ps_set (i := 10) scTable.nd rfl (Or.inl rfl) (pe_call G1 r1 rfl m1 k1 b1 .nil pass0 (pa_cons (pv 0) (pa_cons (pv 7) pa_nil))))
    (pss_cons (ps_set (i := 7) scTable.nd rfl (Or.inl rfl) (pe_op op_add (pv 7) pe_int))
    (pss_one (ps_if (pt_cmpR op_ne (pe_op op_mod (pv 10) pe_int) pe_int (nomark _)) (pss_cons (ps_set (i := 11) scTable.nd rfl (Or.inl rfl) (pe_call G2 r3 rfl m2 k2 b2 .nil pass0 (pa_cons (pv 10) (pa_cons (pv 2) pa_nil))))
    (pss_cons (ps_asg (pe_tup (pa_cons (pe_op op_sub pe_int (pe_ix ix_tup (pv 11) pe_int (fun _ _ => rfl))) (pa_cons (pe_ix ix_tup (pv 11) pe_int (fun _ _ => rfl)) pa_nil))) (pg_sub (pe_ix ix_list (pv 6) (pv 8) (fun _ _ => rfl)) (pv 9) set_list))
    (pss_cons (ps_asg (pe_tup (pa_cons (pe_op op_sub pe_int (pe_ix ix_tup (pv 11) pe_int (fun _ _ => rfl))) (pa_cons (pe_ix ix_tup (pv 11) pe_int (fun _ _ => rfl)) pa_nil))) (pg_sub (pe_ix ix_list (pv 6) (pv 9) (fun _ _ => rfl)) (pv 8) set_list))
    (pss_cons (ps_asg (pe_call G3 hr rfl m3 k3 b3 .nil pass0 (pa_cons (pe_ix ix_list (pe_ix ix_list (pv 6) (pv 8) (fun _ _ => rfl)) (pv 8) (fun _ _ => rfl)) (pa_cons (pe_tup (pa_cons (pe_ix ix_tup (pv 11) pe_int (fun _ _ => rfl)) (pa_cons (pe_ix ix_tup (pv 11) pe_int (fun _ _ => rfl)) pa_nil))) pa_nil))) (pg_sub (pe_ix ix_list (pv 6) (pv 8) (fun _ _ => rfl)) (pv 8) set_list))
    (pss_one (ps_asg (pe_call G3 hr rfl m3 k3 b3 .nil pass0 (pa_cons (pe_ix ix_list (pe_ix ix_list (pv 6) (pv 9) (fun _ _ => rfl)) (pv 9) (fun _ _ => rfl)) (pa_cons (pe_tup (pa_cons (pe_ix ix_tup (pv 11) pe_int (fun _ _ => rfl)) (pa_cons (pe_ix ix_tup (pv 11) pe_int (fun _ _ => rfl)) pa_nil))) pa_nil))) (pg_sub (pe_ix ix_list (pv 6) (pv 9) (fun _ _ => rfl)) (pv 9) set_list))))))) pss_nil)))))))
    (pss_cons (ps_setC (i := 12) (nl := 1) (fr := [0, 2]) (Nc := ["_law_k", "_law_script", "_law_far"]) (cl := [("_law_script", s.heap.objs.size + 1), ("_law_far", s.heap.objs.size + 3)]) scTable.nd rfl rfl rfl ⟨rfl, rfl, by decide +kernel, by decide +kernel, (sub_cons rfl (sub_cons rfl (sub_nil))), has_of rfl, rfl, fun i n h => match i, h with | 0, h => by cases h; exact ⟨0, rfl, rfl, rfl, rfl, .inl rfl⟩ | 1, h => by cases h; exact ⟨2, rfl, rfl, rfl, rfl, .inl rfl⟩ | k + 2, h => by rw [show 1 + (k + 2) = k + 3 by omega] at h; cases h⟩
        (pi_range1 rfl mr (pa_cons (pv 1) pa_nil)) (fun C s3 H3 fp pins => (pg_name (i := 0) nd_k_script_far rfl (Or.inl rfl))) (fun C s3 H3 fp pins => pif_nil)
        (fun C s3 H3 fp pins => (pe_call G4 r3 rfl m4 k4 b4 .nil pass0 (pa_cons (pe_call G1 r1 rfl m1 k1 b1 .nil pass0 (pa_cons (pv 1) (pa_cons (pe_op op_add pe_int (pv 0)) pa_nil))) (pa_cons (pv 2) pa_nil)))) rfl)
    (pss_one (ps_ret (pe_tup (pa_cons (pv 3) (pa_cons (pv 6) (pa_cons (pv 12) pa_nil))))))))))))), ?_⟩
  refine (fun (hrest : ∀ (l : Addr) (Hx : Hp) (es0 : List Int), Same H Hx → H l = none → Hx l = some (.lst (es0.map V.int)) → Eok es0 → es0.length ≤ 1 → PySem.W.KIN.Hid ((?T : Addr → Hp → Prop) l Hx)) => ?main) ?rest
  case main =>
    refine ⟨by show 0 ≤ sizeLine; decide, fun l0 hl0 => ?_⟩
    have s0 := same_new hl0 (.lst [])
    have e0 : upd H l0 (.lst []) l0 = some (.lst []) := upd_same
    generalize upd H l0 (.lst []) = H0 at s0 e0 ⊢
    refine ⟨_, rfl, a, ns, _, 2, rfl, rfl, s0.seq hS, h63, by omega, fun v1 H1 s1 => ⟨_, _, rfl, rfl, ⟨by decide, by decide⟩, _, _, rfl, rfl, (show (0 : Int) < 3 by decide), rfl, _, rfl, ite2 (fun _ => ?_) (fun _ => ?_)⟩⟩
    · refine ⟨_, rfl, a, ns, _, 2, rfl, rfl, (s0.trans s1).seq hS, h63, by omega, fun v2 H2 s2 => ⟨_, _, rfl, rfl, ⟨by decide, by decide⟩, _, _, rfl, rfl, (show (0 : Int) < 2 by decide), (by show 1 ≤ sizeLine; decide), fun l hl => ?_⟩⟩
      have c1 := em_lo (v2 / 42) (show (0 : Int) < 2 by decide)
      have c2 := em_hi (v2 / 42) (show (0 : Int) < 2 by decide)
      have hs := s0.trans (s1.trans s2)
      simp only [gName, List.set_set]
      generalize v2 / 42 % 2 = p at c1 c2 ⊢
      have s3 := same_new hl (.lst [.int p])
      have e3 : upd H2 l (.lst [.int p]) l = some (.lst [.int p]) := upd_same
      generalize upd H2 l (.lst [.int p]) = H3 at s3 e3 ⊢
      have hlH : H l = none := hs.free hl
      clear hl
      have es1 : ∃ es1 : List Int, H3 l = some (.lst (es1.map V.int)) ∧ Eok es1 ∧ es1.length ≤ 1 := ⟨[p], e3, Eok.snoc (es := []) ⟨List.nodup_nil, fun e h => by cases h⟩ c1 (by omega) (by simp), Nat.le_refl 1⟩
      clear e3 c1 c2
      obtain ⟨es1, e3, o1, l1⟩ := es1
      exact (hrest l H3 es1 (hs.trans s3) hlH e3 o1 l1).out
    · exact (hrest l0 H1 [] (s0.trans s1) hl0 (s1 _ _ e0) ⟨List.nodup_nil, fun e h => by cases h⟩ (Nat.zero_le 1)).out
  case rest =>
  intro l H0 es0 s0 hl e0 ok0 le0
  refine ⟨?_⟩
  have hm : m - es0.length + es0.length = m := by omega
  refine ⟨_, rfl, l, _, rfl, .inl (SqL.of e0), _, rfl, (es0.length : Int), (m : Int), by rw [List.length_map], ⟨by omega, by omega, by omega, by omega⟩, ?_⟩
  rw [show ((m : Int) - (es0.length : Int)).toNat = m - es0.length by omega]
  refine for_range (lo := (es0.length : Int)) (n := m - es0.length) (fun i σ H' => Same H H' ∧ ∃ (es : List Int) (z4 z5 : Option V), σ = [some (.ref a), some (.int (m : Int)), some (.bl fr), some (.ref l), z4, z5, none, none, none, none, none, none, none] ∧ H' l = some (.lst (es.map V.int)) ∧ es.length = es0.length + i ∧ Eok es) ⟨s0, es0, none, none, rfl, e0, rfl, ok0⟩ ?_ ?_
  · rintro i σ H1 hi ⟨s1, es, z4, z5, rfl, e1, le1, ok1⟩
    refine ⟨_, rfl, _, rfl, _, _, rfl, rfl, a, ns, _, 3 + (es0.length + i), rfl, by omega, s1.seq hS, h63, by omega, fun v H2 s2 => ⟨_, _, rfl, rfl, (show (0 : Int) < 20 by decide), ?_⟩⟩
    have c1 := em_lo v (show (0 : Int) < 20 by decide)
    have c2 := em_hi v (show (0 : Int) < 20 by decide)
    obtain ⟨p0, hp0⟩ : ∃ p0, v % 20 = p0 := ⟨_, rfl⟩
    have e2 := s2 _ _ e1
    obtain ⟨q0, q1, q2, q3⟩ := free20 (es := es) (by omega)
    show tSeq _ _ _ [some (.ref a), some (.int (m : Int)), some (.bl fr), some (.ref l), some (.int ((es0.length : Int) + (i : Int))), some (.int (v % 20)), none, none, none, none, none, none, none] H2
    rw [hp0]
    rw [hp0] at c1 c2
    refine while_by (fun σ H' => H' = H2 ∧ ∃ p : Int, σ = [some (.ref a), some (.int (m : Int)), some (.bl fr), some (.ref l), some (.int ((es0.length : Int) + (i : Int))), some (.int p), none, none, none, none, none, none, none] ∧ 0 ≤ p ∧ p < 20) (fun (σ : St) _ => match σ[5]? with | some (some (V.int p)) => ((q0 - p) % 20).toNat | _ => 0) ⟨rfl, p0, rfl, c1, c2⟩ ?_ ?_
    · rintro σ H' ⟨rfl, p, rfl, d1, d2⟩
      refine ⟨_, rfl, _, rfl, l, _, rfl, .inl (SqL.of e2), rfl, flat_ints _, ?_⟩
      rw [inV_ints]
      refine ⟨_, rfl, ite2 (fun c => ?_) (fun c => ?_)⟩
      · have hp : p ≠ q0 := fun z => q3 (by rw [← z]; simpa using c)
        refine ⟨_, rfl, _, _, rfl, rfl, _, _, rfl, rfl, (show (0 : Int) < 20 by decide), ⟨rfl, _, rfl, em_lo _ (by decide), em_hi _ (by decide)⟩, ?_⟩
        show ((q0 - (p + 1) % 20) % 20).toNat < ((q0 - p) % 20).toNat
        omega
      · have hp : p ∉ es := by simpa using c
        refine ⟨_, rfl, .inl ⟨rfl, _, SqL.of e2⟩, _, rfl, l, _, _, rfl, rfl, e2, small1000 (by rw [List.length_map]; omega), ?_⟩
        refine ⟨(s1.trans s2).change hl, es ++ [p], _, _, rfl, ?_, by rw [List.length_append, le1]; rfl, ok1.snoc d1 d2 hp⟩
        rw [List.map_append]; exact upd_same
    · rintro σ H Q Q' mm ⟨v, h1, v2, h2, p, xs, h3, h4, h5, h6, k, h7, h8⟩
      exact ⟨v, h1, v2, h2, p, xs, h3, h4, h5, h6, k, h7, mm _ _ h8⟩
  rintro σ H1 ⟨s1, es, z4, z5, rfl, e1, le1, ok1⟩
  have les : es.length = m := by omega
  clear e0 le0 ok0 s0 hm le1
  -- matrix
  refine ⟨_, rfl, (m : Int), rfl, by omega, by omega, fun D hD => ?_⟩
  rw [Int.toNat_natCast]
  have sD := same_new hD (.lst [])
  refine comp_range (n := m) (fun i zs H' => Same H1 H' ∧ H' D = some (.lst zs) ∧ ∃ as : List Addr, zs = as.map V.ref ∧ as.length = i ∧ as.Nodup ∧ D ∉ as ∧ (∀ b ∈ as, H1 b = none) ∧ ∀ b ∈ as, ∃ t, H' b = some (.lst (List.replicate m (.ref t))) ∧ Fq K H' t (0, 1)) ⟨sD, upd_same, [], rfl, rfl, List.nodup_nil, (by simp), (fun b hb => by cases hb), (fun b hb => by cases hb)⟩ (fun i zs H' h => h.2.1) ?_ ?_
  · rintro i zs H3 hi ⟨s3, e3, as, rfl, la, nd, nD, fr', al⟩ C hC
    refine ⟨keep1.1, keep1.2, iteT ?_⟩
    refine ⟨by show 2 ≤ sizeLine; decide, fun t ht => ?_⟩
    have s3a := same_new ht (.tup [.int 0, .int 1])
    have e3a : upd H3 t (.tup [.int 0, .int 1]) t = some (.tup [.int 0, .int 1]) := upd_same
    generalize upd H3 t (.tup [.int 0, .int 1]) = H3a at s3a e3a ⊢
    refine ⟨by show 1 ≤ sizeLine; decide, fun l1 hl1 => ?_⟩
    have s4 := same_new hl1 (.lst [.ref t])
    have e4 : upd H3a l1 (.lst [.ref t]) l1 = some (.lst [.ref t]) := upd_same
    generalize upd H3a l1 (.lst [.ref t]) = H4 at s4 e4 ⊢
    refine ⟨_, rfl, l1, (m : Int), [.ref t], rfl, rfl, e4, by omega, by omega, ?_, fun b hb => ?_⟩
    · rw [Int.toNat_natCast, sizeLine_eq]; simp only [List.length_cons, List.length_nil]; omega
    rw [Int.toNat_natCast, flat_one]
    have s5 := same_new hb (.lst (List.replicate m (.ref t)))
    have e5 : upd H4 b (.lst (List.replicate m (.ref t))) b = some (.lst (List.replicate m (.ref t))) := upd_same
    generalize upd H4 b (.lst (List.replicate m (.ref t))) = H5 at s5 e5 ⊢
    have s34 := s3a.trans s4
    have s35 := s34.trans s5
    have e35 := s35 _ _ e3
    have nbD : b ≠ D := Ne.symm (ne_of_none (s34 _ _ e3) hb)
    have nba : b ∉ as := fun z => by obtain ⟨_, y, _⟩ := al b z; rw [s34 _ _ y] at hb; cases hb
    refine ⟨e35, small1000 (by rw [List.length_map]; omega), hC _ _ ⟨(s3.trans s35).change hD, upd_same, as ++ [b], by rw [List.map_append]; rfl, by rw [List.length_append, la]; rfl, ?_, ?_, fun c hc => ?_, fun c hc => ?_⟩⟩
    · rw [List.nodup_append]
      refine ⟨nd, by simp, fun x hx y hy z => ?_⟩
      have : y = b := by simpa using hy
      exact nba (by rw [← this, ← z]; exact hx)
    · intro z
      rcases List.mem_append.mp z with z | z
      · exact nD z
      · have : D = b := by simpa using z
        exact nbD this.symm
    · rcases List.mem_append.mp hc with z | z
      · exact fr' c z
      · have : c = b := by simpa using z
        rw [this]
        exact (s3.trans s34).free hb
    · rcases List.mem_append.mp hc with z | z
      · obtain ⟨t', y, fy⟩ := al c z
        exact ⟨t', by rw [upd_ne (fun y => nD (by rw [← y]; exact z))]; exact s35 _ _ y, (s35.fq fy).upd e35⟩
      · have : c = b := by simpa using z
        rw [this]
        exact ⟨t, by rw [upd_ne nbD]; exact e5, Fq.upd ((s4.trans s5).fq (Fq.of e3a)) e35⟩
  rintro zs3 H3 ⟨s3, e3, as, rfl, la, nd, nD, fr', al⟩
  have mx3 : Mx K H3 D as (List.replicate m (List.replicate m (0, 1))) := ⟨e3, nd, nD, by rw [la, List.length_replicate], fun i b ps h1 h2 => by
    obtain ⟨t, y, fy⟩ := al b (List.mem_of_getElem? h1)
    rw [List.eq_of_mem_replicate (List.mem_of_getElem? h2)]
    exact ⟨_, y, fqs_repl fy m⟩⟩
  have kb : 1 ≤ bits fr := by cases fr <;> decide
  have b30 : bits fr ≤ 30 := by cases fr <;> decide
  have b36 : 1 + (bits fr + 1) * (m - 1) ≤ nB fr := by
    cases fr
    · show 1 + 5 * (m - 1) ≤ 26; omega
    · have := h3 rfl
      show 1 + 31 * (m - 1) ≤ 63; omega
  have bB : bits fr ≤ nB fr := by cases fr <;> decide
  have nB63 : nB fr ≤ 63 := by cases fr <;> decide
  refine ⟨_, rfl, (m : Int), rfl, by omega, by omega, ?_⟩
  rw [Int.toNat_natCast]
  refine for_range (lo := 0) (n := m) (fun i σ H' => Same H1 H' ∧ ∃ (X : List (List Mq.Q2)) (c : Nat) (ci : Int) (z8 z9 z10 z11 : Option V), σ = [some (.ref a), some (.int (m : Int)), some (.bl fr), some (.ref l), z4, z5, some (.ref D), some (.int ci), z8, z9, z10, z11, none] ∧ ci = (c : Int) ∧ c ≤ 9 + 6 * i ∧ Mx K H' D as X ∧ MI (bits fr) m i (i + 1) X) ⟨s3, _, 9, 9, none, none, none, none, rfl, rfl, by omega, mx3, MI.start kb⟩ ?_ ?_
  · rintro i σ H4 hi ⟨s4, X, c, ci, z8, z9, z10, z11, rfl, hc, hc9, mx4, mi4⟩
    rw [Int.zero_add]
    refine ⟨_, rfl, _, _, rfl, rfl, _, rfl, (i : Int) + 1, (m : Int), rfl, ⟨by omega, by omega, by omega, by omega⟩, ?_⟩
    rw [show ((m : Int) - ((i : Int) + 1)).toNat = m - (i + 1) by omega]
    refine for_range (lo := (i : Int) + 1) (n := m - (i + 1)) (fun t σ H' => Same H1 H' ∧ ∃ (X : List (List Mq.Q2)) (c : Nat) (ci : Int) (z9 z10 z11 : Option V), σ = [some (.ref a), some (.int (m : Int)), some (.bl fr), some (.ref l), z4, z5, some (.ref D), some (.int ci), some (.int (i : Int)), z9, z10, z11, none] ∧ ci = (c : Int) ∧ c ≤ 9 + 6 * i + t ∧ Mx K H' D as X ∧ MI (bits fr) m i (i + 1 + t) X) ⟨s4, X, c, ci, z9, z10, z11, rfl, hc, hc9, mx4, mi4⟩ ?_ ?_
    · clear mx4 mi4 s4 hc hc9 H4 X c ci
      rintro t σ H4 ht ⟨s4, X, c, ci, y9, y10, y11, rfl, hc, hc9, mx4, mi4⟩
      rw [show (i : Int) + 1 + (t : Int) = ((i + 1 + t : Nat) : Int) by omega]
      obtain ⟨j, hj⟩ : ∃ j : Nat, j = i + 1 + t := ⟨_, rfl⟩
      have ej : i + 1 + (t + 1) = j + 1 := by omega
      rw [← hj] at mi4 ⊢
      rw [ej]
      have hij : i < j := by omega
      have hjm : j < m := by omega
      refine ⟨_, rfl, _, rfl, a, ns, _, c, rfl, hc, (s1.trans s4).seq hS, h63, by omega, fun v H5 s5 => ?_⟩
      refine ⟨_, rfl, _, _, rfl, rfl, ?_⟩
      refine ⟨_, rfl, _, _, rfl, rfl, (show (0 : Int) < 3 by decide), rfl, _, rfl, ite2 (fun _ => ?_) (fun _ => ?_)⟩
      rotate_left
      · exact ⟨s4.trans s5, X, c + 1, ci + 1, _, _, _, rfl, by omega, by omega, mx4.same s5, mi4.skip hij hjm⟩
      refine ⟨_, rfl, _, rfl, v, fr, rfl, fun p pp bp s Hs ss es' => ?_⟩
      have fs : Fq K Hs s p := Fq.of es'
      obtain ⟨ol, ob⟩ := off_low pp bp
      obtain ⟨ip, ib⟩ := inv_ok pp bp
      have mx5 := mx4.same (s5.trans ss)
      have s6 := s4.trans (s5.trans ss)
      clear mx4 es'
      -- the two beside
      refine rd_ix1 rfl fs ⟨_, _, rfl, rfl, rd_ix0 rfl fs ⟨by show 2 ≤ sizeLine; decide, fun t1 ht1 => ?_⟩⟩
      have sA := same_new ht1 (.tup [.int (0 - p.2), .int p.1])
      have eA : upd Hs t1 (.tup [.int (0 - p.2), .int p.1]) t1 = some (.tup [.int (0 - p.2), .int p.1]) := upd_same
      generalize upd Hs t1 (.tup [.int (0 - p.2), .int p.1]) = HA at sA eA ⊢
      have fA : Fq K HA t1 (0 - p.2, p.1) := Fq.of eA
      have mxA := mx5.same sA
      obtain ⟨a1, x1, vv1, ha1, at1, g1, h1, f1, l1, c1, fv1⟩ := mx_cell (mxA) mi4.l mi4.w (show i < m by omega) hjm
      refine ⟨_, rfl, _, rfl, D, _, _, _, rfl, rfl, SqL.of (mxA).d, at1, _, rfl, a1, x1, _, j, rfl, rfl, h1, ixN_nat (by omega), ?_⟩
      obtain ⟨mx1, sx1⟩ := (mxA).set (j := j) ha1 g1 h1 f1 (Same.refl _) fA
      generalize upd HA a1 (.lst (x1.set j (.ref t1))) = HB at mx1 sx1 ⊢
      have lA := mxA.lsts
      have fsB : Fq K HB s p := sx1.seqT lA (sA.fq fs)
      have e1' := set2_l (i := i) (j := j) (q := (0 - p.2, p.1)) mi4.l
      have w1' := set2_w (i := i) (j := j) (q := (0 - p.2, p.1)) mi4.l mi4.w (by omega)
      have mx1 : Mx K HB D as (set2 X i j (0 - p.2, p.1)) := mx1
      refine rd_ix1 rfl fsB ⟨_, _, rfl, rfl, rd_ix0 rfl fsB ⟨by show 2 ≤ sizeLine; decide, fun t2 ht2 => ?_⟩⟩
      have sC := same_new ht2 (.tup [.int (0 - p.2), .int p.1])
      have eC : upd HB t2 (.tup [.int (0 - p.2), .int p.1]) t2 = some (.tup [.int (0 - p.2), .int p.1]) := upd_same
      generalize upd HB t2 (.tup [.int (0 - p.2), .int p.1]) = HC at sC eC ⊢
      have fC : Fq K HC t2 (0 - p.2, p.1) := Fq.of eC
      have mxC := mx1.same sC
      obtain ⟨a2, x2, vv2, ha2, at2, g2, h2, f2, l2, c2, fv2⟩ := mx_cell (mxC) e1' w1' hjm (show i < m by omega)
      refine ⟨_, rfl, _, rfl, D, _, _, _, rfl, rfl, SqL.of (mxC).d, at2, _, rfl, a2, x2, _, i, rfl, rfl, h2, ixN_nat (by omega), ?_⟩
      obtain ⟨mx2, sx2⟩ := (mxC).set (j := i) ha2 g2 h2 f2 (Same.refl _) fC
      generalize upd HC a2 (.lst (x2.set i (.ref t2))) = HD at mx2 sx2 ⊢
      have lC := mxC.lsts
      have fsD : Fq K HD s p := sx2.seqT lC (sC.fq fsB)
      have e2' := set2_l (i := j) (j := i) (q := (0 - p.2, p.1)) e1'
      have w2' := set2_w (i := j) (j := i) (q := (0 - p.2, p.1)) e1' w1' hjm
      have mx2 : Mx K HD D as (set2 (set2 X i j (0 - p.2, p.1)) j i (0 - p.2, p.1)) := mx2
      -- the own numbers
      obtain ⟨li, bi, gi⟩ := mi4.g i (by omega)
      obtain ⟨lj, bj, gj⟩ := mi4.g j hjm
      have ci1 := Nat.mul_le_mul_left (bits fr + 1) (cn_le (m := m) (d := i) (i := i) (j := j) (by omega) (by omega))
      have cj1 := Nat.mul_le_mul_left (bits fr + 1) (cn_le (m := m) (d := j) (i := i) (j := j) (by omega) (by omega))
      have v2i : Mq.ix2 (set2 (set2 X i j (0 - p.2, p.1)) j i (0 - p.2, p.1)) i i = Mq.ix2 X i i := by
        rw [ix2_set e1' w1' hjm (by omega), if_neg (by omega), ix2_set mi4.l mi4.w (by omega) hjm, if_neg (by omega)]
      have v2j : Mq.ix2 (set2 (set2 X i j (0 - p.2, p.1)) j i (0 - p.2, p.1)) j j = Mq.ix2 X j j := by
        rw [ix2_set e1' w1' hjm (by omega), if_neg (by omega), ix2_set mi4.l mi4.w (by omega) hjm, if_neg (by omega)]
      obtain ⟨ai, xi, ui, hai, ati, gI, hI, fI, lI, cI, fui⟩ := mx_cell mx2 e2' w2' (show i < m by omega) (show i < m by omega)
      rw [v2i] at fui
      refine ⟨_, rfl, _, rfl, D, _, _, _, rfl, rfl, SqL.of mx2.d, ati, _, rfl, ai, xi, _, _, rfl, rfl, SqL.of hI, cI, rd_ix1 rfl fsD (rd_ix0 rfl fsD ⟨by show 2 ≤ sizeLine; decide, fun t3 ht3 => ?_⟩)⟩
      have sE := same_new ht3 (.tup [.int p.2, .int p.1])
      have eE : upd HD t3 (.tup [.int p.2, .int p.1]) t3 = some (.tup [.int p.2, .int p.1]) := upd_same
      generalize upd HD t3 (.tup [.int p.2, .int p.1]) = HE at sE eE ⊢
      have fE : Fq K HE t3 (p.2, p.1) := Fq.of eE
      refine ⟨ui, t3, _, (p.2, p.1), _, bits fr, rfl, sE.fq fui, fE, li.pos, ip.b, bi, ib, by omega, fun v3 HF sF eF => ?_⟩
      have mxF := mx2.same (sE.trans sF)
      have fF : Fq K HF v3 (Mq.plus (Mq.ix2 X i i) (p.2, p.1)) := Fq.of eF
      obtain ⟨a3, x3, vv3, ha3, at3, g3, h3, f3, l3, c3, fv3⟩ := mx_cell (mxF) e2' w2' (show i < m by omega) (show i < m by omega)
      refine ⟨_, rfl, _, rfl, D, _, _, _, rfl, rfl, SqL.of (mxF).d, at3, _, rfl, a3, x3, _, i, rfl, rfl, h3, ixN_nat (by omega), ?_⟩
      obtain ⟨mx3, sx3⟩ := (mxF).set (j := i) ha3 g3 h3 f3 (Same.refl _) fF
      generalize upd HF a3 (.lst (x3.set i (.ref v3))) = HG at mx3 sx3 ⊢
      have lF := mxF.lsts
      have fsG : Fq K HG s p := sx3.seqT lF ((sE.trans sF).fq fsD)
      have e3' := set2_l (i := i) (j := i) (q := Mq.plus (Mq.ix2 X i i) (p.2, p.1)) e2'
      have w3' := set2_w (i := i) (j := i) (q := Mq.plus (Mq.ix2 X i i) (p.2, p.1)) e2' w2' (by omega)
      have mx3' : Mx K HG D as (set2 (set2 (set2 X i j (0 - p.2, p.1)) j i (0 - p.2, p.1)) i i (Mq.plus (Mq.ix2 X i i) (p.2, p.1))) := mx3
      obtain ⟨aj, xj, uj, haj, atj, gJ, hJ, fJ, lJ, cJ, fuj⟩ := mx_cell mx3' e3' w3' hjm hjm
      rw [ix2_set e2' w2' (by omega) (by omega), if_neg (by omega), v2j] at fuj
      refine ⟨_, rfl, _, rfl, D, _, _, _, rfl, rfl, SqL.of mx3'.d, atj, _, rfl, aj, xj, _, _, rfl, rfl, SqL.of hJ, cJ, rd_ix1 rfl fsG (rd_ix0 rfl fsG ⟨by show 2 ≤ sizeLine; decide, fun t4 ht4 => ?_⟩)⟩
      have sI := same_new ht4 (.tup [.int p.2, .int p.1])
      have eI : upd HG t4 (.tup [.int p.2, .int p.1]) t4 = some (.tup [.int p.2, .int p.1]) := upd_same
      generalize upd HG t4 (.tup [.int p.2, .int p.1]) = HI at sI eI ⊢
      have fI' : Fq K HI t4 (p.2, p.1) := Fq.of eI
      refine ⟨uj, t4, _, (p.2, p.1), _, bits fr, rfl, sI.fq fuj, fI', lj.pos, ip.b, bj, ib, by omega, fun v4 HJ sJ eJ => ?_⟩
      have mxJ := mx3'.same (sI.trans sJ)
      have fJ' : Fq K HJ v4 (Mq.plus (Mq.ix2 X j j) (p.2, p.1)) := Fq.of eJ
      obtain ⟨a4, x4, vv4, ha4, at4, g4, h4, f4, l4, c4, fv4⟩ := mx_cell (mxJ) e3' w3' hjm hjm
      refine ⟨_, rfl, _, rfl, D, _, _, _, rfl, rfl, SqL.of (mxJ).d, at4, _, rfl, a4, x4, _, j, rfl, rfl, h4, ixN_nat (by omega), ?_⟩
      obtain ⟨mx4, sx4⟩ := (mxJ).set (j := j) ha4 g4 h4 f4 (Same.refl _) fJ'
      generalize upd HJ a4 (.lst (x4.set j (.ref v4))) = HL at mx4 sx4 ⊢
      have al' := mi4.four hij hjm ol ob ip ib
      have sx := sA.sx.trans (sx1.trans (sC.sx.trans (sx2.trans ((sE.trans sF).sx.trans (sx3.trans ((sI.trans sJ).sx.trans sx4))))))
      exact ⟨SX.same s6 sx fr', _, c + 1, ci + 1, _, _, _, rfl, by omega, by omega, mx4, al'⟩
    · rintro σ H5 ⟨s5, X5, c5, ci5, y9, y10, y11, rfl, hc5, hc95, mx5, mi5⟩
      refine ⟨s5, X5, c5, ci5, _, _, _, _, rfl, hc5, by omega, mx5, ?_⟩
      exact mi5.next (by omega) hi
  rintro σ H4 ⟨s4, X, c, ci, z8, z9, z10, z11, rfl, hc, hc9, mx4, mi4⟩
  have mi := mi_fin mi4
  -- comes
  refine ⟨_, rfl, (m : Int), rfl, by omega, by omega, fun D2 hD2 => ?_⟩
  rw [Int.toNat_natCast]
  have sD2 := same_new hD2 (.lst [])
  refine comp_range (n := m) (fun i zs H' => Same H4 H' ∧ H' D2 = some (.lst zs) ∧ ∃ cs : List Mq.Q2, Fqs K H' zs cs ∧ cs.length = i ∧ ∀ p ∈ cs, Mq.Low p ∧ Mq.Bd (bits fr) p) ⟨sD2, upd_same, [], .nil, rfl, fun p h => by cases h⟩ (fun i zs H' h => h.2.1) ?_ ?_
  · rintro i zs H5 hi ⟨s5, e5, cs, F5, lc, hcs⟩ C hC
    refine ⟨keep1.1, keep1.2, iteT ?_⟩
    refine ⟨_, rfl, _, rfl, _, _, rfl, rfl, a, ns, _, 24 + i, rfl, by omega, (s1.trans (s4.trans s5)).seq hS, h63, by omega, fun v H6 s6 => ?_⟩
    refine ⟨_, rfl, v, fr, rfl, fun p lp bp u H7 s7 e7 => ?_⟩
    have s57 := s6.trans s7
    have e57 := s57 _ _ e5
    have lz := F5.length
    refine ⟨e57, small1000 (by omega), hC _ _ ⟨(s5.trans s57).change hD2, upd_same, cs ++ [p], ?_, by rw [List.length_append, lc]; rfl, fun q hq => ?_⟩⟩
    · exact ((F5.same s57).app (.cons (Fq.of e7) .nil)).upd e57
    · rcases List.mem_append.mp hq with z | z
      · exact hcs q z
      · have : q = p := by simpa using z
        rw [this]; exact ⟨lp, bp⟩
  rintro zs5 H5 ⟨s5, e5, cs, F5, lc, hcs⟩
  refine ⟨_, rfl, _, rfl, _, rfl, by show 3 ≤ sizeLine; decide, fun r hr' => ?_⟩
  have s6 := same_new hr' (.tup [.ref l, .ref D, .ref D2])
  have e6 : upd H5 r (.tup [.ref l, .ref D, .ref D2]) r = some (.tup [.ref l, .ref D, .ref D2]) := upd_same
  generalize upd H5 r (.tup [.ref l, .ref D, .ref D2]) = H6 at s6 e6 ⊢
  have s16 := s4.trans (s5.trans s6)
  have mx6 := mx4.same (s5.trans s6)
  refine q r es X cs H6 (s1.trans s16) ⟨l, D, D2, as.map V.ref, zs5, SqT.of e6, s16 _ _ e1, mx6.d, mx6.lnh, s6 _ _ e5, F5.same s6⟩ ⟨⟨les, mi.l, lc, by omega, ok1.nd, mi.rows (Nat.le_refl m) bB b36, fun p hp => ⟨(hcs p hp).1, (hcs p hp).2.mono bB⟩⟩, ok1, fun d hd => (mi.g d hd).2.2⟩
end
end K55

set_option Elab.async false
set_option linter.all false
set_option maxRecDepth 100000
set_option maxHeartbeats 4000000
namespace K55
open PySem L2 Shp
section
variable {P : Program} {w : World} {K : PySem.W.Frag} {mg : Str → Option Value} {base : Heap} {f g1 g2 g3 g4 g5 g6 g7 g8 g9 g10 g11 : Addr} {fd gd1 gd2 gd3 gd4 gd5 gd6 gd7 gd8 gd9 gd10 gd11 : FuncData} {CX : CXT}
theorem cut_to (xs : List V) (k : Nat) : cutV xs none (some (k : Int)) = xs.take k := by
  unfold cutV
  have h1 : HT.sIx xs.length 0 none = 0 := rfl
  have h2 : HT.sIx xs.length xs.length (some (k : Int)) = min k xs.length := by simp [HT.sIx]; omega
  rw [h1, h2, List.drop_zero, Nat.sub_zero, List.take_eq_take_iff]; omega
theorem cut_from (xs : List V) (k : Nat) : cutV xs (some (k : Int)) none = xs.drop k := by
  unfold cutV
  have h1 : HT.sIx xs.length xs.length none = xs.length := rfl
  have h2 : HT.sIx xs.length 0 (some (k : Int)) = min k xs.length := by simp [HT.sIx]; omega
  rw [h1, h2]
  by_cases h : k ≤ xs.length
  · rw [Nat.min_eq_left h, List.take_of_length_le (by simp)]
  · rw [Nat.min_eq_right (by omega), List.drop_of_length_le (Nat.le_refl _), List.drop_of_length_le (by omega)]; simp
theorem fqs_drop {K : PySem.W.Frag} {H : Hp} : ∀ {xs : List V} {ds : List Mq.Q2} (n : Nat), Fqs K H xs ds → Fqs K H (xs.drop n) (ds.drop n)
  | _, _, 0, f => f
  | _, _, n + 1, .nil => .nil
  | _, _, n + 1, .cons _ r => fqs_drop n r
theorem m1_low : Mq.Low (-1, 1) := ⟨by decide, by decide⟩
theorem m1_bd {m : Nat} (h : 1 ≤ m) : Mq.Bd m (-1, 1) := by
  have : Mq.Bd 1 (-1, 1) := ⟨show (1 : Nat) < 2 ^ 1 by decide, show (1 : Nat) < 2 ^ 1 by decide⟩
  exact this.mono h
theorem val_m1 : Mq.val (-1, 1) = -1 := by unfold Mq.val; simp; grind
theorem LB.snoc {n : Nat} {ps : List Mq.Q2} {p : Mq.Q2} (h : LB n ps) (l : Mq.Low p) (b : Mq.Bd n p) : LB n (ps ++ [p]) := ⟨fun q hq => by
  rcases List.mem_append.mp hq with z | z
  · exact h.h q z
  · have : q = p := by simpa using z
    rw [this]; exact ⟨l, b⟩⟩
theorem LB.mono {n m : Nat} {ps : List Mq.Q2} (h : LB n ps) (l : n ≤ m) : LB m ps := ⟨fun q hq => ⟨(h.h q hq).1, (h.h q hq).2.mono l⟩⟩
theorem getD_app {ps : List Mq.Q2} {c : Mq.Q2} : (∀ i, i < ps.length → (ps ++ [c]).getD i Mq.z0 = ps.getD i Mq.z0) ∧ (ps ++ [c]).getD ps.length Mq.z0 = c := by
  refine ⟨fun i hi => ?_, ?_⟩
  · rw [List.getD_eq_getElem?_getD, List.getElem?_append_left hi, List.getD_eq_getElem?_getD]
  · rw [List.getD_eq_getElem?_getD, List.getElem?_append_right (Nat.le_refl _), Nat.sub_self]; rfl
theorem dot_c {n m : Nat} {ps qs : List Mq.Q2} {c : Mq.Q2} (LP : LB n ps) (LQ : LB m qs) (hl : ps.length = qs.length) (lc : Mq.Low c) (bc : Mq.Bd n c) (hm : 1 ≤ m) : Mq.Low (dot (ps ++ [c]) (qs ++ [(-1, 1)])) ∧ Mq.Bd (1 + (n + m + 1) * (ps.length + 1)) (dot (ps ++ [c]) (qs ++ [(-1, 1)])) ∧ Mq.val (dot (ps ++ [c]) (qs ++ [(-1, 1)])) = (Mq.rs ps.length fun i => Mq.val (ps.getD i Mq.z0) * Mq.val (qs.getD i Mq.z0)) - Mq.val c := by
  have a := LP.snoc lc bc
  have b := LQ.snoc m1_low (m1_bd hm)
  have l : (ps ++ [c]).length = (qs ++ [((-1, 1) : Mq.Q2)]).length := by simp [hl]
  have l1 : (ps ++ [c]).length = ps.length + 1 := by simp
  have bd := dot_bd a b l
  rw [l1] at bd
  refine ⟨dot_low a b l, bd, ?_⟩
  rw [dot_val a b l, l1]
  show (Mq.rs ps.length _) + _ = _
  rw [Mq.rs_congr (n := ps.length) (G := fun i => Mq.val (ps.getD i Mq.z0) * Mq.val (qs.getD i Mq.z0)) fun i hi => by rw [getD_app.1 i hi, getD_app.1 i (by omega)]]
  have e1 : (ps ++ [c]).getD ps.length Mq.z0 = c := getD_app.2
  have e2 : (qs ++ [((-1, 1) : Mq.Q2)]).getD ps.length Mq.z0 = (-1, 1) := by rw [hl]; exact getD_app.2
  show _ + Mq.val ((ps ++ [c]).getD ps.length Mq.z0) * Mq.val ((qs ++ [((-1, 1) : Mq.Q2)]).getD ps.length Mq.z0) = _
  rw [e1, e2, val_m1]
  grind
def rowK (k m : Nat) (X : List (List Mq.Q2)) : List Mq.Q2 := (List.range (m - 1)).map fun j => Mq.ix2 X k (Mq.skp k j)
def lack (k m : Nat) (X : List (List Mq.Q2)) (cs hs : List Mq.Q2) : Mq.Q2 := dot (rowK k m X ++ [cs.getD k Mq.z0]) (hs ++ [(-1, 1)])
def hgt (k m : Nat) (X : List (List Mq.Q2)) (cs hs : List Mq.Q2) : Mq.Q2 := Mq.red (0 - (lack k m X cs hs).1 * (Mq.ix2 X k k).2) ((lack k m X cs hs).2 * (Mq.ix2 X k k).1)
def evL (k : Nat) (hs : List Mq.Q2) (q : Mq.Q2) : List Mq.Q2 := hs.take k ++ [q] ++ hs.drop k
def dueL (k m : Nat) (X : List (List Mq.Q2)) (cs hs : List Mq.Q2) : List Mq.Q2 := (List.range (m - 1)).map fun i => dot (X.getD (Mq.skp k i) [] ++ [cs.getD (Mq.skp k i) Mq.z0]) (evL k hs (hgt k m X cs hs) ++ [(-1, 1)])
theorem rowK_len (k m : Nat) (X : List (List Mq.Q2)) : (rowK k m X).length = m - 1 := by unfold rowK; simp
theorem rowK_get {k m j : Nat} (X : List (List Mq.Q2)) (hj : j < m - 1) : (rowK k m X)[j]? = some (Mq.ix2 X k (Mq.skp k j)) := by
  unfold rowK
  rw [List.getElem?_map, List.getElem?_range hj]; rfl
theorem dueL_len (k m : Nat) (X : List (List Mq.Q2)) (cs hs : List Mq.Q2) : (dueL k m X cs hs).length = m - 1 := by unfold dueL; simp
theorem dueL_get {k m i : Nat} (X : List (List Mq.Q2)) (cs hs : List Mq.Q2) (hi : i < m - 1) : (dueL k m X cs hs)[i]? = some (dot (X.getD (Mq.skp k i) [] ++ [cs.getD (Mq.skp k i) Mq.z0]) (evL k hs (hgt k m X cs hs) ++ [(-1, 1)])) := by
  unfold dueL
  rw [List.getElem?_map, List.getElem?_range hi]; rfl
structure Wi (k m : Nat) (es : List Int) (X : List (List Mq.Q2)) (cs hs : List Mq.Q2) : Prop where
  T : TbOk 63 m es X cs
  hk : k < m
  m2 : 2 ≤ m
  p : 0 < (Mq.ix2 X k k).1
  L : LB 30 hs
  l : hs.length = m - 1
theorem Wi.row {k m : Nat} {es : List Int} {X : List (List Mq.Q2)} {cs hs : List Mq.Q2} (W : Wi k m es X cs hs) : LB 63 (rowK k m X) := ⟨fun p hp => by
  unfold rowK at hp
  obtain ⟨j, hj, rfl⟩ := List.mem_map.mp hp
  exact W.T.at W.hk (Mq.skp_lt W.hk (by simpa using hj))⟩
theorem Wi.lack {k m : Nat} {es : List Int} {X : List (List Mq.Q2)} {cs hs : List Mq.Q2} (W : Wi k m es X cs hs) : Mq.Low (lack k m X cs hs) ∧ Mq.Bd 565 (K55.lack k m X cs hs) ∧ Mq.val (K55.lack k m X cs hs) = (Mq.rs (m - 1) fun j => matX X k (Mq.skp k j) * cv hs j) - cv cs k := by
  obtain ⟨c1, c2⟩ := W.T.cat W.hk
  have hm := W.T.w6
  have m2 := W.m2
  obtain ⟨a, b, c⟩ := dot_c W.row W.L (by rw [rowK_len, W.l]) c1 c2 (by decide)
  rw [rowK_len] at b c
  refine ⟨a, b.mono (by omega), c.trans ?_⟩
  rw [Mq.rs_congr (n := m - 1) (G := fun j => matX X k (Mq.skp k j) * cv hs j) fun j hj => by
    rw [List.getD_eq_getElem?_getD (l := rowK k m X), rowK_get X hj]; rfl]
  rfl
theorem Wi.ne {k m : Nat} {es : List Int} {X : List (List Mq.Q2)} {cs hs : List Mq.Q2} (W : Wi k m es X cs hs) : matX X k k ≠ 0 := (Mq.low_ne0 (W.T.at W.hk W.hk).1).mp (by have := W.p; omega)
theorem Wi.bot {k m : Nat} {es : List Int} {X : List (List Mq.Q2)} {cs hs : List Mq.Q2} (W : Wi k m es X cs hs) : 0 < (K55.lack k m X cs hs).2 * (Mq.ix2 X k k).1 := Int.mul_pos (by have := W.lack.1.pos; omega) W.p
theorem Wi.hgt {k m : Nat} {es : List Int} {X : List (List Mq.Q2)} {cs hs : List Mq.Q2} (W : Wi k m es X cs hs) : Mq.Low (hgt k m X cs hs) ∧ Mq.Bd 628 (K55.hgt k m X cs hs) ∧ Mq.val (K55.hgt k m X cs hs) = - Mq.val (K55.lack k m X cs hs) / matX X k k := by
  obtain ⟨l1, l2, _⟩ := W.lack
  obtain ⟨o1, o2⟩ := W.T.at W.hk W.hk
  have ne := W.ne
  have bot := W.bot
  unfold K55.hgt
  rw [Mq.matX_ix] at ne ⊢
  generalize K55.lack k m X cs hs = l at *
  have p := W.p
  generalize Mq.ix2 X k k = o at *
  have le := Mq.red_le (t := 0 - l.1 * o.2) (b := l.2 * o.1) (by omega)
  refine ⟨Mq.red_low (by omega), ⟨Mq.B.le (by rw [Int.zero_sub]; exact (l2.a.mul o2.b).neg) le.1, (l2.b.mul o2.a).le le.2⟩, ?_⟩
  rw [Mq.val_red (by omega)]
  have n1 := Mq.cast_ne (show l.2 ≠ 0 by have := l1.pos; omega)
  have n2 := Mq.cast_ne (show o.2 ≠ 0 by have := o1.pos; omega)
  have n3 := Mq.cast_ne (show o.1 ≠ 0 by omega)
  unfold Mq.val
  rw [Rat.intCast_sub, Rat.intCast_mul, Rat.intCast_mul]
  simp only [Rat.intCast_zero]
  grind
theorem ev_len {k : Nat} {hs : List Mq.Q2} (q : Mq.Q2) (h : k ≤ hs.length) : (evL k hs q).length = hs.length + 1 := by
  unfold evL
  rw [List.length_append, List.length_append, List.length_take, List.length_drop]
  simp only [List.length_cons, List.length_nil]
  omega
theorem ev_k {k : Nat} {hs : List Mq.Q2} (q : Mq.Q2) (h : k ≤ hs.length) : (evL k hs q).getD k Mq.z0 = q := by
  unfold evL
  have lt : (hs.take k).length = k := by rw [List.length_take]; omega
  rw [List.getD_eq_getElem?_getD, List.getElem?_append_left (by rw [List.length_append, lt]; simp), List.getElem?_append_right (by omega), lt, Nat.sub_self]; rfl
theorem ev_s {k j : Nat} {hs : List Mq.Q2} (q : Mq.Q2) (h : k ≤ hs.length) (hj : j < hs.length) : (evL k hs q).getD (Mq.skp k j) Mq.z0 = hs.getD j Mq.z0 := by
  unfold evL Mq.skp
  have lt : (hs.take k).length = k := by rw [List.length_take]; omega
  rw [List.getD_eq_getElem?_getD, List.getD_eq_getElem?_getD]
  split
  · rename_i c
    rw [List.getElem?_append_left (by rw [List.length_append, lt]; omega), List.getElem?_append_left (by omega), List.getElem?_take, if_pos c]
  · rename_i c
    have l2 : (hs.take k ++ [q]).length = k + 1 := by rw [List.length_append, lt]; rfl
    rw [List.getElem?_append_right (by omega), l2, List.getElem?_drop]
    congr 2
    omega
theorem Wi.ev {k m : Nat} {es : List Int} {X : List (List Mq.Q2)} {cs hs : List Mq.Q2} (W : Wi k m es X cs hs) : LB 628 (evL k hs (K55.hgt k m X cs hs)) := ⟨fun p hp => by
  unfold evL at hp
  obtain ⟨a, b, _⟩ := W.hgt
  have hh := W.L.mono (m := 628) (by decide)
  rcases List.mem_append.mp hp with z | z
  · rcases List.mem_append.mp z with y | y
    · exact hh.h p (List.mem_of_mem_take y)
    · have : p = K55.hgt k m X cs hs := by simpa using y
      rw [this]; exact ⟨a, b⟩
  · exact hh.h p (List.mem_of_mem_drop z)⟩
theorem Wi.due {k m : Nat} {es : List Int} {X : List (List Mq.Q2)} {cs hs : List Mq.Q2} (W : Wi k m es X cs hs) {i : Nat} (hi : i < m - 1) : Mq.Low ((dueL k m X cs hs).getD i Mq.z0) ∧ Mq.Bd 4900 ((dueL k m X cs hs).getD i Mq.z0) ∧ Mq.val ((dueL k m X cs hs).getD i Mq.z0) = matX X (Mq.skp k i) k * (- Mq.val (K55.lack k m X cs hs) / matX X k k) + (Mq.rs (m - 1) fun j => matX X (Mq.skp k i) (Mq.skp k j) * cv hs j) - cv cs (Mq.skp k i) := by
  have si := Mq.skp_lt W.hk hi
  obtain ⟨c1, c2⟩ := W.T.cat si
  obtain ⟨l1, l2⟩ := W.T.lb si
  have w6 := W.T.w6
  have hl := W.l
  have hk := W.hk
  have kl : k ≤ hs.length := by omega
  have el := ev_len (hs := hs) (K55.hgt k m X cs hs) kl
  obtain ⟨a, b, c⟩ := dot_c l2 W.ev (by omega) c1 c2 (by decide)
  rw [List.getD_eq_getElem?_getD (l := dueL k m X cs hs), dueL_get X cs hs hi]
  refine ⟨a, b.mono (by rw [l1]; omega), c.trans ?_⟩
  rw [l1, rs_skp hk]
  rw [Mq.rs_congr (n := m - 1) (G := fun j => matX X (Mq.skp k i) (Mq.skp k j) * cv hs j) fun j hj => by rw [ev_s _ kl (by omega)]; rfl]
  rw [ev_k _ kl, W.hgt.2.2]
  rfl
theorem Wi.same {k m n' : Nat} {es es' : List Int} {X X' : List (List Mq.Q2)} {cs hs cs' : List Mq.Q2} (W : Wi k m es X cs hs) (T' : TbOk n' (m - 1) es' X' cs') (t : Taken k m X cs X' cs') : brL X' cs' hs = dueL k m X cs hs := by
  refine qs_ext (br_len T' hs) (dueL_len k m X cs hs) fun i hi => ?_
  obtain ⟨a, _, c⟩ := br_val T' W.L W.l hi
  obtain ⟨d, _, e⟩ := W.due hi
  refine Mq.low_ext a d (c.trans (Eq.trans ?_ e.symm))
  rw [W.lack.2.2, t.c i hi, Mq.rs_congr (n := m - 1) (G := fun j => matX X (Mq.skp k i) (Mq.skp k j) * cv hs j - matX X (Mq.skp k i) k / matX X k k * (matX X k (Mq.skp k j) * cv hs j)) fun j hj => by
    rw [t.x i j hi hj]
    have ne := W.ne
    generalize matX X k k = u at *
    grind, rs_lin]
  have ne := W.ne
  generalize matX X k k = u at *
  generalize (Mq.rs (m - 1) fun j => matX X (Mq.skp k i) (Mq.skp k j) * cv hs j) = A
  generalize (Mq.rs (m - 1) fun j => matX X k (Mq.skp k j) * cv hs j) = B
  generalize matX X (Mq.skp k i) k = v
  grind
structure FlC (K : PySem.W.Frag) (CN CF : Addr) : Prop where
  ex : ExcK K CF
  hd : PySem.W.hasDictIn K CF = true
  no : PySem.W.findIn K (.ref CF) "points" = some none
  xm : PySem.W.exmOne K (.ref CF) (.ref CF) = some true
  xn : PySem.W.exmOne K (.ref CN) (.ref CF) = some false
  xp : PySem.W.exmOne K (.ref CN) (.ref CN) = some true
def spRefused (CT : Addr) (K : PySem.W.Frag) : Sp := fun vs H Q _ => ∃ (t : Addr) (x : V) (es : List Int) (X : List (List Mq.Q2)) (cs : List Mq.Q2) (n w : Nat), vs = [.ref t, x] ∧ TabAt CT K H t es X cs ∧ TbOk n w es X cs ∧ (∀ e ∈ es, e.natAbs < 32) ∧
  ((NoEnd K H x es ∧ ∀ H', Same H H' → Q (.str "no point") H') ∨ ∃ k, x = .int (es.getD k 0) ∧ k < w ∧ 2 ≤ w ∧ (Mq.ix2 X k k).1 = 0 ∧ ∀ l H', Same H H' → H' l = some (.lst [.int (es.getD k 0)]) → Q (.ref l) H')
abbrev sRefu : Stmt := top 41
theorem scRefu : FnScope ["_law_table_here", "_law_point", "_law_shown", "e"] ["_law_table_here", "_law_point"] (defScope sRefu) := ⟨rfl, rfl, rfl, by decide +kernel, rfl, by decide +kernel, by decide +kernel⟩
theorem ok_refu {dV : Value} (F : FunD K "_law_refused" "_law_refused" sRefu dV f fd)
    {CT CN CF : Addr} (TBx : TB K mg CT) (FC : FlC K CN CF) (mN : mg "NoPoint" = some (.ref CN)) (mF : mg "Floats" = some (.ref CF))
    {gTk : Addr} {gdTk : FuncData} (GTk : FnOk P w K mg base (CX1 P w) 6 gTk gdTk ["self", "point"] (spTaken CT CN CF K)) (bTk : Binds K gdTk ["self", "point"] []) (mTk : Meth K CT "taken" gTk) :
    FnOk P w K mg base CX 7 f fd ["_law_table_here", "_law_point"] (spRefused CT K) := by
  refine F.ok scRefu (fun vs H Q E h => ?_) (fun cdv A outer s H vs Q E hr h => ?_)
  · obtain ⟨t, x, es, X, cs, n, w', rfl, TA, TO, e32, h⟩ := h
    rfl
  obtain ⟨t, x, es, X, cs, n, w', rfl, TA, TO, e32, h⟩ := h
  have TA0 := TA
  obtain ⟨⟨dx, p, l, a, us, zc, ht, _⟩⟩ := TA
  refine ⟨_, pss_cons (ps_set (i := 2) scRefu.nd rfl (Or.inl rfl) pe_non)
    (pss_cons (ps_try ⟨rfl, rfl, rfl⟩ (psxs_one (psx_expr (px_meth (pv 0) TBx.cl mTk GTk ⟨rfl, rfl, rfl⟩ hr bTk .nil (pa_cons (pv 1) pa_nil)))) pss_nil
      (ph_as (j := 3) ⟨rfl, rfl, rfl⟩ scRefu.nd rfl rfl rfl (.inl mF) (fun a => pss_one (ps_set (i := 2) scRefu.nd rfl (Or.inl rfl) (pe_fldXK (K := K) rfl (pv 3) rfl)))
        (ph_cons rfl (.inl mN) (fun a => pss_one (ps_set (i := 2) scRefu.nd rfl (Or.inl rfl) pe_str)) ph_never)))
    (pss_one (ps_ret (pv 2)))), ?_⟩
  refine ⟨_, rfl, t, dx, _, rfl, ht, tflds_no _ _ _ (by decide +kernel) (by decide +kernel) (by decide +kernel), _, rfl, t, x, es, X, cs, n, w', rfl, TA0, TO, e32, ?_⟩
  rcases h with ⟨hE, q⟩ | ⟨k, rfl, hk, w2, hz, q⟩
  · refine .inl ⟨hE, fun H1 s1 a ha => ⟨false, FC.xn, ?_⟩⟩
    rw [if_neg Bool.false_ne_true]
    refine ⟨true, FC.xp, ?_⟩
    rw [if_pos rfl]
    exact ⟨_, rfl, q _ s1⟩
  · refine .inr ⟨k, rfl, hk, w2, .inl ⟨hz, fun dx l H1 s1 ed el a ha => ⟨true, FC.xm, ?_⟩⟩⟩
    rw [if_pos rfl]
    have sa := same_new ha (excO a (.ref CF) (some dx))
    refine ⟨_, rfl, a, CF, dx, [("points", .ref l)], .ref l, rfl, upd_same, sa _ _ ed, FC.ex, FC.hd, FC.no, rfl, ?_⟩
    exact ⟨_, rfl, q l _ (s1.trans sa) (sa _ _ el)⟩
def spWithout (K : PySem.W.Frag) : Sp := fun vs H Q _ => ∃ (r h : Addr) (k m : Nat) (ki : Int) (es : List Int) (X : List (List Mq.Q2)) (cs hs : List Mq.Q2) (ys : List V), vs = [.ref r, .int ki, .ref h] ∧ ki = (k : Int) ∧ Known K H r es X cs ∧ Wi k m es X cs hs ∧ H h = some (.lst ys) ∧ Fqs K H ys hs ∧
  ∀ t e d zs H', Same H H' → SqT K H' t [.ref e, .ref d] → H' e = some (.lst ((es.eraseIdx k).map V.int)) → H' d = some (.lst zs) → Fqs K H' zs (dueL k m X cs hs) → Q (.ref t) H'
theorem nd_k_at : (["_law_k", "_law_at"] : List Str).Nodup := by decide +kernel
theorem nd_k_matrix_at : (["_law_k", "_law_matrix", "_law_at"] : List Str).Nodup := by decide +kernel
theorem nd_k_matrix_every_comes : (["_law_k", "_law_matrix", "_law_every", "_law_comes"] : List Str).Nodup := by decide +kernel
theorem nd_k_ends : (["_law_k", "_law_ends"] : List Str).Nodup := by decide +kernel
abbrev sWith : Stmt := top 42
theorem scWith : FnScope ["_law_known", "_law_at", "_law_heights", "_law_ends", "_law_matrix", "_law_comes", "_law_rest", "_law_lacking", "_law_own", "_law_height", "_law_every", "_law_due"] ["_law_known", "_law_at", "_law_heights"] (defScope sWith) := ⟨rfl, rfl, rfl, by decide +kernel, rfl, by decide +kernel, by decide +kernel⟩
theorem ok_with {dV : Value} (F : FunD K "_law_without" "_law_without" sWith dV f fd)
    (mr : mg "range" = none) (ml : mg "len" = none)
    (G1 : FnOk P w K mg base CX0 4 g1 gd1 ["_law_some", "_law_others"] (spSumD K)) (b1 : Binds K gd1 ["_law_some", "_law_others"] []) (k1 : PySem.W.keepIn K (.ref g1) = true) (m1 : mg "_law_sum" = some (.ref g1))
    (G2 : FnOk P w K mg base CX0 2 g2 gd2 ["_law_top", "_law_bottom"] spLowP) (b2 : Binds K gd2 ["_law_top", "_law_bottom"] []) (k2 : PySem.W.keepIn K (.ref g2) = true) (m2 : mg "_law_lowest" = some (.ref g2)) :
    FnOk P w K mg base CX 5 f fd ["_law_known", "_law_at", "_law_heights"] (spWithout K) := by
  refine F.ok scWith (fun vs H Q E h => ?_) (fun cdv A outer s H vs Q E hr h => ?_)
  · obtain ⟨r, h, k, m, ki, es, X, cs, hs, ys, rfl, hki, KN, W, hh, fh, q⟩ := h
    rfl
  obtain ⟨r, h, k, m, ki, es, X, cs, hs, ys, rfl, hki, KN, W, hh, fh, q⟩ := h
  have r2 := hr.mono (show 2 ≤ 4 by omega)
  subst hki
  have TO := W.T
  have hk := W.hk
  have hm2 := W.m2
  have w6 := TO.w6
  have le := TO.le
  have lc := TO.lc
  have lX := TO.lX
  have lh := W.l
  have lys := fh.length
  obtain ⟨p, l, c, us, zc, hT, hp, hl, LX, hc, FC⟩ := KN.e
  have lus := LX.l
  have lzc := FC.length
  refine ⟨_, (pss_cons (ps_asg (pv 0) (pg_tup rfl (pgs_cons (pg_name (i := 3) scWith.nd rfl (Or.inr rfl)) (pgs_cons (pg_name (i := 4) scWith.nd rfl (Or.inr rfl)) (pgs_cons (pg_name (i := 5) scWith.nd rfl (Or.inr rfl)) pgs_nil)))))
    (pss_cons (ps_setC (i := 6) (nl := 1) (fr := [1]) (Nc := ["_law_k", "_law_at"]) (cl := [("_law_at", s.heap.objs.size + 1)]) scWith.nd rfl rfl rfl ⟨rfl, rfl, by decide +kernel, by decide +kernel, (sub_cons rfl (sub_nil)), has_of rfl, rfl, fun i n h => match i, h with | 0, h => by cases h; exact ⟨1, rfl, rfl, rfl, rfl, .inl rfl⟩ | k + 1, h => by rw [show 1 + (k + 1) = k + 2 by omega] at h; cases h⟩
        (pi_range1 rfl mr (pa_cons (pe_callB call_len_seq rfl ml PySem.boot_len (pa_cons (pv 3) pa_nil)) pa_nil)) (fun C s3 H3 fp pins => (pg_name (i := 0) nd_k_at rfl (Or.inl rfl))) (fun C s3 H3 fp pins => (pif_one (pt_cmpR op_ne (pv 0) (pv 1) (nomark _))))
        (fun C s3 H3 fp pins => (pv 0)) rfl)
    (pss_cons (ps_set (i := 7) scWith.nd rfl (Or.inl rfl) (pe_call G1 hr rfl m1 k1 b1 .nil pass0 (pa_cons (pe_op op_cat (pe_comp (nl := 1) (fr := [4, 1]) (Nc := ["_law_k", "_law_matrix", "_law_at"]) (cl := [("_law_matrix", s.heap.objs.size + 3), ("_law_at", s.heap.objs.size + 1)]) rfl ⟨rfl, rfl, by decide +kernel, by decide +kernel, (sub_cons rfl (sub_cons rfl (sub_nil))), has_of rfl, rfl, fun i n h => match i, h with | 0, h => by cases h; exact ⟨4, rfl, rfl, rfl, rfl, .inl rfl⟩ | 1, h => by cases h; exact ⟨1, rfl, rfl, rfl, rfl, .inl rfl⟩ | k + 2, h => by rw [show 1 + (k + 2) = k + 3 by omega] at h; cases h⟩
        (pi_list (pv 6)) (fun C s3 H3 fp pins => (pg_name (i := 0) nd_k_matrix_at rfl (Or.inl rfl))) (fun C s3 H3 fp pins => pif_nil)
        (fun C s3 H3 fp pins => (pe_ix (ix_listK (K := K) rfl) (pe_ix (ix_listK (K := K) rfl) (pv 1) (pv 2) (fun _ _ => rfl)) (pv 0) (fun _ _ => rfl)))) (pe_lst (pa_cons (pe_ix ix_list (pv 5) (pv 1) (fun _ _ => rfl)) pa_nil))) (pa_cons (pe_op op_cat (pv 2) (pe_lst (pa_cons (pe_tup (pa_cons (pe_un un_neg pe_int) (pa_cons pe_int pa_nil))) pa_nil))) pa_nil))))
    (pss_cons (ps_set (i := 8) scWith.nd rfl (Or.inl rfl) (pe_ix ix_list (pe_ix ix_list (pv 4) (pv 1) (fun _ _ => rfl)) (pv 1) (fun _ _ => rfl)))
    (pss_cons (ps_set (i := 9) scWith.nd rfl (Or.inl rfl) (pe_call G2 r2 rfl m2 k2 b2 .nil pass0 (pa_cons (pe_op op_sub pe_int (pe_op op_mulB (pe_ix ix_tup (pv 7) pe_int (fun _ _ => rfl)) (pe_ix ix_tup (pv 8) pe_int (fun _ _ => rfl)))) (pa_cons (pe_op op_mulB (pe_ix ix_tup (pv 7) pe_int (fun _ _ => rfl)) (pe_ix ix_tup (pv 8) pe_int (fun _ _ => rfl))) pa_nil))))
    (pss_cons (ps_set (i := 10) scWith.nd rfl (Or.inr rfl) (pe_op op_cat (pe_op op_cat (pe_slice sl_list (pv 2) po_none (po_some (pv 1))) (pe_lst (pa_cons (pv 9) pa_nil))) (pe_slice sl_list (pv 2) (po_some (pv 1)) po_none)))
    (pss_cons (ps_setC (i := 11) (nl := 1) (fr := [4, 10, 5]) (Nc := ["_law_k", "_law_matrix", "_law_every", "_law_comes"]) (cl := [("_law_matrix", s.heap.objs.size + 3), ("_law_every", s.heap.objs.size + 5), ("_law_comes", s.heap.objs.size + 4)]) scWith.nd rfl rfl rfl ⟨rfl, rfl, by decide +kernel, by decide +kernel, (sub_cons rfl (sub_cons rfl (sub_cons rfl (sub_nil)))), has_of rfl, rfl, fun i n h => match i, h with | 0, h => by cases h; exact ⟨4, rfl, rfl, rfl, rfl, .inl rfl⟩ | 1, h => by cases h; exact ⟨10, rfl, rfl, rfl, rfl, .inl rfl⟩ | 2, h => by cases h; exact ⟨5, rfl, rfl, rfl, rfl, .inl rfl⟩ | k + 3, h => by rw [show 1 + (k + 3) = k + 4 by omega] at h; cases h⟩
        (pi_list (pv 6)) (fun C s3 H3 fp pins => (pg_name (i := 0) nd_k_matrix_every_comes rfl (Or.inl rfl))) (fun C s3 H3 fp pins => pif_nil)
        (fun C s3 H3 fp pins => (pe_call G1 hr rfl m1 k1 b1 .nil pass0 (pa_cons (pe_op op_cat (pe_ix (ix_listK (K := K) rfl) (pv 1) (pv 0) (fun _ _ => rfl)) (pe_lst (pa_cons (pe_ix (ix_listK (K := K) rfl) (pv 3) (pv 0) (fun _ _ => rfl)) pa_nil))) (pa_cons (pe_op op_cat (pv 2) (pe_lst (pa_cons (pe_tup (pa_cons (pe_un un_neg pe_int) (pa_cons pe_int pa_nil))) pa_nil))) pa_nil)))) rfl)
    (pss_one (ps_ret (pe_tup (pa_cons (pe_comp (nl := 1) (fr := [3]) (Nc := ["_law_k", "_law_ends"]) (cl := [("_law_ends", s.heap.objs.size + 2)]) rfl ⟨rfl, rfl, by decide +kernel, by decide +kernel, (sub_cons rfl (sub_nil)), has_of rfl, rfl, fun i n h => match i, h with | 0, h => by cases h; exact ⟨3, rfl, rfl, rfl, rfl, .inl rfl⟩ | k + 1, h => by rw [show 1 + (k + 1) = k + 2 by omega] at h; cases h⟩
        (pi_list (pv 6)) (fun C s3 H3 fp pins => (pg_name (i := 0) nd_k_ends rfl (Or.inl rfl))) (fun C s3 H3 fp pins => pif_nil)
        (fun C s3 H3 fp pins => (pe_ix (ix_listK (K := K) rfl) (pv 1) (pv 0) (fun _ _ => rfl)))) (pa_cons (pv 11) pa_nil)))))))))))), ?_⟩
  refine ⟨_, rfl, r, _, rfl, hT, rfl, _, _, rfl, _, _, rfl, _, _, rfl, rfl, ?_⟩
  -- rest
  refine ⟨_, rfl, p, _, rfl, .inl (SqL.of hp), (m : Int), by rw [List.length_map, le], by omega, by omega, fun D1 hD1 => ?_⟩
  rw [Int.toNat_natCast]
  have sD1 := same_new hD1 (.lst [])
  refine comp_range (n := m) (fun i zs H' => Same H H' ∧ H' D1 = some (.lst zs) ∧ zs = nats ((List.range (if k < i then i - 1 else i)).map (Mq.skp k))) ⟨sD1, upd_same, rfl⟩ (fun i zs H' h => h.2.1) ?_ ?_
  · rintro i zs H1 hi ⟨s1, e1, ez⟩ C hC
    have lz : zs.length ≤ 6 := by rw [ez, List.length_map, List.length_map, List.length_range]; split <;> omega
    rw [Int.zero_add]
    refine ⟨keep1.1, keep1.2, _, rfl, _, rfl, rfl, _, rfl, ?_⟩
    by_cases c : i = k
    · subst c
      refine L2.ifF (by simp) ?_
      refine hC _ _ ⟨s1, e1, ?_⟩
      rw [ez, if_neg (by omega), if_pos (by omega)]; rfl
    · refine L2.ifT (by rw [decide_eq_false (fun z => c (by injection z with z; omega))]; rfl) ?_
      refine ⟨_, rfl, e1, small1000 (by omega), hC _ _ ⟨s1.change hD1, upd_same, ?_⟩⟩
      rw [ez]
      by_cases d : k < i
      · rw [if_pos d, if_pos (by omega), show i + 1 - 1 = i - 1 + 1 by omega, List.range_succ, List.map_append, nats, nats, List.map_append]
        show _ = _ ++ [V.int ((Mq.skp k (i - 1) : Nat) : Int)]
        rw [show Mq.skp k (i - 1) = i by unfold Mq.skp; split <;> omega]
      · rw [if_neg d, if_neg (by omega), List.range_succ, List.map_append, nats, nats, List.map_append]
        show _ = _ ++ [V.int ((Mq.skp k i : Nat) : Int)]
        rw [show Mq.skp k i = i by unfold Mq.skp; split <;> omega]
  rintro zs1 H1 ⟨s1, e1, ez⟩
  rw [if_pos (by omega)] at ez
  subst ez
  have rg : ∀ i, i < m - 1 → (nats ((List.range (m - 1)).map (Mq.skp k)))[i]? = some (.int ((Mq.skp k i : Nat) : Int)) := fun i hi => by
    rw [List.getElem?_map, List.getElem?_map, List.getElem?_range hi]; rfl
  have rl : (nats ((List.range (m - 1)).map (Mq.skp k))).length = m - 1 := by simp
  generalize nats ((List.range (m - 1)).map (Mq.skp k)) = rs at e1 rg rl
  -- lacking
  obtain ⟨u, xs, eu, hu, fu⟩ := (LX.same s1).at (Mq.getL (show k < X.length by omega))
  obtain ⟨rowl, rowb⟩ := TO.lb hk
  refine ⟨_, rfl, D1, rfl, ⟨_, SqL.of e1⟩, fun D2 hD2 => ?_⟩
  have sD2 := same_new hD2 (.lst [])
  refine comp_list (xs := rs) (fun i zs H' => Same H1 H' ∧ H' D2 = some (.lst zs) ∧ Fqs K H' zs ((rowK k m X).take i)) ⟨sD2, upd_same, .nil⟩ (fun i zs H' h => h.2.1) (fun i zs H' _ h => h.1.seq (SqL.of e1)) ?_ ?_
  · rintro i zs x H2 hx ⟨s2, e2, F2⟩ C hC
    have hi : i < m - 1 := by have := (List.getElem?_eq_some_iff.mp hx).1; omega
    have ex : x = .int ((Mq.skp k i : Nat) : Int) := by rw [rg i hi] at hx; cases hx; rfl
    subst ex
    have si := Mq.skp_lt hk hi
    obtain ⟨v, ev, fv⟩ := fu.at (Mq.getQ1 (show Mq.skp k i < (X.getD k []).length by omega))
    have lz := F2.length
    rw [List.length_take, rowK_len] at lz
    refine ⟨keep1.1, keep1.2, iteT ?_⟩
    refine ⟨_, rfl, _, rfl, l, us, _, _, rfl, rfl, SqL.of ((s1.trans s2) _ _ hl), atI_nat eu, _, rfl, u, xs, _, _, rfl, rfl, SqL.of (s2 _ _ hu), atI_nat ev, ?_⟩
    refine ⟨e2, small1000 (by omega), hC _ _ ⟨s2.change hD2, upd_same, ?_⟩⟩
    rw [List.take_add_one, rowK_get X hi]
    exact (F2.app (.cons (s2.seqT fv) .nil)).upd e2
  rintro zs2 H2 ⟨s2, e2, F2⟩
  rw [rl, List.take_of_length_le (by rw [rowK_len]; omega)] at F2
  have lz2 := F2.length
  rw [rowK_len] at lz2
  have s02 := s1.trans s2
  obtain ⟨v, ev, fv⟩ := FC.at (Mq.getQ1 (show k < cs.length by omega))
  refine ⟨_, rfl, _, rfl, c, zc, _, _, rfl, rfl, SqL.of (s02 _ _ hc), atI_nat ev, (by show 1 ≤ sizeLine; decide), fun L hL => ?_⟩
  have s3 := same_new hL (.lst [.ref v])
  have e3 : upd H2 L (.lst [.ref v]) L = some (.lst [.ref v]) := upd_same
  generalize upd H2 L (.lst [.ref v]) = H3 at s3 e3 ⊢
  refine ⟨D2, L, zs2, _, rfl, rfl, s3 _ _ e2, e3, Nat.le_trans (show _ ≤ 100 by rw [lz2]; simp only [List.length_cons, List.length_nil]; omega) (by decide), fun M hM => ?_⟩
  have s4 := same_new hM (.lst (zs2 ++ [.ref v]))
  have e4 : upd H3 M (.lst (zs2 ++ [.ref v])) M = some (.lst (zs2 ++ [.ref v])) := upd_same
  generalize upd H3 M (.lst (zs2 ++ [.ref v])) = H4 at s4 e4 ⊢
  have s04 := s02.trans (s3.trans s4)
  refine ⟨_, rfl, _, rfl, (by show 2 ≤ sizeLine; decide), fun t1 ht1 => ?_⟩
  have s5 := same_new ht1 (.tup [.int (-1), .int 1])
  have e5 : upd H4 t1 (.tup [.int (-1), .int 1]) t1 = some (.tup [.int (-1), .int 1]) := upd_same
  generalize upd H4 t1 (.tup [.int (-1), .int 1]) = H5 at s5 e5 ⊢
  refine ⟨(by show 1 ≤ sizeLine; decide), fun L2 hL2 => ?_⟩
  have s6 := same_new hL2 (.lst [.ref t1])
  have e6 : upd H5 L2 (.lst [.ref t1]) L2 = some (.lst [.ref t1]) := upd_same
  generalize upd H5 L2 (.lst [.ref t1]) = H6 at s6 e6 ⊢
  have s06 := s04.trans (s5.trans s6)
  refine ⟨h, L2, ys, _, rfl, rfl, s06 _ _ hh, e6, Nat.le_trans (show _ ≤ 100 by simp only [List.length_cons, List.length_nil]; omega) (by decide), fun M2 hM2 => ?_⟩
  have s7 := same_new hM2 (.lst (ys ++ [.ref t1]))
  have e7 : upd H6 M2 (.lst (ys ++ [.ref t1])) M2 = some (.lst (ys ++ [.ref t1])) := upd_same
  generalize upd H6 M2 (.lst (ys ++ [.ref t1])) = H7 at s7 e7 ⊢
  have s07 := s06.trans s7
  have s47 := s5.trans (s6.trans s7)
  have b30 : (1 : Nat) ≤ 30 := by decide
  obtain ⟨c1, c2⟩ := TO.cat hk
  have ft1 : Fq K H7 t1 (-1, 1) := (s6.trans s7).fq (Fq.of e5)
  refine ⟨M, M2, _, _, rowK k m X ++ [cs.getD k Mq.z0], hs ++ [(-1, 1)], 63, 30, rfl, SqL.of (s47 _ _ e4), (F2.same ((s3.trans s4).trans s47)).app (.cons (s07.seqT fv) .nil), SqL.of e7, (fh.same s07).app (.cons ft1 .nil), W.row.snoc c1 c2, W.L.snoc m1_low (m1_bd b30), by rw [List.length_append, List.length_append, rowK_len, lh]; rfl, by rw [List.length_append, rowK_len]; simp only [List.length_cons, List.length_nil]; omega, by decide, fun la H8 s8 f8 => ?_⟩
  have f8 : Fq K H8 la (lack k m X cs hs) := f8
  have s08 := s07.trans s8
  -- own
  obtain ⟨o, eo, fo⟩ := fu.at (Mq.getQ1 (show k < (X.getD k []).length by omega))
  have s18 := s2.trans ((s3.trans s4).trans (s47.trans s8))
  refine ⟨_, rfl, _, rfl, l, us, _, _, rfl, rfl, SqL.of (s08 _ _ hl), atI_nat eu, _, rfl, u, xs, _, _, rfl, rfl, SqL.of (s18 _ _ hu), atI_nat eo, ?_⟩
  have fo8 : Fq K H8 o (Mq.ix2 X k k) := s18.fq fo
  obtain ⟨o1, o2⟩ := TO.at hk hk
  obtain ⟨l1, l2, _⟩ := W.lack
  refine rd_ix0 rfl f8 (rd_ix1 rfl fo8 (rd_mulB l2.a o2.b (by omega) (by omega) ⟨_, _, rfl, rfl, rd_ix1 rfl f8 (rd_ix0 rfl fo8 (rd_mulB l2.b o2.a (by omega) (by omega) ⟨_, _, 628, rfl, W.bot, l2.b.mul o2.a, by omega, fun hg H9 s9 e9 => ?_⟩))⟩))
  have f9 : Fq K H9 hg (hgt k m X cs hs) := Fq.of e9
  have s09 := s08.trans s9
  -- every
  refine ⟨_, rfl, _, rfl, (k : Int), rfl, h, ys, rfl, SqL.of (s09 _ _ hh), fun A hA => ?_⟩
  rw [cut_to]
  have sA := same_new hA (.lst (ys.take k))
  have eA : upd H9 A (.lst (ys.take k)) A = some (.lst (ys.take k)) := upd_same
  generalize upd H9 A (.lst (ys.take k)) = HA at sA eA ⊢
  refine ⟨_, rfl, (by show 1 ≤ sizeLine; decide), fun B hB => ?_⟩
  have sB := same_new hB (.lst [.ref hg])
  have eB : upd HA B (.lst [.ref hg]) B = some (.lst [.ref hg]) := upd_same
  generalize upd HA B (.lst [.ref hg]) = HB at sB eB ⊢
  refine ⟨A, B, _, _, rfl, rfl, sB _ _ eA, eB, Nat.le_trans (show _ ≤ 100 by rw [List.length_take]; simp only [List.length_cons, List.length_nil]; omega) (by decide), fun C hC => ?_⟩
  have sC := same_new hC (.lst (ys.take k ++ [.ref hg]))
  have eC : upd HB C (.lst (ys.take k ++ [.ref hg])) C = some (.lst (ys.take k ++ [.ref hg])) := upd_same
  generalize upd HB C (.lst (ys.take k ++ [.ref hg])) = HC at sC eC ⊢
  have s0C := s09.trans (sA.trans (sB.trans sC))
  refine ⟨_, rfl, _, rfl, (k : Int), rfl, h, ys, rfl, SqL.of (s0C _ _ hh), fun D hD => ?_⟩
  rw [cut_from]
  have sD := same_new hD (.lst (ys.drop k))
  have eD : upd HC D (.lst (ys.drop k)) D = some (.lst (ys.drop k)) := upd_same
  generalize upd HC D (.lst (ys.drop k)) = HD at sD eD ⊢
  refine ⟨C, D, _, _, rfl, rfl, sD _ _ eC, eD, Nat.le_trans (show _ ≤ 100 by rw [List.length_append, List.length_take, List.length_drop]; simp only [List.length_cons, List.length_nil]; omega) (by decide), fun E hE => ?_⟩
  have sE := same_new hE (.lst (ys.take k ++ [.ref hg] ++ ys.drop k))
  have eE : upd HD E (.lst (ys.take k ++ [.ref hg] ++ ys.drop k)) E = some (.lst (ys.take k ++ [.ref hg] ++ ys.drop k)) := upd_same
  generalize upd HD E (.lst (ys.take k ++ [.ref hg] ++ ys.drop k)) = HE at sE eE ⊢
  have s9E := sA.trans (sB.trans (sC.trans (sD.trans sE)))
  have s0E := s09.trans s9E
  have FE : Fqs K HE (ys.take k ++ [.ref hg] ++ ys.drop k) (evL k hs (hgt k m X cs hs)) := (((fh.same s0E).take k).app (.cons (s9E.fq f9) .nil)).app (fqs_drop k (fh.same s0E))
  have kl : k ≤ hs.length := by omega
  have lev := ev_len (hs := hs) (hgt k m X cs hs) kl
  have lyv := FE.length
  generalize ys.take k ++ [V.ref hg] ++ ys.drop k = vs at eE FE lyv
  have EV := W.ev
  have s1E := s18.trans (s9.trans s9E)
  -- due
  refine ⟨_, rfl, D1, rfl, ⟨_, SqL.of (s1E _ _ e1)⟩, fun D3 hD3 => ?_⟩
  have sD3 := same_new hD3 (.lst [])
  refine comp_list (xs := rs) (fun i zs H' => Same HE H' ∧ H' D3 = some (.lst zs) ∧ Fqs K H' zs ((dueL k m X cs hs).take i)) ⟨sD3, upd_same, .nil⟩ (fun i zs H' h => h.2.1) (fun i zs H' _ h => h.1.seq (SqL.of (s1E _ _ e1))) ?_ ?_
  · rintro i zs x HF hx ⟨sF, eF, FF⟩ C' hC'
    have hi : i < m - 1 := by have := (List.getElem?_eq_some_iff.mp hx).1; omega
    have ex : x = .int ((Mq.skp k i : Nat) : Int) := by rw [rg i hi] at hx; cases hx; rfl
    subst ex
    have si := Mq.skp_lt hk hi
    have s0F := s0E.trans sF
    obtain ⟨u', xs', eu', hu', fu'⟩ := (LX.same s0F).at (Mq.getL (show Mq.skp k i < X.length by omega))
    obtain ⟨v', ev', fv'⟩ := (FC.same s0F).at (Mq.getQ1 (show Mq.skp k i < cs.length by omega))
    obtain ⟨rowl', rowb'⟩ := TO.lb si
    obtain ⟨d1, d2⟩ := TO.cat si
    have lxs' := fu'.length
    have lz := FF.length
    rw [List.length_take, dueL_len] at lz
    refine ⟨keep1.1, keep1.2, iteT ?_⟩
    refine ⟨_, rfl, _, rfl, l, us, _, _, rfl, rfl, SqL.of (s0F _ _ hl), atI_nat eu', ?_⟩
    refine ⟨_, rfl, _, rfl, c, zc, _, _, rfl, rfl, SqL.of (s0F _ _ hc), atI_nat ev', (by show 1 ≤ sizeLine; decide), fun L hL => ?_⟩
    have sG := same_new hL (.lst [.ref v'])
    have eG : upd HF L (.lst [.ref v']) L = some (.lst [.ref v']) := upd_same
    generalize upd HF L (.lst [.ref v']) = HG at sG eG ⊢
    refine ⟨u', L, xs', _, rfl, rfl, sG _ _ hu', eG, Nat.le_trans (show _ ≤ 100 by simp only [List.length_cons, List.length_nil]; omega) (by decide), fun M hM => ?_⟩
    have sI := same_new hM (.lst (xs' ++ [.ref v']))
    have eI : upd HG M (.lst (xs' ++ [.ref v'])) M = some (.lst (xs' ++ [.ref v'])) := upd_same
    generalize upd HG M (.lst (xs' ++ [.ref v'])) = HI at sI eI ⊢
    refine ⟨_, rfl, _, rfl, (by show 2 ≤ sizeLine; decide), fun t1 ht1 => ?_⟩
    have sJ := same_new ht1 (.tup [.int (-1), .int 1])
    have eJ : upd HI t1 (.tup [.int (-1), .int 1]) t1 = some (.tup [.int (-1), .int 1]) := upd_same
    generalize upd HI t1 (.tup [.int (-1), .int 1]) = HJ at sJ eJ ⊢
    refine ⟨(by show 1 ≤ sizeLine; decide), fun L2 hL2 => ?_⟩
    have sK := same_new hL2 (.lst [.ref t1])
    have eK : upd HJ L2 (.lst [.ref t1]) L2 = some (.lst [.ref t1]) := upd_same
    generalize upd HJ L2 (.lst [.ref t1]) = HK at sK eK ⊢
    have sFK := (sG.trans sI).trans (sJ.trans sK)
    have sEK := sF.trans sFK
    refine ⟨E, L2, vs, _, rfl, rfl, sEK _ _ eE, eK, Nat.le_trans (show _ ≤ 100 by simp only [List.length_cons, List.length_nil]; omega) (by decide), fun M2 hM2 => ?_⟩
    have sL := same_new hM2 (.lst (vs ++ [.ref t1]))
    have eL : upd HK M2 (.lst (vs ++ [.ref t1])) M2 = some (.lst (vs ++ [.ref t1])) := upd_same
    generalize upd HK M2 (.lst (vs ++ [.ref t1])) = HL at sL eL ⊢
    have sFL := sFK.trans sL
    have b6 : (1 : Nat) ≤ 628 := by decide
    refine ⟨M, M2, _, _, X.getD (Mq.skp k i) [] ++ [cs.getD (Mq.skp k i) Mq.z0], evL k hs (hgt k m X cs hs) ++ [(-1, 1)], 63, 628, rfl, SqL.of ((sJ.trans (sK.trans sL)) _ _ eI), (fu'.same sFL).app (.cons (sFL.seqT fv') .nil), SqL.of eL, (FE.same (sEK.trans sL)).app (.cons ((sK.trans sL).fq (Fq.of eJ)) .nil), rowb'.snoc d1 d2, EV.snoc m1_low (m1_bd b6), by rw [List.length_append, List.length_append, rowl', lev]; simp only [List.length_cons, List.length_nil]; omega, by rw [List.length_append, rowl']; simp only [List.length_cons, List.length_nil]; omega, by decide, fun du HM sM fM => ?_⟩
    have sFM := sFL.trans sM
    have eA' := sFM _ _ eF
    refine ⟨eA', small1000 (by omega), hC' _ _ ⟨(sF.trans sFM).change hD3, upd_same, ?_⟩⟩
    rw [List.take_add_one, dueL_get X cs hs hi]
    exact ((FF.same sFM).app (.cons fM .nil)).upd eA'
  rintro zs3 HF ⟨sF, eF, FF⟩
  rw [rl, List.take_of_length_le (by rw [dueL_len]; omega)] at FF
  have s0F := s0E.trans sF
  have s1F := s1E.trans sF
  -- the ends left
  refine ⟨_, rfl, D1, rfl, ⟨_, SqL.of (s1F _ _ e1)⟩, fun D4 hD4 => ?_⟩
  have sD4 := same_new hD4 (.lst [])
  refine comp_list (xs := rs) (fun i zs H' => Same HF H' ∧ H' D4 = some (.lst zs) ∧ zs = ((es.eraseIdx k).take i).map V.int) ⟨sD4, upd_same, rfl⟩ (fun i zs H' h => h.2.1) (fun i zs H' _ h => h.1.seq (SqL.of (s1F _ _ e1))) ?_ ?_
  · rintro i zs x HG hx ⟨sG, eG, ez⟩ C' hC'
    have hi : i < m - 1 := by have := (List.getElem?_eq_some_iff.mp hx).1; omega
    have ex : x = .int ((Mq.skp k i : Nat) : Int) := by rw [rg i hi] at hx; cases hx; rfl
    subst ex
    have si := Mq.skp_lt hk hi
    have g : (es.map V.int)[Mq.skp k i]? = some (.int (es.getD (Mq.skp k i) 0)) := map_get (l := es) (i := Mq.skp k i) (by omega)
    refine ⟨keep1.1, keep1.2, iteT ?_⟩
    refine ⟨_, rfl, _, rfl, p, _, _, _, rfl, rfl, SqL.of ((s0F.trans sG) _ _ hp), atI_nat g, ?_⟩
    refine ⟨eG, small1000 (by rw [ez, List.length_map, List.length_take]; omega), hC' _ _ ⟨sG.change hD4, upd_same, ?_⟩⟩
    rw [ez, List.take_add_one, es_era, es_get (show Mq.skp k i < es.length by omega), List.map_append]; rfl
  rintro zs4 HG ⟨sG, eG, ez⟩
  rw [rl, List.take_of_length_le (by rw [List.length_eraseIdx, if_pos (by omega)]; omega)] at ez
  subst ez
  refine ⟨_, rfl, (by show 2 ≤ sizeLine; decide), fun rt hrt => ?_⟩
  have sH := same_new hrt (.tup [.ref D4, .ref D3])
  have eH : upd HG rt (.tup [.ref D4, .ref D3]) rt = some (.tup [.ref D4, .ref D3]) := upd_same
  generalize upd HG rt (.tup [.ref D4, .ref D3]) = HH at sH eH ⊢
  exact q rt D4 D3 zs3 HH (s0F.trans (sG.trans sH)) (SqT.of eH) (sH _ _ eG) ((sG.trans sH) _ _ eF) (FF.same (sG.trans sH))
end
end K55

set_option Elab.async false
set_option linter.all false
set_option maxRecDepth 100000
set_option maxHeartbeats 4000000
namespace K55
open PySem L2 Shp
section
variable {P : Program} {w : World} {K : PySem.W.Frag} {mg : Str → Option Value} {base : Heap} {f g1 g2 g3 g4 g5 g6 g7 g8 g9 g10 g11 : Addr} {fd gd1 gd2 gd3 gd4 gd5 gd6 gd7 gd8 gd9 gd10 gd11 : FuncData} {CX : CXT}
def spAlike (CT : Addr) (K : PySem.W.Frag) : Sp := fun vs H Q _ => ∃ (t e h d : Addr) (es : List Int) (X : List (List Mq.Q2)) (cs hs : List Mq.Q2) (ys zs : List V) (n w : Nat), vs = [.ref t, .ref e, .ref h, .ref d] ∧ TabAt CT K H t es X cs ∧ TbOk n w es X cs ∧ n ≤ 700 ∧ H e = some (.lst (es.map V.int)) ∧ H h = some (.lst ys) ∧ Fqs K H ys hs ∧ LB 30 hs ∧ hs.length = w ∧ H d = some (.lst zs) ∧ Fqs K H zs (brL X cs hs) ∧ ∀ H', Same H H' → Q (.bl true) H'
theorem allLow {n w : Nat} {es : List Int} {X : List (List Mq.Q2)} {cs : List Mq.Q2} (h : TbOk n w es X cs) {i : Nat} (hi : i < w) : Mq.AllLow (X.getD i []) := fun p hp => ((h.lb hi).2.h p hp).1
theorem allLowC {n w : Nat} {es : List Int} {X : List (List Mq.Q2)} {cs : List Mq.Q2} (h : TbOk n w es X cs) : Mq.AllLow cs := fun p hp => (h.c p hp).1
theorem allLowB {n m w : Nat} {es : List Int} {X : List (List Mq.Q2)} {cs hs : List Mq.Q2} (h : TbOk n w es X cs) (hh : LB m hs) (hl : hs.length = w) : Mq.AllLow (brL X cs hs) := fun p hp => by
  obtain ⟨i, hi, rfl⟩ := List.getElem_of_mem hp
  rw [br_len h hs] at hi
  have a := (br_val h hh hl hi).1
  rwa [List.getD_eq_getElem?_getD, List.getElem?_eq_getElem (by rw [br_len h hs]; exact hi)] at a
abbrev sAlike : Stmt := top 40
theorem scAlike : FnScope ["_law_found", "_law_ends", "_law_heights", "_law_due", "_law_brought", "_law_k"] ["_law_found", "_law_ends", "_law_heights", "_law_due"] (defScope sAlike) := ⟨rfl, rfl, rfl, by decide +kernel, rfl, by decide +kernel, by decide +kernel⟩
theorem ok_alike {dV : Value} (F : FunD K "_law_alike" "_law_alike" sAlike dV f fd)
    {CT : Addr} (TBx : TB K mg CT) (mr : mg "range" = none) (ml : mg "len" = none) (mli : mg "list" = none)
    {gEn : Addr} {gdEn : FuncData} (GEn : FnOk P w K mg base CX0 1 gEn gdEn ["self"] (spTEnds CT K)) (bEn : Binds K gdEn ["self"] []) (mEn : Meth K CT "ends" gEn)
    {gCo : Addr} {gdCo : FuncData} (GCo : FnOk P w K mg base CX0 1 gCo gdCo ["self"] (spTComes CT K)) (bCo : Binds K gdCo ["self"] []) (mCo : Meth K CT "comes" gCo)
    {gMx : Addr} {gdMx : FuncData} (GMx : FnOk P w K mg base CX0 1 gMx gdMx ["self"] (spTMat CT K)) (bMx : Binds K gdMx ["self"] []) (mMx : Meth K CT "matrix" gMx)
    {gBr : Addr} {gdBr : FuncData} (GBr : FnOk P w K mg base CX0 6 gBr gdBr ["self", "heights"] (spBrought CT K)) (bBr : Binds K gdBr ["self", "heights"] []) (mBr : Meth K CT "brought" gBr)
    (G1 : FnOk P w K mg base CX0 3 g1 gd1 ["_law_found", "_law_many"] (spLList K)) (b1 : Binds K gd1 ["_law_found", "_law_many"] []) (k1 : PySem.W.keepIn K (.ref g1) = true) (m1 : mg "_law_list" = some (.ref g1))
    (G2 : FnOk P w K mg base CX0 1 g2 gd2 ["_law_some", "_law_others", "_law_due"] (spMeetsG K)) (b2 : Binds K gd2 ["_law_some", "_law_others", "_law_due"] []) (k2 : PySem.W.keepIn K (.ref g2) = true) (m2 : mg "_law_meets" = some (.ref g2)) :
    FnOk P w K mg base CX 7 f fd ["_law_found", "_law_ends", "_law_heights", "_law_due"] (spAlike CT K) := by
  refine F.ok scAlike (fun vs H Q E h => ?_) (fun cdv A outer s H vs Q E hr h => ?_)
  · obtain ⟨t, e, h, d, es, X, cs, hs, ys, zs, n, w', rfl, TA, TO, hn, he, hh, fh, LH, lh, hd, fd', q⟩ := h
    rfl
  obtain ⟨t, e, h, d, es, X, cs, hs, ys, zs, n, w', rfl, TA, TO, hn, he, hh, fh, LH, lh, hd, fd', q⟩ := h
  have hu := hr.units
  have r1 := hr.mono (show 1 ≤ 6 by omega)
  have r3 := hr.mono (show 3 ≤ 6 by omega)
  obtain ⟨dx, p0, l0, a0, us0, zc0, ht, _⟩ := TA.e
  have le := TO.le
  have lc := TO.lc
  have lX := TO.lX
  have w6 := TO.w6
  have lys := fh.length
  have s0 := Same.refl H
  have lb := br_len TO hs
  have lzb := fd'.length
  refine ⟨_, (pss_cons (ps_if (PW.pt (pw_or (pt_cmpR (op_neD hu) (pe_meth0 (pv 0) TBx.cl mEn GEn r1 bEn .nil pass0) (pv 1) (nomark _)) (pw_or (pt_not (pt_val (pe_call G1 r3 rfl m1 k1 b1 .nil pass0 (pa_cons (pe_meth0 (pv 0) TBx.cl mCo GCo r1 bCo .nil pass0) (pa_cons (pe_callB call_len_seq rfl ml PySem.boot_len (pa_cons (pv 1) pa_nil)) pa_nil))))) (pw_or1 (pt_cmpR op_ne (pe_callB call_len_seq rfl ml PySem.boot_len (pa_cons (pe_meth0 (pv 0) TBx.cl mMx GMx r1 bMx .nil pass0) pa_nil)) (pe_callB call_len_seq rfl ml PySem.boot_len (pa_cons (pv 1) pa_nil)) (nomark _)))))) (pss_one (ps_ret pe_bl)) pss_nil)
    (pss_cons (ps_set (i := 4) scAlike.nd rfl (Or.inl rfl) (pe_meth (pv 0) TBx.cl mBr GBr hr bBr .nil pass0 (pa_cons (pe_callTy call_list_of rfl mli PyProof.Rows.boot_list (pa_cons (pv 2) pa_nil)) pa_nil)))
    (pss_cons (ps_if (PW.pt (pw_or (pt_not (pt_val (pe_call G1 r3 rfl m1 k1 b1 .nil pass0 (pa_cons (pv 4) (pa_cons (pe_callB call_len_seq rfl ml PySem.boot_len (pa_cons (pv 1) pa_nil)) pa_nil))))) (pw_or1 (pt_cmpR (op_neD hu) (pv 4) (pv 3) (nomark _))))) (pss_one (ps_ret pe_bl)) pss_nil)
    (pss_cons (ps_for PassesOwn.never rfl (pi_range1 rfl mr (pa_cons (pe_callB call_len_seq rfl ml PySem.boot_len (pa_cons (pv 1) pa_nil)) pa_nil)) (pg_name (i := 5) scAlike.nd rfl (Or.inl rfl))
      (pss_cons (ps_if (pt_not (pt_val (pe_call G1 r3 rfl m1 k1 b1 .nil pass0 (pa_cons (pe_ix ix_list (pe_meth0 (pv 0) TBx.cl mMx GMx r1 bMx .nil pass0) (pv 5) (fun _ _ => rfl)) (pa_cons (pe_callB call_len_seq rfl ml PySem.boot_len (pa_cons (pv 1) pa_nil)) pa_nil))))) (pss_one (ps_ret pe_bl)) pss_nil)
    (pss_one (ps_if (pt_not (pt_val (pe_call G2 r1 rfl m2 k2 b2 .nil pass0 (pa_cons (pe_op op_cat (pe_ix ix_list (pe_meth0 (pv 0) TBx.cl mMx GMx r1 bMx .nil pass0) (pv 5) (fun _ _ => rfl)) (pe_lst (pa_cons (pe_ix ix_list (pe_meth0 (pv 0) TBx.cl mCo GCo r1 bCo .nil pass0) (pv 5) (fun _ _ => rfl)) pa_nil))) (pa_cons (pe_op op_cat (pv 2) (pe_lst (pa_cons (pe_tup (pa_cons (pe_un un_neg pe_int) (pa_cons pe_int pa_nil))) pa_nil))) (pa_cons (pe_ix ix_list (pv 3) (pv 5) (fun _ _ => rfl)) pa_nil)))))) (pss_one (ps_ret pe_bl)) pss_nil))))
    (pss_one (ps_ret pe_bl)))))), ?_⟩
  refine ⟨_, rfl, t, dx, _, rfl, s0 _ _ ht, tflds_no _ _ _ (by decide +kernel) (by decide +kernel) (by decide +kernel), t, es, X, cs, rfl, TA.same (s0), fun a1 H1 s1 n1 e1 => ?_⟩
  refine ⟨_, rfl, rd_eqI (neg := true) (SqL.of e1) (SqL.of (s1 _ _ he)) ⟨_, rfl, iteF ?_⟩⟩
  refine ⟨_, rfl, t, dx, _, rfl, s1 _ _ ht, tflds_no _ _ _ (by decide +kernel) (by decide +kernel) (by decide +kernel), t, es, X, cs, rfl, TA.same (s1), fun a2 ys2 H2 s2 e2 F2 => ?_⟩
  have s02 := s1.trans s2
  refine ⟨_, rfl, e, _, rfl, .inl (SqL.of (s02 _ _ he)), a2, ys2, cs, by rw [List.length_map, le, lc]; rfl, SqL.of e2, F2, allLowC TO, by omega, fun H3 s3 => ⟨_, rfl, iteF ?_⟩⟩
  have s03 := s02.trans s3
  refine ⟨_, rfl, t, dx, _, rfl, s03 _ _ ht, tflds_no _ _ _ (by decide +kernel) (by decide +kernel) (by decide +kernel), t, es, X, cs, rfl, TA.same (s03), by omega, fun a4 us4 H4 s4 e4 L4 => ?_⟩
  have s04 := s03.trans s4
  refine ⟨a4, us4, rfl, .inl (SqL.of e4), _, rfl, e, _, rfl, .inl (SqL.of (s04 _ _ he)), rfl, _, rfl, ?_⟩
  refine L2.ifF (by rw [L4.l, List.length_map, lX, le]; simp) ?_
  -- brought
  refine ⟨_, rfl, t, dx, _, rfl, s04 _ _ ht, tflds_no _ _ _ (by decide +kernel) (by decide +kernel) (by decide +kernel), _, rfl, h, ys, rfl, .inl (SqL.of (s04 _ _ hh)), fun c hc => ?_⟩
  have s5 := same_new hc (.lst ys)
  have e5 : upd H4 c (.lst ys) c = some (.lst ys) := upd_same
  generalize upd H4 c (.lst ys) = H5 at s5 e5 ⊢
  have s05 := s04.trans s5
  refine ⟨t, c, es, X, cs, hs, ys, n, 30, w', rfl, TA.same s05, TO, SqL.of e5, fh.same s05, LH, lh, by omega, fun l zb H6 s6 e6 F6 => ?_⟩
  have s06 := s05.trans s6
  have lz6 := F6.length
  refine ⟨_, rfl, _, rfl, e, _, rfl, .inl (SqL.of (s06 _ _ he)), l, zb, brL X cs hs, by rw [List.length_map, le, lb]; rfl, SqL.of e6, F6, allLowB TO LH lh, by omega, fun H7 s7 => ⟨_, rfl, iteF ?_⟩⟩
  have s07 := s06.trans s7
  refine ⟨_, rfl, _, rfl, rd_eqL (neg := true) (SqL.of (s7 _ _ e6)) (SqL.of (s07 _ _ hd)) (F6.same s7) (fd'.same s07) ⟨_, rfl, iteF ?_⟩⟩
  refine ⟨_, rfl, e, _, rfl, .inl (SqL.of (s07 _ _ he)), (w' : Int), by rw [List.length_map, le], by omega, by omega, ?_⟩
  rw [Int.toNat_natCast]
  refine for_range (lo := 0) (n := w') (fun i σ H' => Same H H' ∧ ∃ z, σ = [some (.ref t), some (.ref e), some (.ref h), some (.ref d), some (.ref l), z]) ⟨s07, none, rfl⟩ ?_ ?_
  · rintro i σ H8 hi ⟨s8, z, rfl⟩
    rw [Int.zero_add]
    obtain ⟨rl, rb⟩ := TO.lb hi
    obtain ⟨c1, c2⟩ := TO.cat hi
    refine ⟨_, rfl, t, dx, _, rfl, s8 _ _ ht, tflds_no _ _ _ (by decide +kernel) (by decide +kernel) (by decide +kernel), t, es, X, cs, rfl, TA.same (s8), by omega, fun a9 us9 H9 s9 e9 L9 => ?_⟩
    have s09 := s8.trans s9
    obtain ⟨u, xs, eu, hu9, fu⟩ := L9.at (Mq.getL (show i < X.length by omega))
    refine ⟨_, rfl, a9, us9, _, _, rfl, rfl, SqL.of e9, atI_nat eu, _, rfl, e, _, rfl, .inl (SqL.of (s09 _ _ he)), u, xs, X.getD i [], by rw [List.length_map, le, rl]; rfl, SqL.of hu9, fu, allLow TO hi, by omega, fun HA sA => ⟨_, rfl, iteF ?_⟩⟩
    have s0A := s09.trans sA
    clear L9 eu hu9 fu e9
    refine ⟨_, rfl, t, dx, _, rfl, s0A _ _ ht, tflds_no _ _ _ (by decide +kernel) (by decide +kernel) (by decide +kernel), t, es, X, cs, rfl, TA.same (s0A), by omega, fun a9 us9 HB sB e9 L9 => ?_⟩
    have s0B := s0A.trans sB
    obtain ⟨u, xs, eu, hu9, fu⟩ := L9.at (Mq.getL (show i < X.length by omega))
    have lxs := fu.length
    refine ⟨_, rfl, a9, us9, _, _, rfl, rfl, SqL.of e9, atI_nat eu, _, rfl, t, dx, _, rfl, s0B _ _ ht, tflds_no _ _ _ (by decide +kernel) (by decide +kernel) (by decide +kernel), t, es, X, cs, rfl, TA.same (s0B), fun a2 ys2 HC sC e2 F2 => ?_⟩
    have s0C := s0B.trans sC
    obtain ⟨v, ev, fv⟩ := F2.at (Mq.getQ1 (show i < cs.length by omega))
    refine ⟨_, rfl, a2, ys2, _, _, rfl, rfl, SqL.of e2, atI_nat ev, (by show 1 ≤ sizeLine; decide), fun L hL => ?_⟩
    have sD := same_new hL (.lst [.ref v])
    have eD : upd HC L (.lst [.ref v]) L = some (.lst [.ref v]) := upd_same
    generalize upd HC L (.lst [.ref v]) = HD at sD eD ⊢
    refine ⟨u, L, xs, _, rfl, rfl, (sC.trans sD) _ _ hu9, eD, Nat.le_trans (show _ ≤ 100 by simp only [List.length_cons, List.length_nil]; omega) (by decide), fun M hM => ?_⟩
    have sE := same_new hM (.lst (xs ++ [.ref v]))
    have eE : upd HD M (.lst (xs ++ [.ref v])) M = some (.lst (xs ++ [.ref v])) := upd_same
    generalize upd HD M (.lst (xs ++ [.ref v])) = HE at sE eE ⊢
    refine ⟨_, rfl, _, rfl, (by show 2 ≤ sizeLine; decide), fun t1 ht1 => ?_⟩
    have sF := same_new ht1 (.tup [.int (-1), .int 1])
    have eF : upd HE t1 (.tup [.int (-1), .int 1]) t1 = some (.tup [.int (-1), .int 1]) := upd_same
    generalize upd HE t1 (.tup [.int (-1), .int 1]) = HF at sF eF ⊢
    refine ⟨(by show 1 ≤ sizeLine; decide), fun L2 hL2 => ?_⟩
    have sG := same_new hL2 (.lst [.ref t1])
    have eG : upd HF L2 (.lst [.ref t1]) L2 = some (.lst [.ref t1]) := upd_same
    generalize upd HF L2 (.lst [.ref t1]) = HG at sG eG ⊢
    have s0G := s0C.trans ((sD.trans sE).trans (sF.trans sG))
    refine ⟨h, L2, ys, _, rfl, rfl, s0G _ _ hh, eG, Nat.le_trans (show _ ≤ 100 by simp only [List.length_cons, List.length_nil]; omega) (by decide), fun M2 hM2 => ?_⟩
    have sI := same_new hM2 (.lst (ys ++ [.ref t1]))
    have eI : upd HG M2 (.lst (ys ++ [.ref t1])) M2 = some (.lst (ys ++ [.ref t1])) := upd_same
    generalize upd HG M2 (.lst (ys ++ [.ref t1])) = HI at sI eI ⊢
    have s0I := s0G.trans sI
    have sCI := ((sD.trans sE).trans (sF.trans sG)).trans sI
    obtain ⟨v2, ev2, fv2⟩ := fd'.at (Mq.getQ1 (show i < (brL X cs hs).length by omega))
    obtain ⟨b1, b2, b3⟩ := br_val TO LH lh hi
    have mw : (n + 30 + 1) * w' ≤ (n + 30 + 1) * 6 := Nat.mul_le_mul_left _ w6
    have LP := rb.snoc c1 c2
    have b30 : (1 : Nat) ≤ 30 := by decide
    have LQ := LH.snoc m1_low (m1_bd b30)
    refine ⟨_, rfl, _, rfl, d, zs, _, _, rfl, rfl, SqL.of (s0I _ _ hd), atI_nat ev2, M, M2, v2, _, _, X.getD i [] ++ [cs.getD i Mq.z0], hs ++ [(-1, 1)], _, n, 30, rfl, SqL.of ((sF.trans (sG.trans sI)) _ _ eE), (fu.same (sC.trans sCI)).app (.cons (sCI.seqT fv) .nil), SqL.of eI, (fh.same s0I).app (.cons ((sG.trans sI).fq (Fq.of eF)) .nil), s0I.fq fv2, fun p hp => (LP.h p hp).2, fun p hp => (LQ.h p hp).2, b2.mono (by omega), ?_, by omega, by decide, ?_, ?_, fun HJ sJ => ⟨_, rfl, iteF ⟨s0I.trans sJ, _, rfl⟩⟩⟩
    · rw [List.length_append, rl]; simp only [List.length_cons, List.length_nil]; omega
    · rw [List.length_append, List.length_append, rl, lh]; rfl
    · refine Mq.meets_of (fun p hp => (LP.h p hp).1.pos) (fun p hp => (LQ.h p hp).1.pos) (by rw [List.length_append, List.length_append, rl, lh]; rfl) b1 ?_
      rw [b3]
      have dl : (X.getD i [] ++ [cs.getD i Mq.z0]).length = (hs ++ [((-1, 1) : Mq.Q2)]).length := by rw [List.length_append, List.length_append, rl, lh]; rfl
      rw [← dot_val LP LQ dl, (dot_c rb LH (by omega) c1 c2 b30).2.2, rl]
      rfl
  · rintro σ H8 ⟨s8, z, rfl⟩
    exact q _ s8
end
end K55

set_option Elab.async false
set_option linter.all false
set_option maxRecDepth 100000
set_option maxHeartbeats 2000000
namespace L2
open PySem PySem.Spec PyProof.Rows
inductive CEx where
  | c (k : Const) (n : Nat) (p : Pos)
  | neg (i : Int) (n : Nat) (p q : Pos)
def CEx.ex : CEx → Expr
  | .c k n p => .Constant k n p
  | .neg i n p q => .UnaryOp .USub (.Constant (.int i) n p) q
def ctV : Const → V
  | .bool b => .bl b
  | .int i => .int i
  | .str x => .str x
  | _ => .non
def ctOk : Const → Bool
  | .none => true
  | .bool _ => true
  | .int _ => true
  | .str _ => true
  | _ => false
def CEx.te : CEx → TE
  | .c k _ _ => fun _ H Q => ctOk k = true ∧ Q (ctV k) H
  | .neg i _ _ _ => tC (.int (-i))
theorem CEx.pe (X : Cx) : ∀ c : CEx, PE X c.ex c.te
  | .c k n p => fun pins s σ H Q I h => by
    obtain ⟨ok, q⟩ := h
    cases k with
    | none => exact pe_non pins s σ H Q I q
    | bool b => exact pe_bl pins s σ H Q I q
    | int i => exact pe_int pins s σ H Q I q
    | str x => exact pe_str pins s σ H Q I q
    | float _ => cases ok
    | complex _ _ => cases ok
    | bytes _ => cases ok
    | ellipsis => cases ok
  | .neg i n p q' => fun pins s σ H Q I h => pe_un un_neg pe_int pins s σ H Q I ⟨i, rfl, h⟩
theorem CEx.st (e : CEx) (es : List Expr) (env : Env) : starEach (e.ex :: es) env = (false, eval e.ex env) :: starEach es env := by cases e <;> rfl
def tCExs : List CEx → TA
  | [] => tNil
  | c :: l => tCons c.te (tCExs l)
theorem pa_ces (X : Cx) : ∀ l : List CEx, PA X (l.map CEx.ex) (tCExs l)
  | [] => pa_nil
  | c :: l => pa_cons (CEx.pe X c) (pa_ces X l) (CEx.st c _ _)
inductive El where
  | e (c : CEx)
  | tup (l : List CEx) (n : Nat) (p : Pos)
  | lst (l : List CEx) (p : Pos)
def El.ex : El → Expr
  | .e c => c.ex
  | .tup l n p => .Tuple (l.map CEx.ex) n p
  | .lst l p => .List (l.map CEx.ex) p
def El.te : El → TE
  | .e c => c.te
  | .tup l _ _ => tTup (tCExs l)
  | .lst l _ => tLst (tCExs l)
theorem El.pe (X : Cx) : ∀ e : El, PE X e.ex e.te
  | .e c => CEx.pe X c
  | .tup l n p => pe_tup (pa_ces X l)
  | .lst l p => pe_lst (pa_ces X l)
theorem El.st (e : El) (es : List Expr) (env : Env) : starEach (e.ex :: es) env = (false, eval e.ex env) :: starEach es env := by
  cases e with
  | e c => exact CEx.st c es env
  | tup l n p => rfl
  | lst l p => rfl
def tEls : List El → TA
  | [] => tNil
  | e :: l => tCons e.te (tEls l)
theorem pa_els (X : Cx) : ∀ l : List El, PA X (l.map El.ex) (tEls l)
  | [] => pa_nil
  | e :: l => pa_cons (El.pe X e) (pa_els X l) (El.st e _ _)
end L2

set_option Elab.async false
set_option linter.all false
set_option maxRecDepth 100000
set_option maxHeartbeats 4000000
namespace K55
open PySem L2 Shp
section
variable {P : Program} {w : World} {K : PySem.W.Frag} {mg : Str → Option Value} {base : Heap} {f g1 g2 g3 g4 g5 g6 g7 g8 g9 g10 g11 : Addr} {fd gd1 gd2 gd3 gd4 gd5 gd6 gd7 gd8 gd9 gd10 gd11 : FuncData} {CX : CXT}
def spLaw (K : PySem.W.Frag) : Sp := fun vs H Q _ => ∃ (a : Addr) (ns : List Int), vs = [.ref a] ∧ SqL K H a (ns.map V.int) ∧ ns.length ≤ 63 ∧ ∀ H', Q (.bl true) H'
def lqd (ps : List Mq.Q2) : PyData := .list (ps.map qd)
theorem lqds_lay : ∀ X : List (List Mq.Q2), PyData.canLayAll0 (X.map lqd) = true
  | [] => rfl
  | r :: X => by
    show (PyData.canLayAll0 (r.map qd) && PyData.canLayAll0 (X.map lqd)) = true
    rw [lqds_lay X, qds_lay]; rfl
theorem lqds_depth : ∀ X : List (List Mq.Q2), PyData.depthAll (X.map lqd) ≤ 2
  | [] => by simp [PyData.depthAll]
  | r :: X => by
    have h := lqds_depth X
    have h1 := qds_depth r
    simp only [List.map_cons, PyData.depthAll]
    have : (lqd r).depth ≤ 2 := by simp only [lqd, PyData.depth]; omega
    omega
theorem lns_dat {K : PySem.W.Frag} {H : Hp} : ∀ {us : List V} {X : List (List Mq.Q2)}, Lns K H us X → DatVs K H us (X.map lqd)
  | [], [], _ => .nil
  | [], _ :: _, h => by have := h.l; simp at this
  | _ :: _, [], h => by have := h.l; simp at this
  | x :: us, ps :: X, h => by
    obtain ⟨a, xs, rfl, h1, h2⟩ := h.r 0 x ps rfl rfl
    exact .cons (.lst h1 h2.dat) (lns_dat ⟨by have := h.l; simpa using this, fun i y qs e1 e2 => h.r (i + 1) y qs (by simpa using e1) (by simpa using e2)⟩)
def kd (es : List Int) (X : List (List Mq.Q2)) (cs : List Mq.Q2) : PyData := .tuple [.list (es.map PyData.int), .list (X.map lqd), .list (cs.map qd)]
theorem kd_lay (es : List Int) (X : List (List Mq.Q2)) (cs : List Mq.Q2) : (kd es X cs).canLay0 = true := by
  show (PyData.canLayAll0 (es.map PyData.int) && (PyData.canLayAll0 (X.map lqd) && (PyData.canLayAll0 (cs.map qd) && true))) = true
  rw [ints_lay, lqds_lay, qds_lay]; rfl
theorem kd_depth (es : List Int) (X : List (List Mq.Q2)) (cs : List Mq.Q2) : (kd es X cs).depth ≤ 16 := by
  have h1 := ints_depth es
  have h2 := lqds_depth X
  have h3 := qds_depth cs
  simp only [kd, PyData.depth, PyData.depthAll]
  omega
theorem kd_of {K : PySem.W.Frag} {H : Hp} {r p l c : Addr} {es : List Int} {X : List (List Mq.Q2)} {cs : List Mq.Q2} {us ys : List V} (h : SqT K H r [.ref p, .ref l, .ref c]) (h1 : SqL K H p (es.map V.int)) (h2 : SqL K H l us) (h3 : Lns K H us X) (h4 : SqL K H c ys) (h5 : Fqs K H ys cs) : DatV K H (.ref r) (kd es X cs) := .tup h (.cons (.lst h1 (ints_dat es)) (.cons (.lst h2 (lns_dat h3)) (.cons (.lst h4 h5.dat) .nil)))
theorem rd_eqM {K : PySem.W.Frag} {H : Hp} {a b : Addr} {us vs : List V} {X : List (List Mq.Q2)} {neg : Bool} {Q : VK} (h1 : SqL K H a us) (h2 : SqL K H b vs) (f1 : Lns K H us X) (f2 : Lns K H vs X) (z : Q (.bl (!neg)) H) : rDat K neg (.ref a) (.ref b) H Q :=
  rd_eqS (d := .list (X.map lqd)) (.lst h1 (lns_dat f1)) (.lst h2 (lns_dat f2)) (lqds_lay X) (by have := lqds_depth X; simp only [PyData.depth]; omega) z
theorem rd_np {K : PySem.W.Frag} {H : Hp} {neg : Bool} {Q : VK} (z : Q (.bl (!neg)) H) : rDat K neg (.str "no point") (.str "no point") H Q :=
  rd_eqS (d := .str "no point") (.str _) (.str _) (by decide +kernel) (by decide) z
theorem at52 (fr : Bool) : ∃ v : Int, atI [V.int 5, .int 2] (if fr then 1 else 0) = some (.int v) ∧ v = if fr then 2 else 5 := by cases fr <;> exact ⟨_, rfl, rfl⟩
abbrev kk (v : V) : TE := fun _ H Q => true = true ∧ Q v H
def t7 : TA := tCons (kk (.int 20)) (tCons (tC (.int (-1))) (tCons (kk .non) (tCons (tTup (tCons (kk (.int 0)) (tCons (kk (.int 1)) tNil))) (tCons (kk (.bl true)) (tCons (kk (.bl false)) (tCons (kk (.str "1")) tNil))))))
theorem wr8 {K : PySem.W.Frag} {H : Hp} {es : List Int} {v : Int} {t : Addr} (E : Eok es) (hv : v ∉ es) (ht : H t = some (.tup [.int 0, .int 1])) {x : V} (hx : x ∈ [V.int v, .int 20, .int (-1), .non, .ref t, .bl true, .bl false, .str "1"]) : NoEnd K H x es := by
  simp only [List.mem_cons, List.not_mem_nil, or_false] at hx
  rcases hx with rfl | rfl | rfl | rfl | rfl | rfl | rfl | rfl
  · exact .inr ⟨v, rfl, .inl hv⟩
  · exact .inr ⟨20, rfl, .inl fun z => by have := E.lo _ z; omega⟩
  · exact .inr ⟨-1, rfl, .inl fun z => by have := E.lo _ z; omega⟩
  · exact .inl ⟨_, .non, by simp [NotWhole]⟩
  · exact .inl ⟨_, .tup ht, by simp [NotWhole]⟩
  · exact .inl ⟨_, .bl _, by simp [NotWhole]⟩
  · exact .inl ⟨_, .bl _, by simp [NotWhole]⟩
  · exact .inl ⟨_, .str _, by simp [NotWhole]⟩
theorem _root_.K55.NoEnd.same {K : PySem.W.Frag} {H H' : Hp} {x : V} {es : List Int} (s : Same H H') (h : (∃ t, H t = some (.tup [.int 0, .int 1]) ∧ x = .ref t) ∨ (∀ Hx, NoEnd K Hx x es)) : NoEnd K H' x es := by
  rcases h with ⟨t, ht, rfl⟩ | h
  · exact .inl ⟨_, .tup (s _ _ ht), by simp [NotWhole]⟩
  · exact h _
def ntL (es : List Int) (i : Nat) : List Int := ((List.range i).map fun (p : Nat) => (p : Int)).filter fun x => decide (x ∉ es)
theorem ntL_in {es : List Int} {i : Nat} (h : (i : Int) ∈ es) : ntL es (i + 1) = ntL es i := by
  unfold ntL
  rw [List.range_succ, List.map_append, List.filter_append]
  simp [h]
theorem ntL_out {es : List Int} {i : Nat} (h : (i : Int) ∉ es) : ntL es (i + 1) = ntL es i ++ [(i : Int)] := by
  unfold ntL
  rw [List.range_succ, List.map_append, List.filter_append]
  simp [h]
theorem ntL_20 {es : List Int} (h : es.length ≤ 6) : 14 ≤ (ntL es 20).length := out20 h
theorem ntL_no {es : List Int} {i : Nat} {x : Int} (h : x ∈ ntL es i) : x ∉ es := by
  have := (List.mem_filter.mp h).2
  simpa using this
theorem ntL_len (es : List Int) (i : Nat) : (ntL es i).length ≤ i := by
  unfold ntL
  refine Nat.le_trans (List.length_filter_le _ _) ?_
  simp
theorem tw_ne {k k' l l' w : Nat} {X X1 X3 : List (List Mq.Q2)} {cs c1 c3 : List Mq.Q2} (h1 : Mq.skp k l = k') (h2 : Mq.skp k' l' = k) (hl : l < w - 1) (hl' : l' < w - 1) (a : Taken k w X cs X1 c1) (c : Taken k' w X cs X3 c3) (np : matX X k k ≠ 0) (nq : matX X k' k' ≠ 0) (nd : matX X1 l l ≠ 0) : matX X3 l' l' ≠ 0 := by
  have e1 := a.x l l hl hl
  have e2 := c.x l' l' hl' hl'
  rw [h1] at e1
  rw [h2] at e2
  rw [e1] at nd
  rw [e2]
  generalize matX X k k = p at *
  generalize matX X k' k' = q at *
  generalize matX X k' k = u at *
  generalize matX X k k' = v at *
  intro z
  apply nd
  have : p * q - u * v = 0 := by grind
  grind
def N1 (fr : Bool) : Nat := if fr then 633 else 419
theorem nd_lrow : (["_law_row"] : List Str).Nodup := by decide +kernel
theorem nd_point_ends : (["_law_point", "_law_ends"] : List Str).Nodup := by decide +kernel
abbrev sLaw : Stmt := top 43
theorem scLaw : FnScope ["_law_script", "_law_far", "_law_many", "_law_known", "_law_ends", "_law_matrix", "_law_comes", "_law_table_here", "_law_at", "_law_none", "_law_wrong", "_law_heights", "_law_left", "_law_due", "_law_found", "_law_other", "_law_first", "_law_later", "_law_second", "_law_turned", "_law_own", "_law_alike_here"] ["_law_script"] (defScope sLaw) := ⟨rfl, rfl, rfl, by decide +kernel, rfl, by decide +kernel, by decide +kernel⟩
@[irreducible] def md7 : Stmt := (defBody sLaw).getD 7 (.Pass ⟨0, 0, 0, 0⟩)
def md0 : Stmt := (defBody sLaw).getD 0 (.Pass ⟨0, 0, 0, 0⟩)
def md1 : Stmt := (defBody sLaw).getD 1 (.Pass ⟨0, 0, 0, 0⟩)
def md2 : Stmt := (defBody sLaw).getD 2 (.Pass ⟨0, 0, 0, 0⟩)
def md3 : Stmt := (defBody sLaw).getD 3 (.Pass ⟨0, 0, 0, 0⟩)
def md4 : Stmt := (defBody sLaw).getD 4 (.Pass ⟨0, 0, 0, 0⟩)
def md5 : Stmt := (defBody sLaw).getD 5 (.Pass ⟨0, 0, 0, 0⟩)
def md6 : Stmt := (defBody sLaw).getD 6 (.Pass ⟨0, 0, 0, 0⟩)
def md8 : Stmt := (defBody sLaw).getD 8 (.Pass ⟨0, 0, 0, 0⟩)
def md9 : Stmt := (defBody sLaw).getD 9 (.Pass ⟨0, 0, 0, 0⟩)
def md10 : Stmt := (defBody sLaw).getD 10 (.Pass ⟨0, 0, 0, 0⟩)
def md11 : Stmt := (defBody sLaw).getD 11 (.Pass ⟨0, 0, 0, 0⟩)
def md12 : Stmt := (defBody sLaw).getD 12 (.Pass ⟨0, 0, 0, 0⟩)
def md13 : Stmt := (defBody sLaw).getD 13 (.Pass ⟨0, 0, 0, 0⟩)
def md14 : Stmt := (defBody sLaw).getD 14 (.Pass ⟨0, 0, 0, 0⟩)
def md15 : Stmt := (defBody sLaw).getD 15 (.Pass ⟨0, 0, 0, 0⟩)
def md16 : Stmt := (defBody sLaw).getD 16 (.Pass ⟨0, 0, 0, 0⟩)
def md17 : Stmt := (defBody sLaw).getD 17 (.Pass ⟨0, 0, 0, 0⟩)
def md18 : Stmt := (defBody sLaw).getD 18 (.Pass ⟨0, 0, 0, 0⟩)
def md19 : Stmt := (defBody sLaw).getD 19 (.Pass ⟨0, 0, 0, 0⟩)
def md20 : Stmt := (defBody sLaw).getD 20 (.Pass ⟨0, 0, 0, 0⟩)
def md21 : Stmt := (defBody sLaw).getD 21 (.Pass ⟨0, 0, 0, 0⟩)
def md22 : Stmt := (defBody sLaw).getD 22 (.Pass ⟨0, 0, 0, 0⟩)
def md23 : Stmt := (defBody sLaw).getD 23 (.Pass ⟨0, 0, 0, 0⟩)
def md24 : Stmt := (defBody sLaw).getD 24 (.Pass ⟨0, 0, 0, 0⟩)
def md7b : List Stmt := match (defBody sLaw).getD 7 (.Pass ⟨0, 0, 0, 0⟩) with | .For _ _ b _ _ => b | _ => []
theorem md_eq : defBody sLaw = [md0, md1, md2, md3, md4, md5, md6, md7, md8, md9, md10, md11, md12, md13, md14, md15, md16, md17, md18, md19, md20, md21, md22, md23, md24] := by unfold md7; rfl
theorem md7_ex : ∃ (q q2 p2 p : Pos) (l : List El), md7 = .For (.Name "_law_wrong" q) (.List (.Name "_law_none" q2 :: l.map El.ex) p2) md7b [] p ∧ tEls l = t7 := by
  unfold md7
  exact ⟨_, _, _, _, [El.e (.c (.int 20) _ _), .e (.neg 1 _ _ _), .e (.c .none _ _), .tup [.c (.int 0) _ _, .c (.int 1) _ _] _ _, .e (.c (.bool true) _ _), .e (.c (.bool false) _ _), .e (.c (.str "1") _ _)], rfl, rfl⟩
theorem ok_law {dV : Value} (F : FunD K "law" "law" sLaw dV f fd)
    {CT CN CF : Addr} (b : Bl mg) (mr : mg "range" = none) (ml : mg "len" = none) (mli : mg "list" = none) (TBx : TB K mg CT)
    {gTI : Addr} {gdTI : FuncData} (GTI : FnOk P w K mg base CX0 1 gTI gdTI ["self", "ends", "matrix", "comes"] (spTInit CT K)) (bTI : Binds K gdTI ["self", "ends", "matrix", "comes"] []) (MT : Mk K CT gTI)
    {gTk : Addr} {gdTk : FuncData} (GTk : FnOk P w K mg base (CX1 P w) 6 gTk gdTk ["self", "point"] (spTaken CT CN CF K)) (bTk : Binds K gdTk ["self", "point"] []) (mTk : Meth K CT "taken" gTk)
    {gEn : Addr} {gdEn : FuncData} (GEn : FnOk P w K mg base CX0 1 gEn gdEn ["self"] (spTEnds CT K)) (bEn : Binds K gdEn ["self"] []) (mEn : Meth K CT "ends" gEn)
    {gCo : Addr} {gdCo : FuncData} (GCo : FnOk P w K mg base CX0 1 gCo gdCo ["self"] (spTComes CT K)) (bCo : Binds K gdCo ["self"] []) (mCo : Meth K CT "comes" gCo)
    {gMx : Addr} {gdMx : FuncData} (GMx : FnOk P w K mg base CX0 1 gMx gdMx ["self"] (spTMat CT K)) (bMx : Binds K gdMx ["self"] []) (mMx : Meth K CT "matrix" gMx)
    (G1 : FnOk P w K mg base CX0 1 g1 gd1 ["_law_script", "_law_k"] (spNth K)) (b1 : Binds K gd1 ["_law_script", "_law_k"] []) (k1 : PySem.W.keepIn K (.ref g1) = true) (m1 : mg "_law_nth" = some (.ref g1))
    (G2 : FnOk P w K mg base CX0 4 g2 gd2 ["_law_script", "_law_many", "_law_far"] (spTable K)) (b2 : Binds K gd2 ["_law_script", "_law_many", "_law_far"] []) (k2 : PySem.W.keepIn K (.ref g2) = true) (m2 : mg "_law_table" = some (.ref g2))
    (G3 : FnOk P w K mg base CX0 7 g3 gd3 ["_law_table_here", "_law_point"] (spRefused CT K)) (b3 : Binds K gd3 ["_law_table_here", "_law_point"] []) (k3 : PySem.W.keepIn K (.ref g3) = true) (m3 : mg "_law_refused" = some (.ref g3))
    (G4 : FnOk P w K mg base CX0 3 g4 gd4 ["_law_cell", "_law_far"] spAmount) (b4 : Binds K gd4 ["_law_cell", "_law_far"] []) (k4 : PySem.W.keepIn K (.ref g4) = true) (m4 : mg "_law_amount" = some (.ref g4))
    (G5 : FnOk P w K mg base CX0 5 g5 gd5 ["_law_known", "_law_at", "_law_heights"] (spWithout K)) (b5 : Binds K gd5 ["_law_known", "_law_at", "_law_heights"] []) (k5 : PySem.W.keepIn K (.ref g5) = true) (m5 : mg "_law_without" = some (.ref g5))
    (G6 : FnOk P w K mg base CX0 7 g6 gd6 ["_law_found", "_law_ends", "_law_heights", "_law_due"] (spAlike CT K)) (b6 : Binds K gd6 ["_law_found", "_law_ends", "_law_heights", "_law_due"] []) (k6 : PySem.W.keepIn K (.ref g6) = true) (m6 : mg "_law_alike" = some (.ref g6)) :
    FnOk P w K mg base CX 8 f fd ["_law_script"] (spLaw K) := by
  refine F.ok scLaw (fun vs H Q E h => ?_) (fun cdv A outer s H vs Q E hr h => ?_)
  · obtain ⟨a, ns, rfl, hS, h63, q⟩ := h
    rfl
  obtain ⟨a, ns, rfl, hS, h63, q⟩ := h
  have hu := hr.units
  have r1 := hr.mono (show 1 ≤ 7 by omega)
  have r2 := hr.mono (show 2 ≤ 7 by omega)
  have r3 := hr.mono (show 3 ≤ 7 by omega)
  have r4 := hr.mono (show 4 ≤ 7 by omega)
  have r5 := hr.mono (show 5 ≤ 7 by omega)
  have r6 := hr.mono (show 6 ≤ 7 by omega)
  have GTc := GTk.calm
  rw [md_eq]
  obtain ⟨q1, q2, q3, q4, l7, e7, t7e⟩ := md7_ex
  rw [e7]
  refine ⟨_, (pss_cons (ps_set (i := 1) scLaw.nd rfl (Or.inr rfl) (pe_cmpR op_eq (pe_op op_mod (pe_op op_fdiv (pe_call G1 r1 rfl m1 k1 b1 .nil pass0 (pa_cons (pv 0) (pa_cons pe_int pa_nil))) pe_int) pe_int) pe_int (nomark _)))
    (pss_cons (ps_set (i := 2) scLaw.nd rfl (Or.inl rfl) (pe_op op_add pe_int (pe_op op_mod (pe_call G1 r1 rfl m1 k1 b1 .nil pass0 (pa_cons (pv 0) (pa_cons pe_int pa_nil))) (pe_ix ix_list (pe_lst (pa_cons pe_int (pa_cons pe_int pa_nil))) (pe_callTy call_int1 rfl b.int PyProof.Rows.boot_int (pa_cons (pv 1) pa_nil)) (fun _ _ => rfl)))))
    (pss_cons (ps_set (i := 3) scLaw.nd rfl (Or.inl rfl) (pe_call G2 r4 rfl m2 k2 b2 .nil pass0 (pa_cons (pv 0) (pa_cons (pv 2) (pa_cons (pv 1) pa_nil)))))
    (pss_cons (ps_asg (pv 3) (pg_tup rfl (pgs_cons (pg_name (i := 4) scLaw.nd rfl (Or.inr rfl)) (pgs_cons (pg_name (i := 5) scLaw.nd rfl (Or.inl rfl)) (pgs_cons (pg_name (i := 6) scLaw.nd rfl (Or.inl rfl)) pgs_nil)))))
    (pss_cons (ps_set (i := 7) scLaw.nd rfl (Or.inl rfl) (pe_make MT GTI r2 rfl TBx.mT bTI .nil pass0 (pa_cons (pe_callTy call_list_of rfl mli PyProof.Rows.boot_list (pa_cons (pv 4) pa_nil)) (pa_cons (pe_comp (nl := 1) (fr := []) (Nc := ["_law_row"]) (cl := []) rfl ⟨rfl, rfl, by decide +kernel, by decide +kernel, fun x c h => (by cases h), has_of rfl, rfl, fun i n h => (by simp at h)⟩
        (pi_list (pv 5)) (fun C s3 H3 fp pins => (pg_name (i := 0) nd_lrow rfl (Or.inl rfl))) (fun C s3 H3 fp pins => pif_nil)
        (fun C s3 H3 fp pins => (pe_callTy (call_list_ofK (K := K) rfl) rfl mli PyProof.Rows.boot_list (pa_cons (pv 0) pa_nil)))) (pa_cons (pe_callTy call_list_of rfl mli PyProof.Rows.boot_list (pa_cons (pv 6) pa_nil)) pa_nil)))))
    (pss_cons (ps_set (i := 8) scLaw.nd rfl (Or.inl rfl) (pe_op op_modN (pe_call G1 r1 rfl m1 k1 b1 .nil pass0 (pa_cons (pv 0) (pa_cons pe_int pa_nil))) (pv 2)))
    (pss_cons (ps_set (i := 9) scLaw.nd rfl (Or.inl rfl) (pe_ix ix_list (pe_comp (nl := 1) (fr := [4]) (Nc := ["_law_point", "_law_ends"]) (cl := [("_law_ends", s.heap.objs.size + 3)]) rfl ⟨rfl, rfl, by decide +kernel, by decide +kernel, (sub_cons rfl (sub_nil)), has_of rfl, rfl, fun i n h => match i, h with | 0, h => by cases h; exact ⟨4, rfl, rfl, rfl, rfl, .inl rfl⟩ | k + 1, h => by rw [show 1 + (k + 1) = k + 2 by omega] at h; cases h⟩
        (pi_range1 rfl mr (pa_cons pe_int pa_nil)) (fun C s3 H3 fp pins => (pg_name (i := 0) nd_point_ends rfl (Or.inl rfl))) (fun C s3 H3 fp pins => (pif_one (pt_cmpR (op_notIn_seqK (K := K) rfl) (pv 0) (pv 1) rfl)))
        (fun C s3 H3 fp pins => (pv 0))) (pe_op op_mod (pe_call G1 r1 rfl m1 k1 b1 .nil pass0 (pa_cons (pv 0) (pa_cons pe_int pa_nil))) pe_int) (fun _ _ => rfl)))
    (pss_cons (ps_for PassesOwn.never rfl (pi_list (pe_lst (pa_cons (pv 9) (pa_els _ l7)))) (pg_name (i := 10) scLaw.nd rfl (Or.inl rfl))
      (pss_one (ps_if (pt_cmpR (op_neD hu) (pe_call G3 hr rfl m3 k3 b3 .nil pass0 (pa_cons (pv 7) (pa_cons (pv 10) pa_nil))) pe_str (nomark _)) (pss_one (ps_ret pe_bl)) pss_nil)))
    (pss_cons (ps_if (pt_cmpR op_eq (pe_ix ix_tup (pe_ix ix_list (pe_ix ix_list (pv 5) (pv 8) (fun _ _ => rfl)) (pv 8) (fun _ _ => rfl)) pe_int (fun _ _ => rfl)) pe_int (nomark _)) (pss_one (ps_ret (pe_and (pe_cmpR (op_eqD hu) (pe_call G3 hr rfl m3 k3 b3 .nil pass0 (pa_cons (pv 7) (pa_cons (pe_ix ix_list (pv 4) (pv 8) (fun _ _ => rfl)) pa_nil))) (pe_lst (pa_cons (pe_ix ix_list (pv 4) (pv 8) (fun _ _ => rfl)) pa_nil)) (nomark _)) (pe_one (pe_cmpR (op_eqD hu) (pe_meth0 (pv 7) TBx.cl mMx GMx r1 bMx .nil pass0) (pv 5) (nomark _)))))) pss_nil)
    (pss_cons (ps_setC (i := 11) (nl := 1) (fr := [0, 1]) (Nc := ["_law_k", "_law_script", "_law_far"]) (cl := [("_law_script", s.heap.objs.size + 1), ("_law_far", s.heap.objs.size + 2)]) scLaw.nd rfl rfl rfl ⟨rfl, rfl, by decide +kernel, by decide +kernel, (sub_cons rfl (sub_cons rfl (sub_nil))), has_of rfl, rfl, fun i n h => match i, h with | 0, h => by cases h; exact ⟨0, rfl, rfl, rfl, rfl, .inl rfl⟩ | 1, h => by cases h; exact ⟨1, rfl, rfl, rfl, rfl, .inl rfl⟩ | k + 2, h => by rw [show 1 + (k + 2) = k + 3 by omega] at h; cases h⟩
        (pi_range1 rfl mr (pa_cons (pe_op op_sub (pv 2) pe_int) pa_nil)) (fun C s3 H3 fp pins => (pg_name (i := 0) nd_k_script_far rfl (Or.inl rfl))) (fun C s3 H3 fp pins => pif_nil)
        (fun C s3 H3 fp pins => (pe_call G4 r3 rfl m4 k4 b4 .nil pass0 (pa_cons (pe_call G1 r1 rfl m1 k1 b1 .nil pass0 (pa_cons (pv 1) (pa_cons (pe_op op_add pe_int (pv 0)) pa_nil))) (pa_cons (pv 2) pa_nil)))) rfl)
    (pss_cons (ps_asg (pe_call G5 r5 rfl m5 k5 b5 .nil pass0 (pa_cons (pv 3) (pa_cons (pv 8) (pa_cons (pv 11) pa_nil)))) (pg_tup rfl (pgs_cons (pg_name (i := 12) scLaw.nd rfl (Or.inl rfl)) (pgs_cons (pg_name (i := 13) scLaw.nd rfl (Or.inl rfl)) pgs_nil))))
    (pss_cons (ps_set (i := 14) scLaw.nd rfl (Or.inl rfl) (pe_meth (pv 7) TBx.cl mTk GTc r6 bTk .nil pass0 (pa_cons (pe_ix ix_list (pv 4) (pv 8) (fun _ _ => rfl)) pa_nil)))
    (pss_cons (ps_if (PW.pt (pw_or (pt_not (pt_val (pe_call G6 hr rfl m6 k6 b6 .nil pass0 (pa_cons (pv 14) (pa_cons (pv 12) (pa_cons (pv 11) (pa_cons (pv 13) pa_nil))))))) (pw_or1 (pt_cmpR (op_neD hu) (pe_tup (pa_cons (pe_meth0 (pv 7) TBx.cl mEn GEn r1 bEn .nil pass0) (pa_cons (pe_meth0 (pv 7) TBx.cl mMx GMx r1 bMx .nil pass0) (pa_cons (pe_meth0 (pv 7) TBx.cl mCo GCo r1 bCo .nil pass0) pa_nil)))) (pv 3) (nomark _))))) (pss_one (ps_ret pe_bl)) pss_nil)
    (pss_cons (ps_if (pt_cmpR op_eq (pv 2) pe_int (nomark _)) (pss_one (ps_ret (pe_and (pe_cmpR (op_eqD hu) (pe_call G3 hr rfl m3 k3 b3 .nil pass0 (pa_cons (pv 14) (pa_cons (pe_ix ix_list (pv 12) pe_int (fun _ _ => rfl)) pa_nil))) pe_str (nomark _)) (pe_one (pe_cmpR (op_eqD hu) (pe_call G3 hr rfl m3 k3 b3 .nil pass0 (pa_cons (pv 14) (pa_cons (pe_ix ix_list (pv 4) (pv 8) (fun _ _ => rfl)) pa_nil))) pe_str (nomark _)))))) pss_nil)
    (pss_cons (ps_set (i := 15) scLaw.nd rfl (Or.inl rfl) (pe_ix ix_list (pv 12) (pe_op op_mod (pe_op op_fdiv (pe_call G1 r1 rfl m1 k1 b1 .nil pass0 (pa_cons (pv 0) (pa_cons pe_int pa_nil))) pe_int) (pe_op op_sub (pv 2) pe_int)) (fun _ _ => rfl)))
    (pss_cons (ps_set (i := 16) scLaw.nd rfl (Or.inl rfl) (pe_bm PySem.F.plainAttrs_list PySem.F.slot_list_index PySem.F.type_list_index mt_index (pv 4) (pa_cons (pv 15) pa_nil)))
    (pss_cons (ps_set (i := 17) scLaw.nd rfl (Or.inl rfl) (pe_bm PySem.F.plainAttrs_list PySem.F.slot_list_index PySem.F.type_list_index mt_index (pv 12) (pa_cons (pv 15) pa_nil)))
    (pss_cons (ps_if (PW.pt (pw_or (pt_cmpR op_eq (pe_ix ix_tup (pe_ix ix_list (pe_ix ix_list (pv 5) (pv 16) (fun _ _ => rfl)) (pv 16) (fun _ _ => rfl)) pe_int (fun _ _ => rfl)) pe_int (nomark _)) (pw_or1 (pt_cmpR op_eq (pe_ix ix_tup (pe_ix ix_list (pe_ix ix_list (pe_meth0 (pv 14) TBx.cl mMx GMx r1 bMx .nil pass0) (pv 17) (fun _ _ => rfl)) (pv 17) (fun _ _ => rfl)) pe_int (fun _ _ => rfl)) pe_int (nomark _))))) (pss_one (ps_ret pe_bl)) pss_nil)
    (pss_cons (ps_set (i := 18) scLaw.nd rfl (Or.inl rfl) (pe_meth (pv 14) TBx.cl mTk GTc r6 bTk .nil pass0 (pa_cons (pv 15) pa_nil)))
    (pss_cons (ps_set (i := 19) scLaw.nd rfl (Or.inl rfl) (pe_meth (pv 7) TBx.cl mTk GTc r6 bTk .nil pass0 (pa_cons (pv 15) pa_nil)))
    (pss_cons (ps_set (i := 20) scLaw.nd rfl (Or.inl rfl) (pe_bm PySem.F.plainAttrs_list PySem.F.slot_list_index PySem.F.type_list_index mt_index (pe_meth0 (pv 19) TBx.cl mEn GEn r1 bEn .nil pass0) (pa_cons (pe_ix ix_list (pv 4) (pv 8) (fun _ _ => rfl)) pa_nil)))
    (pss_cons (ps_if (pt_cmpR (op_eqD hu) (pe_ix ix_list (pe_ix ix_list (pe_meth0 (pv 19) TBx.cl mMx GMx r1 bMx .nil pass0) (pv 20) (fun _ _ => rfl)) (pv 20) (fun _ _ => rfl)) (pe_tup (pa_cons pe_int (pa_cons pe_int pa_nil))) (nomark _)) (pss_one (ps_ret pe_bl)) pss_nil)
    (pss_cons (ps_set (i := 19) scLaw.nd rfl (Or.inl rfl) (pe_meth (pv 19) TBx.cl mTk GTc r6 bTk .nil pass0 (pa_cons (pe_ix ix_list (pv 4) (pv 8) (fun _ _ => rfl)) pa_nil)))
    (pss_cons (ps_set (i := 21) scLaw.nd rfl (Or.inl rfl) (pe_cmpR (op_eqD hu) (pe_tup (pa_cons (pe_meth0 (pv 18) TBx.cl mEn GEn r1 bEn .nil pass0) (pa_cons (pe_meth0 (pv 18) TBx.cl mMx GMx r1 bMx .nil pass0) (pa_cons (pe_meth0 (pv 18) TBx.cl mCo GCo r1 bCo .nil pass0) pa_nil)))) (pe_tup (pa_cons (pe_meth0 (pv 19) TBx.cl mEn GEn r1 bEn .nil pass0) (pa_cons (pe_meth0 (pv 19) TBx.cl mMx GMx r1 bMx .nil pass0) (pa_cons (pe_meth0 (pv 19) TBx.cl mCo GCo r1 bCo .nil pass0) pa_nil)))) (nomark _)))
    (pss_one (ps_ret (pe_and (pv 21) (pe_one (pe_call G6 hr rfl m6 k6 b6 .nil pass0 (pa_cons (pv 14) (pa_cons (pv 12) (pa_cons (pv 11) (pa_cons (pv 13) pa_nil))))))))))))))))))))))))))))))))), ?_⟩
  rw [t7e]
  -- far, many
  refine ⟨_, rfl, a, ns, 0, 0, rfl, rfl, hS, h63, by omega, fun v0 H1 s1 => ⟨_, _, rfl, rfl, ⟨by decide, by decide⟩, _, _, rfl, rfl, (show (0 : Int) < 3 by decide), rfl, ?_⟩⟩
  obtain ⟨fr, hfr⟩ : ∃ fr : Bool, decide (V.int (v0 / 5 % 3) = V.int 1) = fr := ⟨_, rfl⟩
  show tSeq _ _ _ [some (.ref a), some (.bl (decide (V.int (v0 / 5 % 3) = V.int 1))), none, none, none, none, none, none, none, none, none, none, none, none, none, none, none, none, none, none, none, none] H1
  rw [hfr]
  clear hfr
  refine ⟨_, rfl, a, ns, 0, 0, rfl, rfl, s1.seq hS, h63, by omega, fun v1 H2 s2 => ⟨by show 2 ≤ sizeLine; decide, fun l1 hl1 => ?_⟩⟩
  have s3 := same_new hl1 (.lst [.int 5, .int 2])
  have e3 : upd H2 l1 (.lst [.int 5, .int 2]) l1 = some (.lst [.int 5, .int 2]) := upd_same
  generalize upd H2 l1 (.lst [.int 5, .int 2]) = H3 at s3 e3 ⊢
  obtain ⟨k6, ek, ek6⟩ := at52 fr
  have k61 : 2 ≤ k6 ∧ k6 ≤ 5 := by rw [ek6]; cases fr <;> decide
  refine ⟨_, rfl, .inr ⟨fr, rfl, l1, _, _, _, rfl, rfl, SqL.of e3, ek, _, _, rfl, rfl, by omega, _, _, rfl, rfl, ?_⟩⟩
  have f0 := Int.emod_nonneg v1 (show k6 ≠ 0 by omega)
  have f9 := Int.emod_lt_of_pos v1 (show 0 < k6 by omega)
  obtain ⟨m, hm⟩ : ∃ m : Nat, 2 + v1 % k6 = (m : Int) := ⟨(2 + v1 % k6).toNat, by omega⟩
  show tSeq _ _ _ [some (.ref a), some (.bl fr), some (.int (2 + v1 % k6)), none, none, none, none, none, none, none, none, none, none, none, none, none, none, none, none, none, none, none] H3
  rw [hm]
  have hm2 : 2 ≤ m := by omega
  have hm6 : m ≤ 6 := by omega
  have hm3 : fr = true → m ≤ 3 := fun z => by rw [z] at ek6; simp at ek6; omega
  clear f0 f9 hm ek ek6 k61
  have s03 := s1.trans (s2.trans s3)
  refine ⟨_, rfl, _, rfl, _, rfl, a, ns, m, fr, rfl, s03.seq hS, h63, hm2, hm6, hm3, fun r es X cs H4 s4 KN DR => ?_⟩
  have s04 := s03.trans s4
  clear s1 s2 s3 e3 s03
  obtain ⟨p, l, c, us, zc, hT, hp, hl, LX, hc, FC⟩ := KN.e
  have TO := DR.ok
  have le := TO.le
  have lX := TO.lX
  have lc := TO.lc
  have e32 : ∀ e ∈ es, e.natAbs < 32 := fun e he => by have := DR.es.lo e he; omega
  refine ⟨_, rfl, r, _, rfl, hT, rfl, _, _, rfl, _, _, rfl, _, _, rfl, rfl, ?_⟩
  show tSeq _ _ _ [some (.ref a), some (.bl fr), some (.int (m : Int)), some (.ref r), some (.ref p), some (.ref l), some (.ref c), none, none, none, none, none, none, none, none, none, none, none, none, none, none, none] H4
  -- the table
  refine ⟨_, rfl, p, _, rfl, .inl (SqL.of hp), fun p2 hp2 => ?_⟩
  have s5 := same_new hp2 (.lst (es.map V.int))
  have e5 : upd H4 p2 (.lst (es.map V.int)) p2 = some (.lst (es.map V.int)) := upd_same
  generalize upd H4 p2 (.lst (es.map V.int)) = H5 at s5 e5 ⊢
  refine ⟨_, rfl, l, rfl, ⟨_, SqL.of (s5 _ _ hl)⟩, fun D hD => ?_⟩
  have hL0 := (LX.same s5).lns
  have sD := same_new hD (.lst [])
  refine comp_list (xs := us) (fun i zs H' => Same H5 H' ∧ H' D = some (.lst zs) ∧ LnH K H' zs (X.take i) ∧ ∀ x ∈ zs, x ≠ .ref D) ⟨sD, upd_same, by rw [List.take_zero]; exact .nil, fun x hx => by cases hx⟩ (fun i zs H' h => h.2.1) (fun i zs H' _ h => h.1.seq (SqL.of (s5 _ _ hl))) ?_ ?_
  · rintro i zs x H2 hx ⟨s2, e2, G2, n2⟩ C' hC'
    have hi : i < X.length := by have := (List.getElem?_eq_some_iff.mp hx).1; have := hL0.l; omega
    have hc : X[i]? = some X[i] := List.getElem?_eq_getElem hi
    obtain ⟨ra, rx, rfl, era, Sra⟩ := (hL0.same s2).r i x _ hx hc
    have lz := G2.l
    rw [List.length_take] at lz
    refine ⟨keep1.1, keep1.2, iteT ?_⟩
    refine ⟨_, rfl, ra, rx, rfl, .inl era, fun L hL => ?_⟩
    have sL := same_new hL (.lst rx)
    have eL : upd H2 L (.lst rx) L = some (.lst rx) := upd_same
    generalize upd H2 L (.lst rx) = H3' at sL eL ⊢
    have e23 := sL _ _ e2
    have nLK : L ≠ D := Ne.symm (ne_of_none e2 hL)
    refine ⟨e23, small1000 (by omega), hC' _ _ ⟨(s2.trans sL).change hD, upd_same, ?_, fun y hy => ?_⟩⟩
    · rw [List.take_add_one, hc]
      refine ((G2.same sL).snoc eL (Sra.same sL)).upd e23 fun y hy => ?_
      rcases List.mem_append.mp hy with z | z
      · exact n2 y z
      · have : y = .ref L := by simpa using z
        rw [this]; exact fun z => nLK (by injection z)
    · rcases List.mem_append.mp hy with z | z
      · exact n2 y z
      · have : y = .ref L := by simpa using z
        rw [this]; exact fun z => nLK (by injection z)
  rintro zm H6 ⟨s6, e6, G6, _⟩
  rw [hL0.l, List.take_length] at G6
  clear hL0 sD
  refine ⟨_, rfl, c, zc, rfl, .inl (SqL.of ((s5.trans s6) _ _ hc)), fun c2 hc2 => ?_⟩
  have s7 := same_new hc2 (.lst zc)
  have ec2 : upd H6 c2 (.lst zc) c2 = some (.lst zc) := upd_same
  generalize upd H6 c2 (.lst zc) = H7 at s7 ec2 ⊢
  intro tb dx htb hdx ndx
  have sN : Same H7 (upd (upd H7 dx (.own tb)) tb (.ins CT dx [])) := seq_make (K := K) htb hdx ndx
  have s47 := s5.trans (s6.trans s7)
  refine ⟨tb, dx, p2, D, c2, es, zm, zc, X, cs, rfl, upd_same, sN.seq (SqL.of ((s6.trans s7) _ _ e5)), sN.seq (SqL.of (s7 _ _ e6)), (G6.lns.same s7).same sN, by have := G6.l; omega, sN.seq (SqL.of ec2), (FC.same s47).same sN, fun H8 s8' TA => ⟨rfl, ?_⟩⟩
  have s8 := same_make htb hdx ndx s8'
  have s48 := s47.trans s8
  have s08 := s04.trans s48
  clear s8' sN htb hdx ndx dx ec2 s7 hc2 s6 e6 G6 s5 e5 hp2 s47 s8 hD
  show tSeq _ _ _ [some (.ref a), some (.bl fr), some (.int (m : Int)), some (.ref r), some (.ref p), some (.ref l), some (.ref c), some (.ref tb), none, none, none, none, none, none, none, none, none, none, none, none, none, none] H8
  -- at
  refine ⟨_, rfl, a, ns, 1, 1, rfl, rfl, s08.seq hS, h63, by omega, fun v2 H9 s9 => ⟨_, rfl, _, _, rfl, rfl, by omega, ?_⟩⟩
  have a1 := Int.fmod_nonneg_of_pos v2 (show (0 : Int) < (m : Int) by omega)
  have a2 := Int.fmod_lt_of_pos v2 (show (0 : Int) < (m : Int) by omega)
  obtain ⟨k, hk'⟩ : ∃ k : Nat, v2.fmod (m : Int) = (k : Int) := ⟨(v2.fmod (m : Int)).toNat, by omega⟩
  have hk : k < m := by omega
  clear a1 a2
  show tSeq _ _ _ [some (.ref a), some (.bl fr), some (.int (m : Int)), some (.ref r), some (.ref p), some (.ref l), some (.ref c), some (.ref tb), some (.int (v2.fmod (m : Int))), none, none, none, none, none, none, none, none, none, none, none, none, none] H9
  rw [hk']
  clear hk'
  have s49 := s48.trans s9
  have s09 := s04.trans s49
  -- none
  refine ⟨(20 : Int), rfl, by omega, by omega, fun D2 hD2 => ?_⟩
  have sD2 := same_new hD2 (.lst [])
  refine comp_range (n := 20) (fun i zs H' => Same H9 H' ∧ H' D2 = some (.lst zs) ∧ zs = (ntL es i).map V.int) ⟨sD2, upd_same, rfl⟩ (fun i zs H' h => h.2.1) ?_ ?_
  · rintro i zs HA hi ⟨sA, eA, ez⟩ C hC
    have lz : zs.length ≤ 20 := by rw [ez, List.length_map]; have := ntL_len es i; omega
    rw [Int.zero_add]
    refine ⟨keep1.1, keep1.2, _, rfl, _, rfl, p, _, rfl, .inl (SqL.of ((s49.trans sA) _ _ hp)), rfl, flat_ints _, ?_⟩
    rw [inV_ints]
    refine ⟨_, rfl, ?_⟩
    by_cases c : (i : Int) ∈ es
    · refine L2.ifF (by simp [c]) ?_
      exact hC _ _ ⟨sA, eA, by rw [ez, ntL_in c]⟩
    · refine L2.ifT (by simp [c]) ?_
      refine ⟨_, rfl, eA, small1000 (by omega), hC _ _ ⟨sA.change hD2, upd_same, ?_⟩⟩
      rw [ez, ntL_out c, List.map_append]; rfl
  rintro zs2 HA ⟨sA, eA, rfl⟩
  have s4A := s49.trans sA
  have s0A := s04.trans s4A
  refine ⟨_, rfl, a, ns, 2, 2, rfl, rfl, s0A.seq hS, h63, by omega, fun v3 HB sB => ⟨_, _, rfl, rfl, (show (0 : Int) < 14 by decide), ?_⟩⟩
  have a1 := em_lo v3 (show (0 : Int) < 14 by decide)
  have a2 := em_hi v3 (show (0 : Int) < 14 by decide)
  obtain ⟨j, hj⟩ : ∃ j : Nat, v3 % 14 = (j : Int) := ⟨(v3 % 14).toNat, by omega⟩
  have h14 := ntL_20 (es := es) (by omega)
  have hjn : j < (ntL es 20).length := by omega
  have hnv : (ntL es 20).getD j 0 ∉ es := ntL_no (List.mem_of_getElem? (es_get hjn))
  refine ⟨D2, _, _, _, rfl, rfl, SqL.of (sB _ _ eA), (by rw [hj]; exact atI_nat (map_get hjn)), ?_⟩
  generalize (ntL es 20).getD j 0 = nv at hnv
  clear a1 a2 hj h14 hjn eA hD2 sD2
  have s4B := s4A.trans sB
  have s8B := s9.trans (sA.trans sB)
  have s0B := s04.trans s4B
  show tSeq _ _ _ [some (.ref a), some (.bl fr), some (.int (m : Int)), some (.ref r), some (.ref p), some (.ref l), some (.ref c), some (.ref tb), some (.int (k : Int)), some (.int nv), none, none, none, none, none, none, none, none, none, none, none, none] HB
  -- what is no end
  refine ⟨_, rfl, rfl, rfl, rfl, rfl, by show 2 ≤ sizeLine; decide, fun tt htt => ?_⟩
  have sC := same_new htt (.tup [.int 0, .int 1])
  have eC : upd HB tt (.tup [.int 0, .int 1]) tt = some (.tup [.int 0, .int 1]) := upd_same
  generalize upd HB tt (.tup [.int 0, .int 1]) = HC at sC eC ⊢
  refine ⟨rfl, rfl, rfl, by show 8 ≤ sizeLine; decide, fun lw hlw => ?_⟩
  have sD := same_new hlw (.lst [.int nv, .int 20, .int (-1), .non, .ref tt, .bl true, .bl false, .str "1"])
  have eD : upd HC lw (.lst [.int nv, .int 20, .int (-1), .non, .ref tt, .bl true, .bl false, .str "1"]) lw = some (.lst [.int nv, .int 20, .int (-1), .non, .ref tt, .bl true, .bl false, .str "1"]) := upd_same
  generalize upd HC lw (.lst [.int nv, .int 20, .int (-1), .non, .ref tt, .bl true, .bl false, .str "1"]) = HD at sD eD ⊢
  have TAD := TA.same (s8B.trans (sC.trans sD))
  have eC' := sD _ _ eC
  have s4D := s4B.trans (sC.trans sD)
  refine ⟨lw, rfl, ⟨_, SqL.of eD⟩, ?_⟩
  refine for_list (xs := [V.int nv, .int 20, .int (-1), .non, .ref tt, .bl true, .bl false, .str "1"]) (fun i σ H' => Same HD H' ∧ ∃ z, σ = [some (.ref a), some (.bl fr), some (.int (m : Int)), some (.ref r), some (.ref p), some (.ref l), some (.ref c), some (.ref tb), some (.int (k : Int)), some (.int nv), z, none, none, none, none, none, none, none, none, none, none, none]) ⟨Same.refl _, none, rfl⟩ (fun i σ H' _ h => h.1.seq (SqL.of eD)) ?_ ?_
  · rintro i x σ HE hx ⟨sE, z, rfl⟩
    have hw := wr8 (K := K) DR.es hnv (sE _ _ eC') (List.mem_of_getElem? hx)
    refine ⟨_, rfl, _, rfl, tb, x, es, X, cs, nB fr, m, rfl, TAD.same sE, TO, e32, .inl ⟨hw, fun HF sF => ?_⟩⟩
    dsimp only [tC]
    change rDat _ _ _ _ _ _
    exact rd_np (neg := true) ⟨_, rfl, iteF ⟨sE.trans sF, _, rfl⟩⟩
  rintro σ HE ⟨sE, z, rfl⟩
  have s4E := s4D.trans sE
  have TE := TAD.same sE
  have s0E := s04.trans s4E
  clear TAD eC' eD eC s4D sD sC s4B s8B s0B s4A s0A s49 s09 s48 s08
  -- the own number
  obtain ⟨u, xs, eu, hu', fu⟩ := (LX.same s4E).at (Mq.getL (show k < X.length by omega))
  obtain ⟨rl, rb⟩ := TO.lb hk
  obtain ⟨v, ev, fv⟩ := fu.at (Mq.getQ1 (show k < (X.getD k []).length by omega))
  replace fv : Fq K HE v (Mq.ix2 X k k) := fv
  have gk : (es.map V.int)[k]? = some (.int (es.getD k 0)) := map_get (l := es) (i := k) (by omega)
  refine ⟨_, rfl, _, rfl, l, us, _, _, rfl, rfl, SqL.of (s4E _ _ hl), atI_nat eu, _, rfl, u, xs, _, _, rfl, rfl, SqL.of hu', atI_nat ev, v, _, _, _, rfl, rfl, fv, rfl, rfl, _, rfl, ?_⟩
  by_cases hz : (Mq.ix2 X k k).1 = 0
  · refine L2.ifT (by rw [hz]; rfl) ?_
    refine ⟨_, rfl, _, rfl, _, rfl, p, _, _, _, rfl, rfl, SqL.of (s4E _ _ hp), atI_nat gk, tb, _, es, X, cs, nB fr, m, rfl, TE, TO, e32, .inr ⟨k, rfl, hk, hm2, hz, fun lq HF sF eF => ?_⟩⟩
    refine ⟨_, rfl, _, rfl, p, _, _, _, rfl, rfl, SqL.of ((s4E.trans sF) _ _ hp), atI_nat gk, (by show 1 ≤ sizeLine; decide), fun L hL => ?_⟩
    have sG := same_new hL (.lst [.int (es.getD k 0)])
    have eG : upd HF L (.lst [.int (es.getD k 0)]) L = some (.lst [.int (es.getD k 0)]) := upd_same
    generalize upd HF L (.lst [.int (es.getD k 0)]) = HG at sG eG ⊢
    refine rd_eqI (neg := false) (ns := [es.getD k 0]) (SqL.of (sG _ _ eF)) (SqL.of eG) ⟨_, rfl, iteT ?_⟩
    have TG := TE.same (sF.trans sG)
    obtain ⟨dx, _, _, _, _, _, ht, _⟩ := TG.e
    refine ⟨_, rfl, tb, dx, _, rfl, ht, tflds_no _ _ _ (by decide +kernel) (by decide +kernel) (by decide +kernel), tb, es, X, cs, rfl, TG, by omega, fun aM uM HI sI eI LI => ⟨_, rfl, ?_⟩⟩
    have s4I := s4E.trans (sF.trans (sG.trans sI))
    exact rd_eqM (neg := false) (SqL.of eI) (SqL.of (s4I _ _ hl)) LI.lns (LX.same s4I).lns (q _)
  refine L2.ifF (by rw [decide_eq_false (fun z => hz (by injection z))]) ?_
  clear ev fv eu hu' fu v u xs
  -- heights
  refine ⟨_, rfl, _, _, rfl, rfl, _, rfl, by omega, by omega, fun D3 hD3 => ?_⟩
  rw [show ((m : Int) - 1).toNat = m - 1 by omega]
  have sD3 := same_new hD3 (.lst [])
  refine comp_range (n := m - 1) (fun i zs H' => Same HE H' ∧ H' D3 = some (.lst zs) ∧ ∃ hs : List Mq.Q2, Fqs K H' zs hs ∧ hs.length = i ∧ LB 30 hs) ⟨sD3, upd_same, [], .nil, rfl, ⟨fun p h => by cases h⟩⟩ (fun i zs H' h => h.2.1) ?_ ?_
  · rintro i zs HF hi ⟨sF, eF, hs, FF, lh, LH⟩ C hC
    refine ⟨keep1.1, keep1.2, iteT ?_⟩
    refine ⟨_, rfl, _, rfl, _, _, rfl, rfl, a, ns, _, 30 + i, rfl, by omega, (s0E.trans sF).seq hS, h63, by omega, fun v HG sG => ?_⟩
    refine ⟨_, rfl, v, fr, rfl, fun p lp bp u HI sI eI => ?_⟩
    have sFI := sG.trans sI
    have eFI := sFI _ _ eF
    have lz := FF.length
    refine ⟨eFI, small1000 (by omega), hC _ _ ⟨(sF.trans sFI).change hD3, upd_same, hs ++ [p], ?_, by rw [List.length_append, lh]; rfl, LH.snoc lp (bp.mono (by cases fr <;> decide))⟩⟩
    exact ((FF.same sFI).app (.cons (Fq.of eI) .nil)).upd eFI
  rintro ys HF ⟨sF, eF, hs, FF, lh, LH⟩
  have s4F := s4E.trans sF
  show tSeq _ _ _ [some (.ref a), some (.bl fr), some (.int (m : Int)), some (.ref r), some (.ref p), some (.ref l), some (.ref c), some (.ref tb), some (.int (k : Int)), some (.int nv), z, some (.ref D3), none, none, none, none, none, none, none, none, none, none] HF
  have nb63 : nB fr ≤ 63 := by cases fr <;> decide
  have W : Wi k m es X cs hs := ⟨TO.mono nb63, hk, hm2, by have := DR.g k hk; omega, LH, lh⟩
  refine ⟨_, rfl, _, rfl, _, rfl, r, D3, k, m, _, es, X, cs, hs, ys, rfl, rfl, KN.same s4F, W, eF, FF, fun tw el ed zd HG sG hTw hel hed FD => ?_⟩
  refine ⟨tw, _, rfl, hTw, rfl, _, _, rfl, _, _, rfl, rfl, ?_⟩
  have s4G := s4F.trans sG
  have TG := TE.same (sF.trans sG)
  show tSeq _ _ _ [some (.ref a), some (.bl fr), some (.int (m : Int)), some (.ref r), some (.ref p), some (.ref l), some (.ref c), some (.ref tb), some (.int (k : Int)), some (.int nv), z, some (.ref D3), some (.ref el), some (.ref ed), none, none, none, none, none, none, none, none] HG
  clear hTw
  -- found
  have b1 : 10 + nB fr + nB fr * (m + 1) ≤ 4400 := by
    cases fr
    · show 10 + 26 + 26 * (m + 1) ≤ 4400; omega
    · have := hm3 rfl
      show 10 + 63 + 63 * (m + 1) ≤ 4400; omega
  have bN : nB fr + (1 + nB fr * (m + 1)) + (nB fr + (1 + nB fr * (m + 1))) + 1 ≤ N1 fr := by
    cases fr
    · show 26 + (1 + 26 * (m + 1)) + (26 + (1 + 26 * (m + 1))) + 1 ≤ 419; omega
    · have := hm3 rfl
      show 63 + (1 + 63 * (m + 1)) + (63 + (1 + 63 * (m + 1))) + 1 ≤ 633; omega
  have b2 : 10 + N1 fr + N1 fr * (m - 1 + 1) ≤ 4400 := by
    cases fr
    · show 10 + 419 + 419 * (m - 1 + 1) ≤ 4400; omega
    · have := hm3 rfl
      show 10 + 633 + 633 * (m - 1 + 1) ≤ 4400; omega
  have n700 : N1 fr ≤ 700 := by cases fr <;> decide
  obtain ⟨TO1', TK1⟩ := TO.taken hk hz b1
  have TO1 := TO1'.mono bN
  have e32a : ∀ e ∈ es.eraseIdx k, e.natAbs < 32 := fun e he => e32 e (List.mem_of_mem_eraseIdx he)
  have lE : (es.eraseIdx k).length = m - 1 := TO1.le
  have br := W.same TO1 TK1
  obtain ⟨dx, _, _, _, _, _, ht, _⟩ := TG.e
  refine ⟨_, rfl, tb, dx, _, rfl, ht, tflds_no _ _ _ (by decide +kernel) (by decide +kernel) (by decide +kernel), _, rfl, _, rfl, p, _, _, _, rfl, rfl, SqL.of (s4G _ _ hp), atI_nat gk, tb, _, es, X, cs, nB fr, m, rfl, TG, TO, e32, .inr ⟨k, rfl, hk, hm2, .inr ⟨hz, b1, fun fo HH sH TF => ?_⟩⟩⟩
  show tSeq _ _ _ [some (.ref a), some (.bl fr), some (.int (m : Int)), some (.ref r), some (.ref p), some (.ref l), some (.ref c), some (.ref tb), some (.int (k : Int)), some (.int nv), z, some (.ref D3), some (.ref el), some (.ref ed), some (.ref fo), none, none, none, none, none, none, none] HH
  have s4H := s4G.trans sH
  have TH := TG.same sH
  have KH := KN.same s4H
  have helH := sH _ _ hel
  have hedH := sH _ _ hed
  have FDH := FD.same sH
  have eFH := (sG.trans sH) _ _ eF
  have FFH := FF.same (sG.trans sH)
  have s0H := s04.trans s4H
  rw [← br] at FDH
  generalize tkX : Mq.tkX k m X cs = X1 at *
  generalize tkC : Mq.tkC k m X cs = c1 at *
  -- alike
  refine ⟨_, rfl, _, rfl, _, rfl, _, rfl, fo, el, D3, ed, es.eraseIdx k, X1, c1, hs, ys, zd, N1 fr, m - 1, rfl, TF, TO1, n700, helH, eFH, FFH, LH, lh, hedH, FDH, fun HI sI => ⟨_, rfl, iteF ?_⟩⟩
  have TI := TH.same sI
  obtain ⟨dx, _, _, _, _, _, ht, _⟩ := TI.e
  refine ⟨_, rfl, tb, dx, _, rfl, ht, tflds_no _ _ _ (by decide +kernel) (by decide +kernel) (by decide +kernel), tb, es, X, cs, rfl, TI, fun a1 HJ sJ n1 e1 => ?_⟩
  refine ⟨_, rfl, tb, dx, _, rfl, sJ _ _ ht, tflds_no _ _ _ (by decide +kernel) (by decide +kernel) (by decide +kernel), tb, es, X, cs, rfl, TI.same sJ, by omega, fun a2 u2 HK sK e2 L2 => ?_⟩
  refine ⟨_, rfl, tb, dx, _, rfl, (sJ.trans sK) _ _ ht, tflds_no _ _ _ (by decide +kernel) (by decide +kernel) (by decide +kernel), tb, es, X, cs, rfl, TI.same (sJ.trans sK), fun a3 y3 HL sL e3 F3 => ?_⟩
  refine ⟨by show 3 ≤ sizeLine; decide, fun t3 ht3 => ?_⟩
  have sM := same_new ht3 (.tup [.ref a1, .ref a2, .ref a3])
  have e4 : upd HL t3 (.tup [.ref a1, .ref a2, .ref a3]) t3 = some (.tup [.ref a1, .ref a2, .ref a3]) := upd_same
  generalize upd HL t3 (.tup [.ref a1, .ref a2, .ref a3]) = HM at sM e4 ⊢
  have sHM := sI.trans (sJ.trans (sK.trans (sL.trans sM)))
  obtain ⟨p', l', c', us', zc', hT', hp', hl', LX', hc', FC'⟩ := (KH.same sHM).e
  refine ⟨_, rfl, rd_eqS (neg := true) (kd_of (SqT.of e4) (SqL.of ((sK.trans (sL.trans sM)) _ _ e1)) (SqL.of ((sL.trans sM) _ _ e2)) (L2.lns.same (sL.trans sM)) (SqL.of (sM _ _ e3)) (F3.same sM)) (kd_of hT' (SqL.of hp') (SqL.of hl') LX'.lns (SqL.of hc') FC') (kd_lay es X cs) (kd_depth es X cs) ⟨_, rfl, iteF ?_⟩⟩
  have s4M := s4H.trans sHM
  have s0M := s04.trans s4M
  have TM := TH.same sHM
  have TFM := TF.same sHM
  have helM := sHM _ _ helH
  clear e4 e3 e2 e1 F3 L2 p' l' c' us' zc' hT' hp' hl' LX' hc' FC' sJ sK sL sM ht3 TI ht n1 sI
  -- two
  refine ⟨_, rfl, rfl, _, rfl, ?_⟩
  by_cases c2 : m = 2
  · refine L2.ifT (by rw [c2]; rfl) ?_
    have g0 : ((es.eraseIdx k).map V.int)[0]? = some (.int ((es.eraseIdx k).getD 0 0)) := map_get (l := es.eraseIdx k) (i := 0) (by omega)
    refine ⟨_, rfl, _, rfl, el, _, _, _, rfl, rfl, SqL.of helM, atI_nat (j := 0) g0, fo, _, es.eraseIdx k, X1, c1, N1 fr, m - 1, rfl, TFM, TO1, e32a, .inl ⟨.inr ⟨_, rfl, .inr (by omega)⟩, fun HN sN => ?_⟩⟩
    dsimp only [tC]
    change rDat _ _ _ _ _ _
    refine rd_np (neg := false) ⟨_, rfl, iteT ?_⟩
    refine ⟨_, rfl, _, rfl, _, rfl, p, _, _, _, rfl, rfl, SqL.of ((s4M.trans sN) _ _ hp), atI_nat gk, fo, _, es.eraseIdx k, X1, c1, N1 fr, m - 1, rfl, TFM.same sN, TO1, e32a, .inl ⟨.inr ⟨_, rfl, .inr (by omega)⟩, fun HO sO => ?_⟩⟩
    dsimp only [tC]
    change rDat _ _ _ _ _ _
    exact rd_np (neg := false) (q _)
  refine L2.ifF (by rw [decide_eq_false (fun z => c2 (by injection z with z; omega))]) ?_
  -- the other
  refine ⟨_, rfl, _, rfl, a, ns, 2, 2, rfl, rfl, s0M.seq hS, h63, by omega, fun v4 HN sN => ⟨_, _, rfl, rfl, ⟨by decide, by decide⟩, _, rfl, _, _, rfl, rfl, _, _, rfl, rfl, by omega, ?_⟩⟩
  have a1 := em_lo (v4 / 84) (show (0 : Int) < (m : Int) - 1 by omega)
  have a2 := em_hi (v4 / 84) (show (0 : Int) < (m : Int) - 1 by omega)
  obtain ⟨lt, hlt⟩ : ∃ lt : Nat, v4 / 84 % ((m : Int) - 1) = (lt : Int) := ⟨(v4 / 84 % ((m : Int) - 1)).toNat, by omega⟩
  have hl1 : lt < m - 1 := by omega
  have gl : ((es.eraseIdx k).map V.int)[lt]? = some (.int ((es.eraseIdx k).getD lt 0)) := map_get (l := es.eraseIdx k) (i := lt) (by omega)
  refine ⟨el, _, _, _, rfl, rfl, SqL.of (sN _ _ helM), (by rw [hlt]; exact atI_nat gl), ?_⟩
  clear a1 a2 hlt gl
  obtain ⟨k', hk2⟩ : ∃ k' : Nat, Mq.skp k lt = k' := ⟨_, rfl⟩
  have hk'm : k' < m := by rw [← hk2]; exact Mq.skp_lt hk hl1
  have eo : (es.eraseIdx k).getD lt 0 = es.getD k' 0 := by rw [List.getD_eq_getElem?_getD, es_era, hk2, ← List.getD_eq_getElem?_getD]
  have ndE := TO1.nd
  have s4N := s4M.trans sN
  have helN := sN _ _ helM
  have il : (es.eraseIdx k).idxOf (es.getD k' 0) = lt := by rw [← eo]; exact es_idx ndE (by omega)
  have ik : es.idxOf (es.getD k' 0) = k' := es_idx TO.nd (by omega)
  have mo : es.getD k' 0 ∈ es := List.mem_of_getElem? (es_get (by omega))
  have mo1 : es.getD k' 0 ∈ es.eraseIdx k := by rw [← eo]; exact List.mem_of_getElem? (es_get (by omega))
  rw [eo]
  show tSeq _ _ _ [some (.ref a), some (.bl fr), some (.int (m : Int)), some (.ref r), some (.ref p), some (.ref l), some (.ref c), some (.ref tb), some (.int (k : Int)), some (.int nv), z, some (.ref D3), some (.ref el), some (.ref ed), some (.ref fo), some (.int (es.getD k' 0)), none, none, none, none, none, none] HN
  refine ⟨_, rfl, .inl ⟨rfl, _, SqL.of (s4N _ _ hp)⟩, _, rfl, p, es, _, rfl, rfl, SqL.of (s4N _ _ hp), mo, ints_layable e32 (by omega), ?_⟩
  rw [ik]
  show tSeq _ _ _ [some (.ref a), some (.bl fr), some (.int (m : Int)), some (.ref r), some (.ref p), some (.ref l), some (.ref c), some (.ref tb), some (.int (k : Int)), some (.int nv), z, some (.ref D3), some (.ref el), some (.ref ed), some (.ref fo), some (.int (es.getD k' 0)), some (.int (k' : Int)), none, none, none, none, none] HN
  refine ⟨_, rfl, .inl ⟨rfl, _, SqL.of helN⟩, _, rfl, el, es.eraseIdx k, _, rfl, rfl, SqL.of helN, mo1, ints_layable e32a (by omega), ?_⟩
  rw [il]
  show tSeq _ _ _ [some (.ref a), some (.bl fr), some (.int (m : Int)), some (.ref r), some (.ref p), some (.ref l), some (.ref c), some (.ref tb), some (.int (k : Int)), some (.int nv), z, some (.ref D3), some (.ref el), some (.ref ed), some (.ref fo), some (.int (es.getD k' 0)), some (.int (k' : Int)), some (.int (lt : Int)), none, none, none, none] HN
  -- can both be taken away
  obtain ⟨u, xs, eu, hu', fu⟩ := (LX.same s4N).at (Mq.getL (show k' < X.length by omega))
  obtain ⟨rl', rb'⟩ := TO.lb hk'm
  obtain ⟨v, ev, fv⟩ := fu.at (Mq.getQ1 (show k' < (X.getD k' []).length by omega))
  replace fv : Fq K HN v (Mq.ix2 X k' k') := fv
  refine ⟨_, rfl, _, rfl, l, us, _, _, rfl, rfl, SqL.of (s4N _ _ hl), atI_nat eu, _, rfl, u, xs, _, _, rfl, rfl, SqL.of hu', atI_nat ev, v, _, _, _, rfl, rfl, fv, rfl, rfl, _, rfl, ?_⟩
  by_cases hz' : (Mq.ix2 X k' k').1 = 0
  · exact L2.ifT (by rw [hz']; rfl) (iteT (q _))
  refine L2.ifF (by rw [decide_eq_false (fun z => hz' (by injection z))]) ?_
  clear ev fv eu hu' fu v u xs
  have TFN := TFM.same sN
  obtain ⟨dx, _, _, _, _, _, ht, _⟩ := TFN.e
  refine ⟨_, rfl, fo, dx, _, rfl, ht, tflds_no _ _ _ (by decide +kernel) (by decide +kernel) (by decide +kernel), fo, es.eraseIdx k, X1, c1, rfl, TFN, by have := TO1.lX; omega, fun aM uM HO sO eO LO => ?_⟩
  obtain ⟨u, xs, eu, hu', fu⟩ := LO.at (Mq.getL (show lt < X1.length by have := TO1.lX; omega))
  obtain ⟨rl1, rb1⟩ := TO1.lb hl1
  obtain ⟨v, ev, fv⟩ := fu.at (Mq.getQ1 (show lt < (X1.getD lt []).length by omega))
  replace fv : Fq K HO v (Mq.ix2 X1 lt lt) := fv
  refine ⟨_, rfl, aM, uM, _, _, rfl, rfl, SqL.of eO, atI_nat eu, _, rfl, u, xs, _, _, rfl, rfl, SqL.of hu', atI_nat ev, v, _, _, _, rfl, rfl, fv, rfl, rfl, _, rfl, ?_⟩
  by_cases hz1 : (Mq.ix2 X1 lt lt).1 = 0
  · exact L2.ifT (by rw [hz1]; rfl) (q _)
  refine L2.ifF (by rw [decide_eq_false (fun z => hz1 (by injection z))]) ?_
  clear ev fv eu hu' fu v u xs eO LO ht
  have s4O := s4N.trans sO
  -- second
  have TFO := TFN.same sO
  obtain ⟨dx, _, _, _, _, _, ht, _⟩ := TFO.e
  have lt2 : 2 ≤ m - 1 := by omega
  obtain ⟨TO2, TK2⟩ := TO1.taken hl1 hz1 b2
  refine ⟨_, rfl, fo, dx, _, rfl, ht, tflds_no _ _ _ (by decide +kernel) (by decide +kernel) (by decide +kernel), _, rfl, fo, _, es.eraseIdx k, X1, c1, N1 fr, m - 1, rfl, TFO, TO1, e32a, .inr ⟨lt, by rw [eo], hl1, lt2, .inr ⟨hz1, b2, fun se HP sP TS => ?_⟩⟩⟩
  show tSeq _ _ _ [some (.ref a), some (.bl fr), some (.int (m : Int)), some (.ref r), some (.ref p), some (.ref l), some (.ref c), some (.ref tb), some (.int (k : Int)), some (.int nv), z, some (.ref D3), some (.ref el), some (.ref ed), some (.ref fo), some (.int (es.getD k' 0)), some (.int (k' : Int)), some (.int (lt : Int)), some (.ref se), none, none, none] HP
  clear ht
  -- turned
  have TP := (TM.same sN).same (sO.trans sP)
  obtain ⟨dx, _, _, _, _, _, ht, _⟩ := TP.e
  obtain ⟨TO3', TK3⟩ := TO.taken hk'm hz' b1
  have TO3 := TO3'.mono bN
  refine ⟨_, rfl, tb, dx, _, rfl, ht, tflds_no _ _ _ (by decide +kernel) (by decide +kernel) (by decide +kernel), _, rfl, tb, _, es, X, cs, nB fr, m, rfl, TP, TO, e32, .inr ⟨k', rfl, hk'm, hm2, .inr ⟨hz', b1, fun tu HQ sQ TU => ?_⟩⟩⟩
  show tSeq _ _ _ [some (.ref a), some (.bl fr), some (.int (m : Int)), some (.ref r), some (.ref p), some (.ref l), some (.ref c), some (.ref tb), some (.int (k : Int)), some (.int nv), z, some (.ref D3), some (.ref el), some (.ref ed), some (.ref fo), some (.int (es.getD k' 0)), some (.int (k' : Int)), some (.int (lt : Int)), some (.ref se), some (.ref tu), none, none] HQ
  clear ht
  have s4Q := s4O.trans (sP.trans sQ)
  have TSQ := TS.same sQ
  obtain ⟨lo, hlo, hlm⟩ : ∃ lo : Nat, Mq.skp k' lo = k ∧ lo < m - 1 := by
    have ne : k ≠ k' := fun z => by rw [← hk2] at z; exact Mq.skp_ne k lt z.symm
    by_cases d : k < k'
    · exact ⟨k, by unfold Mq.skp; rw [if_pos d], by omega⟩
    · exact ⟨k - 1, by unfold Mq.skp; rw [if_neg (by omega)]; omega, by omega⟩
  have e32b : ∀ e ∈ es.eraseIdx k', e.natAbs < 32 := fun e he => e32 e (List.mem_of_mem_eraseIdx he)
  have lE' : (es.eraseIdx k').length = m - 1 := TO3.le
  have eo' : (es.eraseIdx k').getD lo 0 = es.getD k 0 := by rw [List.getD_eq_getElem?_getD, es_era, hlo, ← List.getD_eq_getElem?_getD]
  have ndE' := TO3.nd
  have io : (es.eraseIdx k').idxOf (es.getD k 0) = lo := by rw [← eo']; exact es_idx ndE' (by omega)
  have mo3 : es.getD k 0 ∈ es.eraseIdx k' := by rw [← eo']; exact List.mem_of_getElem? (es_get (by omega))
  generalize tkX' : Mq.tkX k' m X cs = X3 at *
  generalize tkC' : Mq.tkC k' m X cs = c3 at *
  have n3 : matX X3 lo lo ≠ 0 := tw_ne hk2 hlo hl1 hlm TK1 TK3 ((Mq.low_ne0 (TO.at hk hk).1).mp hz) ((Mq.low_ne0 (TO.at hk'm hk'm).1).mp hz') ((Mq.low_ne0 (TO1.at hl1 hl1).1).mp hz1)
  have hz3 : (Mq.ix2 X3 lo lo).1 ≠ 0 := (Mq.low_ne0 (TO3.at hlm hlm).1).mpr n3
  -- own
  obtain ⟨dx, _, _, _, _, _, ht, _⟩ := TU.e
  refine ⟨_, rfl, tu, dx, _, rfl, ht, tflds_no _ _ _ (by decide +kernel) (by decide +kernel) (by decide +kernel), tu, es.eraseIdx k', X3, c3, rfl, TU, fun a1 HR sR n1 e1 => ?_⟩
  have s4R := s4Q.trans sR
  refine ⟨.inl ⟨rfl, _, SqL.of e1⟩, _, rfl, _, rfl, p, _, _, _, rfl, rfl, SqL.of (s4R _ _ hp), atI_nat gk, a1, es.eraseIdx k', _, rfl, rfl, SqL.of e1, mo3, ints_layable e32b (by omega), ?_⟩
  rw [io]
  show tSeq _ _ _ [some (.ref a), some (.bl fr), some (.int (m : Int)), some (.ref r), some (.ref p), some (.ref l), some (.ref c), some (.ref tb), some (.int (k : Int)), some (.int nv), z, some (.ref D3), some (.ref el), some (.ref ed), some (.ref fo), some (.int (es.getD k' 0)), some (.int (k' : Int)), some (.int (lt : Int)), some (.ref se), some (.ref tu), some (.int (lo : Int)), none] HR
  have TUR := TU.same sR
  refine ⟨_, rfl, tu, dx, _, rfl, sR _ _ ht, tflds_no _ _ _ (by decide +kernel) (by decide +kernel) (by decide +kernel), tu, es.eraseIdx k', X3, c3, rfl, TUR, by have := TO3.lX; omega, fun aM uM HS sS eS LS => ?_⟩
  obtain ⟨u, xs, eu, hu', fu⟩ := LS.at (Mq.getL (show lo < X3.length by have := TO3.lX; omega))
  obtain ⟨rl3, rb3⟩ := TO3.lb hlm
  obtain ⟨v, ev, fv⟩ := fu.at (Mq.getQ1 (show lo < (X3.getD lo []).length by omega))
  replace fv : Fq K HS v (Mq.ix2 X3 lo lo) := fv
  refine ⟨_, rfl, aM, uM, _, _, rfl, rfl, SqL.of eS, atI_nat eu, _, rfl, u, xs, _, _, rfl, rfl, SqL.of hu', atI_nat ev, by show 2 ≤ sizeLine; decide, fun t0 ht0 => ?_⟩
  have sT := same_new ht0 (.tup [.int 0, .int 1])
  have eT : upd HS t0 (.tup [.int 0, .int 1]) t0 = some (.tup [.int 0, .int 1]) := upd_same
  generalize upd HS t0 (.tup [.int 0, .int 1]) = HT at sT eT ⊢
  refine rd_eqF (neg := false) (sT.fq fv) (Fq.of (p := (0, 1)) eT) ⟨_, rfl, ?_⟩
  refine L2.ifF (by rw [low_01 (TO3.at hlm hlm).1, decide_eq_false hz3]; rfl) ?_
  clear ev fv eu hu' fu v u xs eS LS ht e1 n1
  have sQT := sR.trans (sS.trans sT)
  have TUT := TU.same sQT
  obtain ⟨dx, _, _, _, _, _, ht, _⟩ := TUT.e
  obtain ⟨TO4, TK4⟩ := TO3.taken hlm hz3 b2
  refine ⟨_, rfl, tu, dx, _, rfl, ht, tflds_no _ _ _ (by decide +kernel) (by decide +kernel) (by decide +kernel), _, rfl, _, rfl, p, _, _, _, rfl, rfl, SqL.of ((s4Q.trans sQT) _ _ hp), atI_nat gk, tu, _, es.eraseIdx k', X3, c3, N1 fr, m - 1, rfl, TUT, TO3, e32b, .inr ⟨lo, by rw [eo'], hlm, lt2, .inr ⟨hz3, b2, fun tv HU sU TV => ?_⟩⟩⟩
  show tSeq _ _ _ [some (.ref a), some (.bl fr), some (.int (m : Int)), some (.ref r), some (.ref p), some (.ref l), some (.ref c), some (.ref tb), some (.int (k : Int)), some (.int nv), z, some (.ref D3), some (.ref el), some (.ref ed), some (.ref fo), some (.int (es.getD k' 0)), some (.int (k' : Int)), some (.int (lt : Int)), some (.ref se), some (.ref tv), some (.int (lo : Int)), none] HU
  obtain ⟨ex, ec⟩ := Taken.two (n1 := 0) (n3 := 0) (es1 := []) (es3 := []) hk2 hlo hk hk'm hl1 hlm TO TO2 TO4 TK1 TK2 TK3 TK4 ((Mq.low_ne0 (TO.at hk hk).1).mp hz) ((Mq.low_ne0 (TO.at hk'm hk'm).1).mp hz') ((Mq.low_ne0 (TO1.at hl1 hl1).1).mp hz1) n3
  have ee := es_two (es := es) hk2 hlo
  rw [← ex, ← ec, ← ee] at TV
  have TSU := TSQ.same (sQT.trans sU)
  generalize Mq.tkX lt (m - 1) X1 c1 = X2 at *
  generalize Mq.tkC lt (m - 1) X1 c1 = c2' at *
  generalize (es.eraseIdx k).eraseIdx lt = es2 at *
  clear ht
  have lX2 := TO2.lX
  obtain ⟨dx, _, _, _, _, _, ht, _⟩ := TSU.e
  obtain ⟨dy, _, _, _, _, _, hy, _⟩ := TV.e
  refine ⟨_, rfl, se, dx, _, rfl, ht, tflds_no _ _ _ (by decide +kernel) (by decide +kernel) (by decide +kernel), se, es2, X2, c2', rfl, TSU, fun a1 HV sV n1 e1 => ?_⟩
  refine ⟨_, rfl, se, dx, _, rfl, sV _ _ ht, tflds_no _ _ _ (by decide +kernel) (by decide +kernel) (by decide +kernel), se, es2, X2, c2', rfl, TSU.same sV, by omega, fun a2 u2 HW sW e2 L2 => ?_⟩
  refine ⟨_, rfl, se, dx, _, rfl, (sV.trans sW) _ _ ht, tflds_no _ _ _ (by decide +kernel) (by decide +kernel) (by decide +kernel), se, es2, X2, c2', rfl, TSU.same (sV.trans sW), fun a3 y3 HX sX e3 F3 => ?_⟩
  refine ⟨by show 3 ≤ sizeLine; decide, fun t3 ht3 => ?_⟩
  have sY := same_new ht3 (.tup [.ref a1, .ref a2, .ref a3])
  have e4 : upd HX t3 (.tup [.ref a1, .ref a2, .ref a3]) t3 = some (.tup [.ref a1, .ref a2, .ref a3]) := upd_same
  generalize upd HX t3 (.tup [.ref a1, .ref a2, .ref a3]) = HY at sY e4 ⊢
  have sUY := sV.trans (sW.trans (sX.trans sY))
  have d1 := kd_of (SqT.of e4) (SqL.of ((sW.trans (sX.trans sY)) _ _ e1)) (SqL.of ((sX.trans sY) _ _ e2)) (L2.lns.same (sX.trans sY)) (SqL.of (sY _ _ e3)) (F3.same sY)
  have TVY := TV.same sUY
  have hyY := sUY _ _ hy
  refine ⟨_, rfl, tv, dy, _, rfl, hyY, tflds_no _ _ _ (by decide +kernel) (by decide +kernel) (by decide +kernel), tv, es2, X2, c2', rfl, TVY, fun b1 HV2 sV2 m1 f1 => ?_⟩
  refine ⟨_, rfl, tv, dy, _, rfl, sV2 _ _ hyY, tflds_no _ _ _ (by decide +kernel) (by decide +kernel) (by decide +kernel), tv, es2, X2, c2', rfl, TVY.same sV2, by omega, fun b2 w2 HW2 sW2 f2 M2 => ?_⟩
  refine ⟨_, rfl, tv, dy, _, rfl, (sV2.trans sW2) _ _ hyY, tflds_no _ _ _ (by decide +kernel) (by decide +kernel) (by decide +kernel), tv, es2, X2, c2', rfl, TVY.same (sV2.trans sW2), fun b3 z3 HX2 sX2 f3 G3 => ?_⟩
  refine ⟨by show 3 ≤ sizeLine; decide, fun t4 ht4 => ?_⟩
  have sZ := same_new ht4 (.tup [.ref b1, .ref b2, .ref b3])
  have f4 : upd HX2 t4 (.tup [.ref b1, .ref b2, .ref b3]) t4 = some (.tup [.ref b1, .ref b2, .ref b3]) := upd_same
  generalize upd HX2 t4 (.tup [.ref b1, .ref b2, .ref b3]) = HZ at sZ f4 ⊢
  have sYZ := sV2.trans (sW2.trans (sX2.trans sZ))
  have d2 := kd_of (SqT.of f4) (SqL.of ((sW2.trans (sX2.trans sZ)) _ _ f1)) (SqL.of ((sX2.trans sZ) _ _ f2)) (M2.lns.same (sX2.trans sZ)) (SqL.of (sZ _ _ f3)) (G3.same sZ)
  have d1Z := kd_of (sYZ.seqT (SqT.of e4)) (sYZ.seq (SqL.of ((sW.trans (sX.trans sY)) _ _ e1))) (sYZ.seq (SqL.of ((sX.trans sY) _ _ e2))) ((L2.lns.same (sX.trans sY)).same sYZ) (sYZ.seq (SqL.of (sY _ _ e3))) ((F3.same sY).same sYZ)
  refine rd_eqS (neg := false) d1Z d2 (kd_lay _ _ _) (kd_depth _ _ _) ?_
  have sMZ := sN.trans ((sO.trans sP).trans (sQ.trans ((sQT.trans sU).trans (sUY.trans sYZ))))
  have sHZ := sHM.trans sMZ
  refine ⟨_, rfl, _, rfl, iteT ?_⟩
  exact ⟨_, rfl, _, rfl, _, rfl, _, rfl, fo, el, D3, ed, es.eraseIdx k, X1, c1, hs, ys, zd, N1 fr, m - 1, rfl, TF.same sHZ, TO1, n700, sHZ _ _ helH, sHZ _ _ eFH, FFH.same sHZ, LH, lh, sHZ _ _ hedH, FDH.same sHZ, fun HI sI => q _⟩
end
end K55

set_option Elab.async false
set_option linter.all false
namespace L2
open PySem PySem.W
theorem walkX_of {q : Program} {loose : List Str} {XP : (Str → Option Value) → Heap → Prop} {K : Params → PySem.W.Frag} {bs : List Addr} {n t : Nat} {r : RowW} {d : DefRec} {kwd : List (Str × Expr)} {run : Value → List Value → Sem Value}
    (e : ∀ P, bs = (K P).map (·.1)) (h : WalkO q loose XP (fun w h => (K w.params).In h) r d kwd run) : WalkX q loose XP (PySem.W.X.obsZ bs) (PySem.W.X.valZ K n t) r d kwd run :=
  fun w s₀ s₁ mg mb G y a o pm cd doc dV kV h1 h2 h3 h4 h5 h6 args vals as' L => h w s₀ s₁ mg mb G (InK.keeps w _ _ (PySem.W.X.z_facts e y).2.1 L.keeps) a o pm cd doc dV kV h1 h2 h3 h4 h5 h6 args vals as'
end L2

set_option Elab.async false
set_option linter.all false
set_option maxRecDepth 100000
set_option maxHeartbeats 4000000
namespace K55
open PySem L2 Shp
theorem all_mk {l : PySem.W.OpenLaw} {w : World} {K : PySem.W.Frag} {h : Heap} {mg : Str → Option Value} {fa : Addr} (X : K.In h) (G : h.Ns mainGlobals mg) (hfa : mg "law" = some (.ref fa))
    {c_Floats : Addr}
    {c_OhmError : Addr}
    {c_NoPoint : Addr}
    {c_Table : Addr}
    {f1 : Addr} {od1 an1 : Option Addr} {sl1 : Array (Option Value)} {oc1 kV1 dc1 pm1 cd1 ct1 : Value}
    {f2 : Addr} {od2 an2 : Option Addr} {sl2 : Array (Option Value)} {oc2 kV2 dc2 pm2 cd2 ct2 : Value}
    {f3 : Addr} {od3 an3 : Option Addr} {sl3 : Array (Option Value)} {oc3 kV3 dc3 pm3 cd3 ct3 : Value}
    {f4 : Addr} {od4 an4 : Option Addr} {sl4 : Array (Option Value)} {oc4 kV4 dc4 pm4 cd4 ct4 : Value}
    {T4 : Addr} {oT4 : Value} {dT4 : Option Addr} {nT4 : Nat} {sT4 : Array (Option Value)} {tk4 : Tok}
    {f5 : Addr} {od5 an5 : Option Addr} {sl5 : Array (Option Value)} {oc5 kV5 dc5 pm5 cd5 ct5 : Value}
    {f6 : Addr} {od6 an6 : Option Addr} {sl6 : Array (Option Value)} {oc6 kV6 dc6 pm6 cd6 ct6 : Value}
    {f7 : Addr} {od7 an7 : Option Addr} {sl7 : Array (Option Value)} {oc7 kV7 dc7 pm7 cd7 ct7 : Value}
    {f8 : Addr} {od8 an8 : Option Addr} {sl8 : Array (Option Value)} {oc8 kV8 dc8 pm8 cd8 ct8 : Value}
    {f9 : Addr} {od9 an9 : Option Addr} {sl9 : Array (Option Value)} {oc9 kV9 dc9 pm9 cd9 ct9 : Value}
    {f10 : Addr} {od10 an10 : Option Addr} {sl10 : Array (Option Value)} {oc10 kV10 dc10 pm10 cd10 ct10 : Value}
    {f11 : Addr} {od11 an11 : Option Addr} {sl11 : Array (Option Value)} {oc11 kV11 dc11 pm11 cd11 ct11 : Value}
    {f12 : Addr} {od12 an12 : Option Addr} {sl12 : Array (Option Value)} {oc12 kV12 dc12 pm12 cd12 ct12 : Value}
    {f13 : Addr} {od13 an13 : Option Addr} {sl13 : Array (Option Value)} {oc13 kV13 dc13 pm13 cd13 ct13 : Value}
    {f14 : Addr} {od14 an14 : Option Addr} {sl14 : Array (Option Value)} {oc14 kV14 dc14 pm14 cd14 ct14 : Value}
    {f15 : Addr} {od15 an15 : Option Addr} {sl15 : Array (Option Value)} {oc15 kV15 dc15 pm15 cd15 ct15 : Value}
    {f16 : Addr} {od16 an16 : Option Addr} {sl16 : Array (Option Value)} {oc16 kV16 dc16 pm16 cd16 ct16 : Value}
    {f17 : Addr} {od17 an17 : Option Addr} {sl17 : Array (Option Value)} {oc17 kV17 dc17 pm17 cd17 ct17 : Value}
    {f18 : Addr} {od18 an18 : Option Addr} {sl18 : Array (Option Value)} {oc18 kV18 dc18 pm18 cd18 ct18 : Value}
    {f19 : Addr} {od19 an19 : Option Addr} {sl19 : Array (Option Value)} {oc19 kV19 dc19 pm19 cd19 ct19 : Value}
    {f20 : Addr} {od20 an20 : Option Addr} {sl20 : Array (Option Value)} {oc20 kV20 dc20 pm20 cd20 ct20 : Value}
    {f21 : Addr} {od21 an21 : Option Addr} {sl21 : Array (Option Value)} {oc21 kV21 dc21 pm21 cd21 ct21 : Value}
    {f22 : Addr} {od22 an22 : Option Addr} {sl22 : Array (Option Value)} {oc22 kV22 dc22 pm22 cd22 ct22 : Value}
    {f23 : Addr} {od23 an23 : Option Addr} {sl23 : Array (Option Value)} {oc23 kV23 dc23 pm23 cd23 ct23 : Value}
    {f24 : Addr} {od24 an24 : Option Addr} {sl24 : Array (Option Value)} {oc24 kV24 dc24 pm24 cd24 ct24 : Value}
    {f25 : Addr} {od25 an25 : Option Addr} {sl25 : Array (Option Value)} {oc25 kV25 dc25 pm25 cd25 ct25 : Value}
    {f26 : Addr} {od26 an26 : Option Addr} {sl26 : Array (Option Value)} {oc26 kV26 dc26 pm26 cd26 ct26 : Value}
    {f27 : Addr} {od27 an27 : Option Addr} {sl27 : Array (Option Value)} {oc27 kV27 dc27 pm27 cd27 ct27 : Value}
    {f28 : Addr} {od28 an28 : Option Addr} {sl28 : Array (Option Value)} {oc28 kV28 dc28 pm28 cd28 ct28 : Value}
    {f29 : Addr} {od29 an29 : Option Addr} {sl29 : Array (Option Value)} {oc29 kV29 dc29 pm29 cd29 ct29 : Value}
    {f30 : Addr} {od30 an30 : Option Addr} {sl30 : Array (Option Value)} {oc30 kV30 dc30 pm30 cd30 ct30 : Value}
    {f31 : Addr} {od31 an31 : Option Addr} {sl31 : Array (Option Value)} {oc31 kV31 dc31 pm31 cd31 ct31 : Value}
    {f32 : Addr} {od32 an32 : Option Addr} {sl32 : Array (Option Value)} {oc32 kV32 dc32 pm32 cd32 ct32 : Value}
    {f33 : Addr} {od33 an33 : Option Addr} {sl33 : Array (Option Value)} {oc33 kV33 dc33 pm33 cd33 ct33 : Value}
    {f34 : Addr} {od34 an34 : Option Addr} {sl34 : Array (Option Value)} {oc34 kV34 dc34 pm34 cd34 ct34 : Value}
    {f35 : Addr} {od35 an35 : Option Addr} {sl35 : Array (Option Value)} {oc35 kV35 dc35 pm35 cd35 ct35 : Value}
    {f36 : Addr} {od36 an36 : Option Addr} {sl36 : Array (Option Value)} {oc36 kV36 dc36 pm36 cd36 ct36 : Value}
    {f37 : Addr} {od37 an37 : Option Addr} {sl37 : Array (Option Value)} {oc37 kV37 dc37 pm37 cd37 ct37 : Value}
    {f38 : Addr} {od38 an38 : Option Addr} {sl38 : Array (Option Value)} {oc38 kV38 dc38 pm38 cd38 ct38 : Value}
    {f39 : Addr} {od39 an39 : Option Addr} {sl39 : Array (Option Value)} {oc39 kV39 dc39 pm39 cd39 ct39 : Value}
    {aN : Addr} {dN : Option Addr} {nN : Nat} {sN : Array (Option Value)} {t0 t1 : Tok}
    (y_Floats : PySem.W.nsIn K mainGlobals "Floats" = some (some (.ref c_Floats)))
    (y_OhmError : PySem.W.nsIn K mainGlobals "OhmError" = some (some (.ref c_OhmError)))
    (y_NoPoint : PySem.W.nsIn K mainGlobals "NoPoint" = some (some (.ref c_NoPoint)))
    (y_Table : PySem.W.nsIn K mainGlobals "Table" = some (some (.ref c_Table)))
    (a1_0 : PySem.W.findIn K (.ref c_Floats) "__init__" = some (some (.ref f1)))
    (i1 : PySem.W.isFn K (.ref f1) = true)
    (l1 : K.lookup f1 = some ⟨oc1, od1, .func (PySem.W.fnOf "__init__" "Floats.__init__" (defArgs sFInit) (defBody sFInit) (defScope sFInit) .none kV1 dc1 pm1 an1 cd1 ct1), sl1⟩) (c1 : PySem.W.codeIn K cd1 "Floats.__init__" = true) (k1 : PySem.W.keepIn K (.ref f1) = true)
    (a2 : PySem.W.nsIn K mainGlobals "is_whole" = some (some (.ref f2)))
    (l2 : K.lookup f2 = some ⟨oc2, od2, .func (PySem.W.fnOf "is_whole" "is_whole" (defArgs sWhole) (defBody sWhole) (defScope sWhole) .none kV2 dc2 pm2 an2 cd2 ct2), sl2⟩) (c2 : PySem.W.codeIn K cd2 "is_whole" = true) (k2 : PySem.W.keepIn K (.ref f2) = true)
    (a3 : PySem.W.nsIn K mainGlobals "greatest_common" = some (some (.ref f3)))
    (l3 : K.lookup f3 = some ⟨oc3, od3, .func (PySem.W.fnOf "greatest_common" "greatest_common" (defArgs sGc) (defBody sGc) (defScope sGc) .none kV3 dc3 pm3 an3 cd3 ct3), sl3⟩) (c3 : PySem.W.codeIn K cd3 "greatest_common" = true) (k3 : PySem.W.keepIn K (.ref f3) = true)
    (a4 : PySem.W.nsIn K mainGlobals "fraction" = some (some (.ref f4)))
    (l4 : K.lookup f4 = some ⟨oc4, od4, .func (PySem.W.fnOf "fraction" "fraction" (defArgs sFrac) (defBody sFrac) (defScope sFrac) (.ref T4) kV4 dc4 pm4 an4 cd4 ct4), sl4⟩) (c4 : PySem.W.codeIn K cd4 "fraction" = true) (k4 : PySem.W.keepIn K (.ref f4) = true)
    (lt4 : K.lookup T4 = some ⟨oT4, dT4, .seq #[.int 1 tk4] nT4, sT4⟩)
    (a5 : PySem.W.nsIn K mainGlobals "plus" = some (some (.ref f5)))
    (l5 : K.lookup f5 = some ⟨oc5, od5, .func (PySem.W.fnOf "plus" "plus" (defArgs sPlus) (defBody sPlus) (defScope sPlus) .none kV5 dc5 pm5 an5 cd5 ct5), sl5⟩) (c5 : PySem.W.codeIn K cd5 "plus" = true) (k5 : PySem.W.keepIn K (.ref f5) = true)
    (a6 : PySem.W.nsIn K mainGlobals "minus" = some (some (.ref f6)))
    (l6 : K.lookup f6 = some ⟨oc6, od6, .func (PySem.W.fnOf "minus" "minus" (defArgs sMinus) (defBody sMinus) (defScope sMinus) .none kV6 dc6 pm6 an6 cd6 ct6), sl6⟩) (c6 : PySem.W.codeIn K cd6 "minus" = true) (k6 : PySem.W.keepIn K (.ref f6) = true)
    (a7 : PySem.W.nsIn K mainGlobals "times" = some (some (.ref f7)))
    (l7 : K.lookup f7 = some ⟨oc7, od7, .func (PySem.W.fnOf "times" "times" (defArgs sTimes) (defBody sTimes) (defScope sTimes) .none kV7 dc7 pm7 an7 cd7 ct7), sl7⟩) (c7 : PySem.W.codeIn K cd7 "times" = true) (k7 : PySem.W.keepIn K (.ref f7) = true)
    (a8 : PySem.W.nsIn K mainGlobals "total" = some (some (.ref f8)))
    (l8 : K.lookup f8 = some ⟨oc8, od8, .func (PySem.W.fnOf "total" "total" (defArgs sTotal) (defBody sTotal) (defScope sTotal) .none kV8 dc8 pm8 an8 cd8 ct8), sl8⟩) (c8 : PySem.W.codeIn K cd8 "total" = true) (k8 : PySem.W.keepIn K (.ref f8) = true)
    (a9 : PySem.W.nsIn K mainGlobals "in_wholes" = some (some (.ref f9)))
    (l9 : K.lookup f9 = some ⟨oc9, od9, .func (PySem.W.fnOf "in_wholes" "in_wholes" (defArgs sIW) (defBody sIW) (defScope sIW) .none kV9 dc9 pm9 an9 cd9 ct9), sl9⟩) (c9 : PySem.W.codeIn K cd9 "in_wholes" = true) (k9 : PySem.W.keepIn K (.ref f9) = true)
    (a10 : PySem.W.nsIn K mainGlobals "over_pivot" = some (some (.ref f10)))
    (l10 : K.lookup f10 = some ⟨oc10, od10, .func (PySem.W.fnOf "over_pivot" "over_pivot" (defArgs sOverP) (defBody sOverP) (defScope sOverP) .none kV10 dc10 pm10 an10 cd10 ct10), sl10⟩) (c10 : PySem.W.codeIn K cd10 "over_pivot" = true) (k10 : PySem.W.keepIn K (.ref f10) = true)
    (a11 : PySem.W.nsIn K mainGlobals "pivot_place" = some (some (.ref f11)))
    (l11 : K.lookup f11 = some ⟨oc11, od11, .func (PySem.W.fnOf "pivot_place" "pivot_place" (defArgs sPiv) (defBody sPiv) (defScope sPiv) .none kV11 dc11 pm11 an11 cd11 ct11), sl11⟩) (c11 : PySem.W.codeIn K cd11 "pivot_place" = true) (k11 : PySem.W.keepIn K (.ref f11) = true)
    (a12 : PySem.W.nsIn K mainGlobals "cleared" = some (some (.ref f12)))
    (l12 : K.lookup f12 = some ⟨oc12, od12, .func (PySem.W.fnOf "cleared" "cleared" (defArgs sClr) (defBody sClr) (defScope sClr) .none kV12 dc12 pm12 an12 cd12 ct12), sl12⟩) (c12 : PySem.W.codeIn K cd12 "cleared" = true) (k12 : PySem.W.keepIn K (.ref f12) = true)
    (a13 : PySem.W.nsIn K mainGlobals "cleared_rows" = some (some (.ref f13)))
    (l13 : K.lookup f13 = some ⟨oc13, od13, .func (PySem.W.fnOf "cleared_rows" "cleared_rows" (defArgs sClrRows) (defBody sClrRows) (defScope sClrRows) .none kV13 dc13 pm13 an13 cd13 ct13), sl13⟩) (c13 : PySem.W.codeIn K cd13 "cleared_rows" = true) (k13 : PySem.W.keepIn K (.ref f13) = true)
    (a14 : PySem.W.nsIn K mainGlobals "eliminated" = some (some (.ref f14)))
    (l14 : K.lookup f14 = some ⟨oc14, od14, .func (PySem.W.fnOf "eliminated" "eliminated" (defArgs sElim) (defBody sElim) (defScope sElim) .none kV14 dc14 pm14 an14 cd14 ct14), sl14⟩) (c14 : PySem.W.codeIn K cd14 "eliminated" = true) (k14 : PySem.W.keepIn K (.ref f14) = true)
    (a15 : PySem.W.nsIn K mainGlobals "reduced" = some (some (.ref f15)))
    (l15 : K.lookup f15 = some ⟨oc15, od15, .func (PySem.W.fnOf "reduced" "reduced" (defArgs sRed) (defBody sRed) (defScope sRed) .none kV15 dc15 pm15 an15 cd15 ct15), sl15⟩) (c15 : PySem.W.codeIn K cd15 "reduced" = true) (k15 : PySem.W.keepIn K (.ref f15) = true)
    (a16_0 : PySem.W.findIn K (.ref c_Table) "__init__" = some (some (.ref f16)))
    (i16 : PySem.W.isFn K (.ref f16) = true)
    (l16 : K.lookup f16 = some ⟨oc16, od16, .func (PySem.W.fnOf "__init__" "Table.__init__" (defArgs sTInit) (defBody sTInit) (defScope sTInit) .none kV16 dc16 pm16 an16 cd16 ct16), sl16⟩) (c16 : PySem.W.codeIn K cd16 "Table.__init__" = true) (k16 : PySem.W.keepIn K (.ref f16) = true)
    (a17_0 : PySem.W.findIn K (.ref c_Table) "ends" = some (some (.ref f17)))
    (i17 : PySem.W.isFn K (.ref f17) = true)
    (l17 : K.lookup f17 = some ⟨oc17, od17, .func (PySem.W.fnOf "ends" "Table.ends" (defArgs sTEnds) (defBody sTEnds) (defScope sTEnds) .none kV17 dc17 pm17 an17 cd17 ct17), sl17⟩) (c17 : PySem.W.codeIn K cd17 "Table.ends" = true) (k17 : PySem.W.keepIn K (.ref f17) = true)
    (a18_0 : PySem.W.findIn K (.ref c_Table) "matrix" = some (some (.ref f18)))
    (i18 : PySem.W.isFn K (.ref f18) = true)
    (l18 : K.lookup f18 = some ⟨oc18, od18, .func (PySem.W.fnOf "matrix" "Table.matrix" (defArgs sTMat) (defBody sTMat) (defScope sTMat) .none kV18 dc18 pm18 an18 cd18 ct18), sl18⟩) (c18 : PySem.W.codeIn K cd18 "Table.matrix" = true) (k18 : PySem.W.keepIn K (.ref f18) = true)
    (a19_0 : PySem.W.findIn K (.ref c_Table) "comes" = some (some (.ref f19)))
    (i19 : PySem.W.isFn K (.ref f19) = true)
    (l19 : K.lookup f19 = some ⟨oc19, od19, .func (PySem.W.fnOf "comes" "Table.comes" (defArgs sTComes) (defBody sTComes) (defScope sTComes) .none kV19 dc19 pm19 an19 cd19 ct19), sl19⟩) (c19 : PySem.W.codeIn K cd19 "Table.comes" = true) (k19 : PySem.W.keepIn K (.ref f19) = true)
    (a20 : PySem.W.nsIn K mainGlobals "along" = some (some (.ref f20)))
    (l20 : K.lookup f20 = some ⟨oc20, od20, .func (PySem.W.fnOf "along" "along" (defArgs sAlong) (defBody sAlong) (defScope sAlong) .none kV20 dc20 pm20 an20 cd20 ct20), sl20⟩) (c20 : PySem.W.codeIn K cd20 "along" = true) (k20 : PySem.W.keepIn K (.ref f20) = true)
    (a21_0 : PySem.W.findIn K (.ref c_Table) "brought" = some (some (.ref f21)))
    (i21 : PySem.W.isFn K (.ref f21) = true)
    (l21 : K.lookup f21 = some ⟨oc21, od21, .func (PySem.W.fnOf "brought" "Table.brought" (defArgs sBrought) (defBody sBrought) (defScope sBrought) .none kV21 dc21 pm21 an21 cd21 ct21), sl21⟩) (c21 : PySem.W.codeIn K cd21 "Table.brought" = true) (k21 : PySem.W.keepIn K (.ref f21) = true)
    (a22 : PySem.W.nsIn K mainGlobals "picked" = some (some (.ref f22)))
    (l22 : K.lookup f22 = some ⟨oc22, od22, .func (PySem.W.fnOf "picked" "picked" (defArgs sPick) (defBody sPick) (defScope sPick) .none kV22 dc22 pm22 an22 cd22 ct22), sl22⟩) (c22 : PySem.W.codeIn K cd22 "picked" = true) (k22 : PySem.W.keepIn K (.ref f22) = true)
    (a23 : PySem.W.nsIn K mainGlobals "narrowed" = some (some (.ref f23)))
    (l23 : K.lookup f23 = some ⟨oc23, od23, .func (PySem.W.fnOf "narrowed" "narrowed" (defArgs sNar) (defBody sNar) (defScope sNar) .none kV23 dc23 pm23 an23 cd23 ct23), sl23⟩) (c23 : PySem.W.codeIn K cd23 "narrowed" = true) (k23 : PySem.W.keepIn K (.ref f23) = true)
    (a24_0 : PySem.W.findIn K (.ref c_Table) "taken" = some (some (.ref f24)))
    (i24 : PySem.W.isFn K (.ref f24) = true)
    (l24 : K.lookup f24 = some ⟨oc24, od24, .func (PySem.W.fnOf "taken" "Table.taken" (defArgs sTaken) (defBody sTaken) (defScope sTaken) .none kV24 dc24 pm24 an24 cd24 ct24), sl24⟩) (c24 : PySem.W.codeIn K cd24 "Table.taken" = true) (k24 : PySem.W.keepIn K (.ref f24) = true)
    (a25 : PySem.W.nsIn K mainGlobals "_law_nth" = some (some (.ref f25)))
    (l25 : K.lookup f25 = some ⟨oc25, od25, .func (PySem.W.fnOf "_law_nth" "_law_nth" (defArgs sNth) (defBody sNth) (defScope sNth) .none kV25 dc25 pm25 an25 cd25 ct25), sl25⟩) (c25 : PySem.W.codeIn K cd25 "_law_nth" = true) (k25 : PySem.W.keepIn K (.ref f25) = true)
    (a26 : PySem.W.nsIn K mainGlobals "_law_divisor" = some (some (.ref f26)))
    (l26 : K.lookup f26 = some ⟨oc26, od26, .func (PySem.W.fnOf "_law_divisor" "_law_divisor" (defArgs sDiv) (defBody sDiv) (defScope sDiv) .none kV26 dc26 pm26 an26 cd26 ct26), sl26⟩) (c26 : PySem.W.codeIn K cd26 "_law_divisor" = true) (k26 : PySem.W.keepIn K (.ref f26) = true)
    (a27 : PySem.W.nsIn K mainGlobals "_law_lowest" = some (some (.ref f27)))
    (l27 : K.lookup f27 = some ⟨oc27, od27, .func (PySem.W.fnOf "_law_lowest" "_law_lowest" (defArgs sLowest) (defBody sLowest) (defScope sLowest) .none kV27 dc27 pm27 an27 cd27 ct27), sl27⟩) (c27 : PySem.W.codeIn K cd27 "_law_lowest" = true) (k27 : PySem.W.keepIn K (.ref f27) = true)
    (a28 : PySem.W.nsIn K mainGlobals "_law_is" = some (some (.ref f28)))
    (l28 : K.lookup f28 = some ⟨oc28, od28, .func (PySem.W.fnOf "_law_is" "_law_is" (defArgs sIs) (defBody sIs) (defScope sIs) .none kV28 dc28 pm28 an28 cd28 ct28), sl28⟩) (c28 : PySem.W.codeIn K cd28 "_law_is" = true) (k28 : PySem.W.keepIn K (.ref f28) = true)
    (a29 : PySem.W.nsIn K mainGlobals "_law_list" = some (some (.ref f29)))
    (l29 : K.lookup f29 = some ⟨oc29, od29, .func (PySem.W.fnOf "_law_list" "_law_list" (defArgs sLList) (defBody sLList) (defScope sLList) .none kV29 dc29 pm29 an29 cd29 ct29), sl29⟩) (c29 : PySem.W.codeIn K cd29 "_law_list" = true) (k29 : PySem.W.keepIn K (.ref f29) = true)
    (a30 : PySem.W.nsIn K mainGlobals "_law_meets" = some (some (.ref f30)))
    (l30 : K.lookup f30 = some ⟨oc30, od30, .func (PySem.W.fnOf "_law_meets" "_law_meets" (defArgs sMeets) (defBody sMeets) (defScope sMeets) .none kV30 dc30 pm30 an30 cd30 ct30), sl30⟩) (c30 : PySem.W.codeIn K cd30 "_law_meets" = true) (k30 : PySem.W.keepIn K (.ref f30) = true)
    (a31 : PySem.W.nsIn K mainGlobals "_law_size" = some (some (.ref f31)))
    (l31 : K.lookup f31 = some ⟨oc31, od31, .func (PySem.W.fnOf "_law_size" "_law_size" (defArgs sSize) (defBody sSize) (defScope sSize) .none kV31 dc31 pm31 an31 cd31 ct31), sl31⟩) (c31 : PySem.W.codeIn K cd31 "_law_size" = true) (k31 : PySem.W.keepIn K (.ref f31) = true)
    (a32 : PySem.W.nsIn K mainGlobals "_law_amount" = some (some (.ref f32)))
    (l32 : K.lookup f32 = some ⟨oc32, od32, .func (PySem.W.fnOf "_law_amount" "_law_amount" (defArgs sAmount) (defBody sAmount) (defScope sAmount) .none kV32 dc32 pm32 an32 cd32 ct32), sl32⟩) (c32 : PySem.W.codeIn K cd32 "_law_amount" = true) (k32 : PySem.W.keepIn K (.ref f32) = true)
    (a33 : PySem.W.nsIn K mainGlobals "_law_plus" = some (some (.ref f33)))
    (l33 : K.lookup f33 = some ⟨oc33, od33, .func (PySem.W.fnOf "_law_plus" "_law_plus" (defArgs sLPlus) (defBody sLPlus) (defScope sLPlus) .none kV33 dc33 pm33 an33 cd33 ct33), sl33⟩) (c33 : PySem.W.codeIn K cd33 "_law_plus" = true) (k33 : PySem.W.keepIn K (.ref f33) = true)
    (a34 : PySem.W.nsIn K mainGlobals "_law_table" = some (some (.ref f34)))
    (l34 : K.lookup f34 = some ⟨oc34, od34, .func (PySem.W.fnOf "_law_table" "_law_table" (defArgs sTable) (defBody sTable) (defScope sTable) .none kV34 dc34 pm34 an34 cd34 ct34), sl34⟩) (c34 : PySem.W.codeIn K cd34 "_law_table" = true) (k34 : PySem.W.keepIn K (.ref f34) = true)
    (a35 : PySem.W.nsIn K mainGlobals "_law_sum" = some (some (.ref f35)))
    (l35 : K.lookup f35 = some ⟨oc35, od35, .func (PySem.W.fnOf "_law_sum" "_law_sum" (defArgs sSumD) (defBody sSumD) (defScope sSumD) .none kV35 dc35 pm35 an35 cd35 ct35), sl35⟩) (c35 : PySem.W.codeIn K cd35 "_law_sum" = true) (k35 : PySem.W.keepIn K (.ref f35) = true)
    (a36 : PySem.W.nsIn K mainGlobals "_law_alike" = some (some (.ref f36)))
    (l36 : K.lookup f36 = some ⟨oc36, od36, .func (PySem.W.fnOf "_law_alike" "_law_alike" (defArgs sAlike) (defBody sAlike) (defScope sAlike) .none kV36 dc36 pm36 an36 cd36 ct36), sl36⟩) (c36 : PySem.W.codeIn K cd36 "_law_alike" = true) (k36 : PySem.W.keepIn K (.ref f36) = true)
    (a37 : PySem.W.nsIn K mainGlobals "_law_refused" = some (some (.ref f37)))
    (l37 : K.lookup f37 = some ⟨oc37, od37, .func (PySem.W.fnOf "_law_refused" "_law_refused" (defArgs sRefu) (defBody sRefu) (defScope sRefu) .none kV37 dc37 pm37 an37 cd37 ct37), sl37⟩) (c37 : PySem.W.codeIn K cd37 "_law_refused" = true) (k37 : PySem.W.keepIn K (.ref f37) = true)
    (a38 : PySem.W.nsIn K mainGlobals "_law_without" = some (some (.ref f38)))
    (l38 : K.lookup f38 = some ⟨oc38, od38, .func (PySem.W.fnOf "_law_without" "_law_without" (defArgs sWith) (defBody sWith) (defScope sWith) .none kV38 dc38 pm38 an38 cd38 ct38), sl38⟩) (c38 : PySem.W.codeIn K cd38 "_law_without" = true) (k38 : PySem.W.keepIn K (.ref f38) = true)
    (a39 : PySem.W.nsIn K mainGlobals "law" = some (some (.ref f39)))
    (l39 : K.lookup f39 = some ⟨oc39, od39, .func (PySem.W.fnOf "law" "law" (defArgs sLaw) (defBody sLaw) (defScope sLaw) .none kV39 dc39 pm39 an39 cd39 ct39), sl39⟩) (c39 : PySem.W.codeIn K cd39 "law" = true) (k39 : PySem.W.keepIn K (.ref f39) = true)
    (v_NOUGHT : PySem.W.nsIn K mainGlobals "NOUGHT" = some (some (.ref aN)))
    {nL qL : Str} {NL : Addr} {bsL : List Value} {snL : List Str} {suL : List Value} {abL : Bool} {coL : Option Bool} {ddL : Option Addr} {k0L k1L k2L k3L k5L : Option Value} (lL : K.lookup c_Floats = some (excClassObj nL qL c_Floats NL bsL (.ref c_OhmError :: bmVE) true snL suL abL coL ddL k0L k1L k2L k3L k5L "ValueError.__new__"))
    {nO qO : Str} {NO : Addr} {bsO : List Value} {snO : List Str} {suO : List Value} {abO : Bool} {coO : Option Bool} {ddO : Option Addr} {k0O k1O k2O k3O k5O : Option Value} {hdO : Bool} (lO : K.lookup c_OhmError = some (excClassObj nO qO c_OhmError NO bsO bmVE hdO snO suO abO coO ddO k0O k1O k2O k3O k5O "ValueError.__new__"))
    (x1_OhmError : PySem.W.excIn K c_OhmError bmVE "ValueError.__new__" = true)
    (tyL : PySem.W.typeIn K (.ref f1) = some (.type "function"))
    (ci1 : PySem.W.specialIn K (.ref c_OhmError) "__getattribute__" = some (some (.builtin "type.__getattribute__")))
    (ci2 : PySem.W.readsIn K c_OhmError (.type "type") = true)
    (ci3 : PySem.W.findCls K (.ref c_OhmError) (.type "type") "__init__" = some (.val (.builtin "ValueError.__init__")))
    (sa_F : PySem.W.findIn K (.ref c_Floats) "__setattr__" = some (some (.builtin "object.__setattr__")))
    (no_F : PySem.W.findIn K (.ref c_Floats) "points" = some none)
    (hd_F : PySem.W.hasDictIn K c_Floats = true)
    (xm_F : PySem.W.exmOne K (.ref c_Floats) (.ref c_Floats) = some true)
    (xn_F : PySem.W.exmOne K (.ref c_NoPoint) (.ref c_Floats) = some false)
    (xp_F : PySem.W.exmOne K (.ref c_NoPoint) (.ref c_NoPoint) = some true)
    (x1_NoPoint : PySem.W.excIn K c_NoPoint bmVE "ValueError.__new__" = true)
    (lN : K.lookup aN = some ⟨.type "tuple", dN, .seq #[.int 0 t0, .int 1 t1] nN, sN⟩)
    (x2_Floats : PySem.W.findIn K (.ref c_Floats) "__getattribute__" = some (some (.builtin "BaseException.__getattribute__")))
    (x3_Floats : PySem.W.findIn K (.ref c_Floats) "__getattr__" = some none)
    (x4_Floats : PySem.W.mroIn K c_Floats (.type "BaseException") = some true)
    (x5_Floats : PySem.W.mroIn K c_Floats (.type "object") = some true)
    (x6_Floats : PySem.W.findIn K (.ref c_Floats) "__class__" = some (some (.builtin "object.__class__")))
    (x7_Floats : PySem.W.specialIn K (.builtin "object.__class__") "__get__" = some (some (.builtin "getset_descriptor.__get__")))
    (x8_Floats : PySem.W.takesIn K (.builtin "object.__class__") = some true)
    (x9_Floats : (PySem.W.clsIn K c_Floats).isSome = true)
    (pg_Table : PySem.W.plainGet K c_Table Str.empty = true)
    (hd_Table : PySem.W.hasDictIn K c_Table = true)
    (po_Table : PySem.W.plainOver K c_Table = true)
    (sa_Table : PySem.W.findIn K (.ref c_Table) "__setattr__" = some (some (.builtin "object.__setattr__")))
    (mk_Table : PySem.W.makesIn K c_Table = true)
    (kc_Table : PySem.W.keepIn K (.ref c_Table) = true)
    (t1_Table : PySem.W.findIn K (.ref c_Table) "__class__" = some (some (.builtin "object.__class__")))
    (t4_Table : PySem.W.mroIn K c_Table (.type "object") = some true)
    (na_Table_places : PySem.W.findIn K (.ref c_Table) "places" = some none)
    (na_Table_lines : PySem.W.findIn K (.ref c_Table) "lines" = some none)
    (na_Table_arrivals : PySem.W.findIn K (.ref c_Table) "arrivals" = some none)
    (z1 : PySem.W.nsIn K mainGlobals "isinstance" = some none)
    (z2 : PySem.W.nsIn K mainGlobals "int" = some none)
    (z3 : PySem.W.nsIn K mainGlobals "bool" = some none)
    (z4 : PySem.W.nsIn K mainGlobals "abs" = some none)
    (z5 : PySem.W.nsIn K mainGlobals "len" = some none)
    (z6 : PySem.W.nsIn K mainGlobals "range" = some none)
    (z7 : PySem.W.nsIn K mainGlobals "tuple" = some none)
    (z8 : PySem.W.nsIn K mainGlobals "list" = some none)
    (z9 : PySem.W.nsIn K mainGlobals "enumerate" = some none)
    (z10 : PySem.W.nsIn K mainGlobals "zip" = some none)
    (z11 : PySem.W.nsIn K mainGlobals "all" = some none) :
    ∃ fd : FuncData, (∀ (s : Shared) (v : Value), BindsTo s fd ⟨[v], []⟩ [("_law_script", v)]) ∧ ∀ base : Heap, K.In base → base.Ns mainGlobals mg → FnOk l.prog w K mg base CX0 8 fa fd ["_law_script"] (spLaw K) := by
  have e := hfa.symm.trans (PySem.W.mg_of X G a39)
  cases e
  have mc_Floats := PySem.W.mg_of X G y_Floats
  have mc_OhmError := PySem.W.mg_of X G y_OhmError
  have mc_NoPoint := PySem.W.mg_of X G y_NoPoint
  have mc_Table := PySem.W.mg_of X G y_Table
  have F1 := fund_mk (st := sFInit) l1 c1 k1
  have b1 := F1.binds (ps := ["self", "points"]) fun _ _ _ _ _ _ us hl => match us, hl with | [_, _], _ => rfl
  have F2 := fund_mk (st := sWhole) l2 c2 k2
  have m2 := PySem.W.mg_of X G a2
  have b2 := F2.binds (ps := ["thing"]) fun _ _ _ _ _ _ us hl => match us, hl with | [_], _ => rfl
  have F3 := fund_mk (st := sGc) l3 c3 k3
  have m3 := PySem.W.mg_of X G a3
  have b3 := F3.binds (ps := ["one", "other"]) fun _ _ _ _ _ _ us hl => match us, hl with | [_, _], _ => rfl
  have F4 := fund_mk (st := sFrac) l4 c4 k4
  have m4 := PySem.W.mg_of X G a4
  have b4 : Binds K _ ["top", "bottom"] [] := fun s us XX hl => match us, hl with | [_, _], _ => PySem.W.binds_K (fd := PySem.W.fnOf "fraction" "fraction" (defArgs sFrac) (defBody sFrac) (defScope sFrac) (.ref T4) kV4 dc4 pm4 an4 cd4 ct4) XX rfl lt4 rfl rfl rfl
  have bd4 : Binds K _ ["top", "bottom"] [.int 1 tk4] := fun s us XX hl => match us, (show us.length = 1 by simp at hl; omega) with | [_], _ => PySem.W.binds_K (fd := PySem.W.fnOf "fraction" "fraction" (defArgs sFrac) (defBody sFrac) (defScope sFrac) (.ref T4) kV4 dc4 pm4 an4 cd4 ct4) XX rfl lt4 rfl rfl rfl
  have F5 := fund_mk (st := sPlus) l5 c5 k5
  have m5 := PySem.W.mg_of X G a5
  have b5 := F5.binds (ps := ["one", "other"]) fun _ _ _ _ _ _ us hl => match us, hl with | [_, _], _ => rfl
  have F6 := fund_mk (st := sMinus) l6 c6 k6
  have m6 := PySem.W.mg_of X G a6
  have b6 := F6.binds (ps := ["one", "other"]) fun _ _ _ _ _ _ us hl => match us, hl with | [_, _], _ => rfl
  have F7 := fund_mk (st := sTimes) l7 c7 k7
  have m7 := PySem.W.mg_of X G a7
  have b7 := F7.binds (ps := ["one", "other"]) fun _ _ _ _ _ _ us hl => match us, hl with | [_, _], _ => rfl
  have F8 := fund_mk (st := sTotal) l8 c8 k8
  have m8 := PySem.W.mg_of X G a8
  have b8 := F8.binds (ps := ["some"]) fun _ _ _ _ _ _ us hl => match us, hl with | [_], _ => rfl
  have F9 := fund_mk (st := sIW) l9 c9 k9
  have m9 := PySem.W.mg_of X G a9
  have b9 := F9.binds (ps := ["some"]) fun _ _ _ _ _ _ us hl => match us, hl with | [_], _ => rfl
  have F10 := fund_mk (st := sOverP) l10 c10 k10
  have m10 := PySem.W.mg_of X G a10
  have b10 := F10.binds (ps := ["tops", "pivot"]) fun _ _ _ _ _ _ us hl => match us, hl with | [_, _], _ => rfl
  have F11 := fund_mk (st := sPiv) l11 c11 k11
  have m11 := PySem.W.mg_of X G a11
  have b11 := F11.binds (ps := ["rows", "rank", "column"]) fun _ _ _ _ _ _ us hl => match us, hl with | [_, _, _], _ => rfl
  have F12 := fund_mk (st := sClr) l12 c12 k12
  have m12 := PySem.W.mg_of X G a12
  have b12 := F12.binds (ps := ["row", "upper", "column", "divisor"]) fun _ _ _ _ _ _ us hl => match us, hl with | [_, _, _, _], _ => rfl
  have F13 := fund_mk (st := sClrRows) l13 c13 k13
  have m13 := PySem.W.mg_of X G a13
  have b13 := F13.binds (ps := ["rows", "rank", "column", "divisor"]) fun _ _ _ _ _ _ us hl => match us, hl with | [_, _, _, _], _ => rfl
  have F14 := fund_mk (st := sElim) l14 c14 k14
  have m14 := PySem.W.mg_of X G a14
  have b14 := F14.binds (ps := ["rows", "width"]) fun _ _ _ _ _ _ us hl => match us, hl with | [_, _], _ => rfl
  have F15 := fund_mk (st := sRed) l15 c15 k15
  have m15 := PySem.W.mg_of X G a15
  have b15 := F15.binds (ps := ["matrix", "count"]) fun _ _ _ _ _ _ us hl => match us, hl with | [_, _], _ => rfl
  have F16 := fund_mk (st := sTInit) l16 c16 k16
  have b16 := F16.binds (ps := ["self", "ends", "matrix", "comes"]) fun _ _ _ _ _ _ us hl => match us, hl with | [_, _, _, _], _ => rfl
  have F17 := fund_mk (st := sTEnds) l17 c17 k17
  have b17 := F17.binds (ps := ["self"]) fun _ _ _ _ _ _ us hl => match us, hl with | [_], _ => rfl
  have F18 := fund_mk (st := sTMat) l18 c18 k18
  have b18 := F18.binds (ps := ["self"]) fun _ _ _ _ _ _ us hl => match us, hl with | [_], _ => rfl
  have F19 := fund_mk (st := sTComes) l19 c19 k19
  have b19 := F19.binds (ps := ["self"]) fun _ _ _ _ _ _ us hl => match us, hl with | [_], _ => rfl
  have F20 := fund_mk (st := sAlong) l20 c20 k20
  have m20 := PySem.W.mg_of X G a20
  have b20 := F20.binds (ps := ["line", "heights"]) fun _ _ _ _ _ _ us hl => match us, hl with | [_, _], _ => rfl
  have F21 := fund_mk (st := sBrought) l21 c21 k21
  have b21 := F21.binds (ps := ["self", "heights"]) fun _ _ _ _ _ _ us hl => match us, hl with | [_, _], _ => rfl
  have F22 := fund_mk (st := sPick) l22 c22 k22
  have m22 := PySem.W.mg_of X G a22
  have b22 := F22.binds (ps := ["matrix", "places"]) fun _ _ _ _ _ _ us hl => match us, hl with | [_, _], _ => rfl
  have F23 := fund_mk (st := sNar) l23 c23 k23
  have m23 := PySem.W.mg_of X G a23
  have b23 := F23.binds (ps := ["table", "ends"]) fun _ _ _ _ _ _ us hl => match us, hl with | [_, _], _ => rfl
  have F24 := fund_mk (st := sTaken) l24 c24 k24
  have b24 := F24.binds (ps := ["self", "point"]) fun _ _ _ _ _ _ us hl => match us, hl with | [_, _], _ => rfl
  have F25 := fund_mk (st := sNth) l25 c25 k25
  have m25 := PySem.W.mg_of X G a25
  have b25 := F25.binds (ps := ["_law_script", "_law_k"]) fun _ _ _ _ _ _ us hl => match us, hl with | [_, _], _ => rfl
  have F26 := fund_mk (st := sDiv) l26 c26 k26
  have m26 := PySem.W.mg_of X G a26
  have b26 := F26.binds (ps := ["_law_one", "_law_other"]) fun _ _ _ _ _ _ us hl => match us, hl with | [_, _], _ => rfl
  have F27 := fund_mk (st := sLowest) l27 c27 k27
  have m27 := PySem.W.mg_of X G a27
  have b27 := F27.binds (ps := ["_law_top", "_law_bottom"]) fun _ _ _ _ _ _ us hl => match us, hl with | [_, _], _ => rfl
  have F28 := fund_mk (st := sIs) l28 c28 k28
  have m28 := PySem.W.mg_of X G a28
  have b28 := F28.binds (ps := ["_law_found"]) fun _ _ _ _ _ _ us hl => match us, hl with | [_], _ => rfl
  have F29 := fund_mk (st := sLList) l29 c29 k29
  have m29 := PySem.W.mg_of X G a29
  have b29 := F29.binds (ps := ["_law_found", "_law_many"]) fun _ _ _ _ _ _ us hl => match us, hl with | [_, _], _ => rfl
  have F30 := fund_mk (st := sMeets) l30 c30 k30
  have m30 := PySem.W.mg_of X G a30
  have b30 := F30.binds (ps := ["_law_some", "_law_others", "_law_due"]) fun _ _ _ _ _ _ us hl => match us, hl with | [_, _, _], _ => rfl
  have F31 := fund_mk (st := sSize) l31 c31 k31
  have m31 := PySem.W.mg_of X G a31
  have b31 := F31.binds (ps := ["_law_cell", "_law_far"]) fun _ _ _ _ _ _ us hl => match us, hl with | [_, _], _ => rfl
  have F32 := fund_mk (st := sAmount) l32 c32 k32
  have m32 := PySem.W.mg_of X G a32
  have b32 := F32.binds (ps := ["_law_cell", "_law_far"]) fun _ _ _ _ _ _ us hl => match us, hl with | [_, _], _ => rfl
  have F33 := fund_mk (st := sLPlus) l33 c33 k33
  have m33 := PySem.W.mg_of X G a33
  have b33 := F33.binds (ps := ["_law_one", "_law_other"]) fun _ _ _ _ _ _ us hl => match us, hl with | [_, _], _ => rfl
  have F34 := fund_mk (st := sTable) l34 c34 k34
  have m34 := PySem.W.mg_of X G a34
  have b34 := F34.binds (ps := ["_law_script", "_law_many", "_law_far"]) fun _ _ _ _ _ _ us hl => match us, hl with | [_, _, _], _ => rfl
  have F35 := fund_mk (st := sSumD) l35 c35 k35
  have m35 := PySem.W.mg_of X G a35
  have b35 := F35.binds (ps := ["_law_some", "_law_others"]) fun _ _ _ _ _ _ us hl => match us, hl with | [_, _], _ => rfl
  have F36 := fund_mk (st := sAlike) l36 c36 k36
  have m36 := PySem.W.mg_of X G a36
  have b36 := F36.binds (ps := ["_law_found", "_law_ends", "_law_heights", "_law_due"]) fun _ _ _ _ _ _ us hl => match us, hl with | [_, _, _, _], _ => rfl
  have F37 := fund_mk (st := sRefu) l37 c37 k37
  have m37 := PySem.W.mg_of X G a37
  have b37 := F37.binds (ps := ["_law_table_here", "_law_point"]) fun _ _ _ _ _ _ us hl => match us, hl with | [_, _], _ => rfl
  have F38 := fund_mk (st := sWith) l38 c38 k38
  have m38 := PySem.W.mg_of X G a38
  have b38 := F38.binds (ps := ["_law_known", "_law_at", "_law_heights"]) fun _ _ _ _ _ _ us hl => match us, hl with | [_, _, _], _ => rfl
  have F39 := fund_mk (st := sLaw) l39 c39 k39
  have m39 := PySem.W.mg_of X G a39
  have b39 := F39.binds (ps := ["_law_script"]) fun _ _ _ _ _ _ us hl => match us, hl with | [_], _ => rfl
  have mv_NOUGHT := PySem.W.mg_of X G v_NOUGHT
  have n_isinstance := PySem.W.mg_none_of X G z1
  have n_int := PySem.W.mg_none_of X G z2
  have n_bool := PySem.W.mg_none_of X G z3
  have n_abs := PySem.W.mg_none_of X G z4
  have n_len := PySem.W.mg_none_of X G z5
  have n_range := PySem.W.mg_none_of X G z6
  have n_tuple := PySem.W.mg_none_of X G z7
  have n_list := PySem.W.mg_none_of X G z8
  have n_enumerate := PySem.W.mg_none_of X G z9
  have n_zip := PySem.W.mg_none_of X G z10
  have n_all := PySem.W.mg_none_of X G z11
  refine ⟨PySem.W.fnOf "law" "law" (defArgs sLaw) (defBody sLaw) (defScope sLaw) .none kV39 dc39 pm39 an39 cd39 ct39, fun s v => .of_eq rfl, fun base _ _ => ?_⟩
  have bl : Bl mg := ⟨n_isinstance, n_int, n_bool, n_abs⟩
  have fN : ∀ H, Fq K H aN (0, 1) := Fq.mod lN
  have TBx : TB K mg c_Table := ⟨⟨pg_Table, hd_Table, po_Table, sa_Table⟩, na_Table_places, na_Table_lines, na_Table_arrivals, mc_Table⟩
  have qI : ExcI K c_Floats c_OhmError f1 := ⟨⟨_, _, _, _, _, _, _, _, _, _, _, _, _, _, lL⟩, ⟨_, _, _, _, _, _, _, _, _, _, _, _, _, _, _, lO⟩, x1_OhmError, a1_0, tyL⟩
  have cI : ClsI K c_OhmError := ⟨ci1, ci2, ci3⟩
  have qF : ExcF K c_Floats "points" := ⟨sa_F, no_F⟩
  have FC : FlC K c_NoPoint c_Floats := ⟨⟨x2_Floats, x3_Floats, x4_Floats, x5_Floats, x6_Floats, x7_Floats, x8_Floats, x9_Floats⟩, hd_F, no_F, xm_F, xn_F, xp_F⟩
  have R1 := ok_finit (P := l.prog) (w := w) (K := K) (mg := mg) (base := base) (CX := CX0) F1 qI cI qF mc_OhmError n_tuple n_list
  have R2 := ok_whole (P := l.prog) (w := w) (K := K) (mg := mg) (base := base) (CX := CX0) F2 bl
  have R3 := ok_gc (P := l.prog) (w := w) (K := K) (mg := mg) (base := base) (CX := CX0) F3 bl
  have R4 := ok_frac (P := l.prog) (w := w) (K := K) (mg := mg) (base := base) (CX := CX0) F4  R2 b2 k2 m2 R3 b3 k3 m3
  have R5 := ok_plus (P := l.prog) (w := w) (K := K) (mg := mg) (base := base) (CX := CX0) F5  R4 b4 k4 m4
  have R6 := ok_minus (P := l.prog) (w := w) (K := K) (mg := mg) (base := base) (CX := CX0) F6  R4 b4 k4 m4
  have R7 := ok_times (P := l.prog) (w := w) (K := K) (mg := mg) (base := base) (CX := CX0) F7  R4 b4 k4 m4
  have R8 := ok_total (P := l.prog) (w := w) (K := K) (mg := mg) (base := base) (CX := CX0) F8 fN mv_NOUGHT R5 b5 k5 m5
  have R9 := ok_iw (P := l.prog) (w := w) (K := K) (mg := mg) (base := base) (CX := CX0) F9  R3 b3 k3 m3
  have R10 := ok_overp (P := l.prog) (w := w) (K := K) (mg := mg) (base := base) (CX := CX0) F10  R4 b4 k4 m4
  have R11 := ok_piv (P := l.prog) (w := w) (K := K) (mg := mg) (base := base) (CX := CX0) F11 n_len n_range
  have R12 := ok_clr (P := l.prog) (w := w) (K := K) (mg := mg) (base := base) (CX := CX0) F12 n_zip
  have R13 := ok_clrrows (P := l.prog) (w := w) (K := K) (mg := mg) (base := base) (CX := CX0) F13 n_enumerate R12 b12 k12 m12
  have R14 := ok_elim (P := l.prog) (w := w) (K := K) (mg := mg) (base := base) (CX := CX0) F14 n_list n_range R11 b11 k11 m11 R13 b13 k13 m13
  have R15 := ok_red (P := l.prog) (w := w) (K := K) (mg := mg) (base := base) (CX := CX0) F15 n_zip R9 b9 k9 m9 R14 b14 k14 m14 R10 b10 k10 m10
  have R16 := ok_tinit (P := l.prog) (w := w) (K := K) (mg := mg) (base := base) (CX := CX0) F16 TBx n_list
  have MT : Mk K c_Table f16 := ⟨mk_Table, a16_0, i16, kc_Table⟩
  have R17 := ok_tends (P := l.prog) (w := w) (K := K) (mg := mg) (base := base) (CX := CX0) F17 TBx n_list
  have R18 := ok_tmat (P := l.prog) (w := w) (K := K) (mg := mg) (base := base) (CX := CX0) F18 TBx n_list
  have R19 := ok_tcomes (P := l.prog) (w := w) (K := K) (mg := mg) (base := base) (CX := CX0) F19 TBx n_list
  have R20 := ok_along (P := l.prog) (w := w) (K := K) (mg := mg) (base := base) (CX := CX0) F20 n_zip R8 b8 k8 m8 R7 b7 k7 m7
  have R21 := ok_brought (P := l.prog) (w := w) (K := K) (mg := mg) (base := base) (CX := CX0) F21 TBx n_zip R20 b20 k20 m20 R6 b6 k6 m6
  have R22 := ok_pick (P := l.prog) (w := w) (K := K) (mg := mg) (base := base) (CX := CX0) F22 
  have R23 := ok_nar (P := l.prog) (w := w) (K := K) (mg := mg) (base := base) (CX := CX0) F23 TBx n_zip n_len R16 b16 MT R22 b22 k22 m22 R15 b15 k15 m15
  have R24 := ok_taken (P := l.prog) (w := w) (K := K) (mg := mg) (base := base) F24 TBx fN mv_NOUGHT n_len mc_NoPoint x1_NoPoint mc_Floats qI R1 b1 R2 b2 k2 m2 R23 b23 k23 m23
  have R25 := ok_nth (P := l.prog) (w := w) (K := K) (mg := mg) (base := base) (CX := CX0) F25 
  have R26 := ok_div (P := l.prog) (w := w) (K := K) (mg := mg) (base := base) (CX := CX0) F26 bl
  have R27 := ok_lowest (P := l.prog) (w := w) (K := K) (mg := mg) (base := base) (CX := CX0) F27  R26 b26 k26 m26
  have R28 := ok_is (P := l.prog) (w := w) (K := K) (mg := mg) (base := base) (CX := CX0) F28 bl n_len n_tuple R26 b26 k26 m26
  have R29 := ok_llist (P := l.prog) (w := w) (K := K) (mg := mg) (base := base) (CX := CX0) F29 bl n_len n_list n_all R28 b28 k28 m28
  have R30 := ok_meets (P := l.prog) (w := w) (K := K) (mg := mg) (base := base) (CX := CX0) F30 n_zip
  have R31 := ok_size (P := l.prog) (w := w) (K := K) (mg := mg) (base := base) (CX := CX0) F31  R27 b27 k27 m27
  have R32 := ok_amount (P := l.prog) (w := w) (K := K) (mg := mg) (base := base) (CX := CX0) F32  R27 b27 k27 m27
  have R33 := ok_lplus (P := l.prog) (w := w) (K := K) (mg := mg) (base := base) (CX := CX0) F33  R27 b27 k27 m27
  have R34 := ok_table (P := l.prog) (w := w) (K := K) (mg := mg) (base := base) (CX := CX0) F34 n_range n_len R25 b25 k25 m25 R31 b31 k31 m31 R33 b33 k33 m33 R32 b32 k32 m32
  have R35 := ok_sumd (P := l.prog) (w := w) (K := K) (mg := mg) (base := base) (CX := CX0) F35 n_zip R33 b33 k33 m33 R27 b27 k27 m27
  have R36 := ok_alike (P := l.prog) (w := w) (K := K) (mg := mg) (base := base) (CX := CX0) F36 TBx n_range n_len n_list R17 b17 ⟨a17_0, i17, k17⟩ R19 b19 ⟨a19_0, i19, k19⟩ R18 b18 ⟨a18_0, i18, k18⟩ R21 b21 ⟨a21_0, i21, k21⟩ R29 b29 k29 m29 R30 b30 k30 m30
  have R37 := ok_refu (P := l.prog) (w := w) (K := K) (mg := mg) (base := base) (CX := CX0) F37 TBx FC mc_NoPoint mc_Floats R24 b24 ⟨a24_0, i24, k24⟩
  have R38 := ok_with (P := l.prog) (w := w) (K := K) (mg := mg) (base := base) (CX := CX0) F38 n_range n_len R35 b35 k35 m35 R27 b27 k27 m27
  exact ok_law (P := l.prog) (w := w) (K := K) (mg := mg) (base := base) (CX := CX0) F39 bl n_range n_len n_list TBx R16 b16 MT R24 b24 ⟨a24_0, i24, k24⟩ R17 b17 ⟨a17_0, i17, k17⟩ R19 b19 ⟨a19_0, i19, k19⟩ R18 b18 ⟨a18_0, i18, k18⟩ R25 b25 k25 m25 R34 b34 k34 m34 R37 b37 k37 m37 R32 b32 k32 m32 R38 b38 k38 m38 R36 b36 k36 m36
theorem walk {l : PySem.W.OpenLaw} {q : Program} {loose : List Str} {XP : (Str → Option Value) → Heap → Prop} {YP : World → Heap → Prop} {d : DefRec} {K : Params → PySem.W.Frag} (hn : l.most = some 63) (hdf : d.params.defaults = [])
    (hY : ∀ (w : World) (h : Heap), YP w h → (K w.params).In h)
    (F : ∀ (w : World) (mg : Str → Option Value) (fa : Addr) (h : Heap), (K w.params).In h → h.Ns mainGlobals mg → mg d.name = some (.ref fa) →
      ∃ fd : FuncData, (∀ (s : Shared) (u : Value), BindsTo s fd ⟨[u], []⟩ [("_law_script", u)]) ∧ ∀ base : Heap, (K w.params).In base → base.Ns mainGlobals mg → FnOk l.prog w (K w.params) mg base CX0 8 fa fd ["_law_script"] (spLaw (K w.params))) :
    PySem.W.WalkO q loose XP YP l.row.toRowW d [] (fun f vs => PySem.call f vs) :=
  L2.walk_of (n := 63) (k := 8) (x := "_law_script") (CX := fun _ => CX0) (sp := fun w => spLaw (K w.params)) hn (by decide) hdf ⟨rfl, by decide, by decide⟩ hY F (fun _ _ a ns hl _ hS => ⟨a, ns, rfl, hS, hl, fun _ => rfl⟩) fun _ _ _ _ _ z => z
end K55
def PySem.W.Fast.tw11082583294955625281 : Nat := 0
def PySem.W.Fast.tw13528623865102432633 : Nat := 0
def PySem.W.Fast.tw15290330154696220339 : Nat := 0
def PySem.W.Fast.tw1812779067934372005 : Nat := 0
def PySem.W.Fast.tw2690815397650976481 : Nat := 0
def PySem.W.Fast.tw16575209170631385858 : Nat := 0
def PySem.W.Fast.tw17319603546151644725 : Nat := 0
def PySem.W.Fast.tw12764589098045440491 : Nat := 0
def PySem.W.Fast.tw9083609572425420426 : Nat := 0
def PySem.W.Fast.tw15169152021995097680 : Nat := 0
def PySem.W.Fast.tw1328220348844987707 : Nat := 0
def PySem.W.Fast.tw15077730602807101946 : Nat := 0
def PySem.W.Fast.tw10355469759463770357 : Nat := 0
open PySem PySem.W PyProof.Rows
set_option maxRecDepth 100000 in
set_option maxHeartbeats 0 in
theorem PySem.Challenge.cw_ohmyard_k55_ends_taken_away_holds : PySem.Challenge.rw_ohmyard_k55_ends_taken_away.Holds := by
  w_on; o_law; z_head; (case hw => w_witness2)
  k_fill
  refine L2.walkX_of (fun _ => by kernel_rfl) (K55.walk (l := PySem.Challenge.rw_ohmyard_k55_ends_taken_away) rfl rfl (fun w h Y => Y) ?F)
  case F =>
    intro w mg fa h KX G hmg
    refine' K55.all_mk KX G hmg ?y_Floats ?y_OhmError ?y_NoPoint ?y_Table ?a1_0 ?i1 ?l1 ?c1 ?k1 ?a2 ?l2 ?c2 ?k2 ?a3 ?l3 ?c3 ?k3 ?a4 ?l4 ?c4 ?k4 ?lt4 ?a5 ?l5 ?c5 ?k5 ?a6 ?l6 ?c6 ?k6 ?a7 ?l7 ?c7 ?k7 ?a8 ?l8 ?c8 ?k8 ?a9 ?l9 ?c9 ?k9 ?a10 ?l10 ?c10 ?k10 ?a11 ?l11 ?c11 ?k11 ?a12 ?l12 ?c12 ?k12 ?a13 ?l13 ?c13 ?k13 ?a14 ?l14 ?c14 ?k14 ?a15 ?l15 ?c15 ?k15 ?a16_0 ?i16 ?l16 ?c16 ?k16 ?a17_0 ?i17 ?l17 ?c17 ?k17 ?a18_0 ?i18 ?l18 ?c18 ?k18 ?a19_0 ?i19 ?l19 ?c19 ?k19 ?a20 ?l20 ?c20 ?k20 ?a21_0 ?i21 ?l21 ?c21 ?k21 ?a22 ?l22 ?c22 ?k22 ?a23 ?l23 ?c23 ?k23 ?a24_0 ?i24 ?l24 ?c24 ?k24 ?a25 ?l25 ?c25 ?k25 ?a26 ?l26 ?c26 ?k26 ?a27 ?l27 ?c27 ?k27 ?a28 ?l28 ?c28 ?k28 ?a29 ?l29 ?c29 ?k29 ?a30 ?l30 ?c30 ?k30 ?a31 ?l31 ?c31 ?k31 ?a32 ?l32 ?c32 ?k32 ?a33 ?l33 ?c33 ?k33 ?a34 ?l34 ?c34 ?k34 ?a35 ?l35 ?c35 ?k35 ?a36 ?l36 ?c36 ?k36 ?a37 ?l37 ?c37 ?k37 ?a38 ?l38 ?c38 ?k38 ?a39 ?l39 ?c39 ?k39 ?v_NOUGHT ?lL ?lO ?x1_OhmError ?tyL ?ci1 ?ci2 ?ci3 ?sa_F ?no_F ?hd_F ?xm_F ?xn_F ?xp_F ?x1_NoPoint ?lN ?x2_Floats ?x3_Floats ?x4_Floats ?x5_Floats ?x6_Floats ?x7_Floats ?x8_Floats ?x9_Floats ?pg_Table ?hd_Table ?po_Table ?sa_Table ?mk_Table ?kc_Table ?t1_Table ?t4_Table ?na_Table_places ?na_Table_lines ?na_Table_arrivals ?z1 ?z2 ?z3 ?z4 ?z5 ?z6 ?z7 ?z8 ?z9 ?z10 ?z11
    (case y_Floats => k_is)
    (case y_OhmError => k_is)
    (case y_NoPoint => k_is)
    (case y_Table => k_is)
    (case a1_0 => k_is); (case i1 => k_is); (case l1 => k_is); (case c1 => k_is); (case k1 => k_is)
    (case a2 => k_is); (case l2 => k_is); (case c2 => k_is); (case k2 => k_is)
    (case a3 => k_is); (case l3 => k_is); (case c3 => k_is); (case k3 => k_is)
    (case a4 => k_is); (case l4 => k_is); (case c4 => k_is); (case k4 => k_is); (case lt4 => k_is)
    (case a5 => k_is); (case l5 => k_is); (case c5 => k_is); (case k5 => k_is)
    (case a6 => k_is); (case l6 => k_is); (case c6 => k_is); (case k6 => k_is)
    (case a7 => k_is); (case l7 => k_is); (case c7 => k_is); (case k7 => k_is)
    (case a8 => k_is); (case l8 => k_is); (case c8 => k_is); (case k8 => k_is)
    (case a9 => k_is); (case l9 => k_is); (case c9 => k_is); (case k9 => k_is)
    (case a10 => k_is); (case l10 => k_is); (case c10 => k_is); (case k10 => k_is)
    (case a11 => k_is); (case l11 => k_is); (case c11 => k_is); (case k11 => k_is)
    (case a12 => k_is); (case l12 => k_is); (case c12 => k_is); (case k12 => k_is)
    (case a13 => k_is); (case l13 => k_is); (case c13 => k_is); (case k13 => k_is)
    (case a14 => k_is); (case l14 => k_is); (case c14 => k_is); (case k14 => k_is)
    (case a15 => k_is); (case l15 => k_is); (case c15 => k_is); (case k15 => k_is)
    (case a16_0 => k_is); (case i16 => k_is); (case l16 => k_is); (case c16 => k_is); (case k16 => k_is)
    (case a17_0 => k_is); (case i17 => k_is); (case l17 => k_is); (case c17 => k_is); (case k17 => k_is)
    (case a18_0 => k_is); (case i18 => k_is); (case l18 => k_is); (case c18 => k_is); (case k18 => k_is)
    (case a19_0 => k_is); (case i19 => k_is); (case l19 => k_is); (case c19 => k_is); (case k19 => k_is)
    (case a20 => k_is); (case l20 => k_is); (case c20 => k_is); (case k20 => k_is)
    (case a21_0 => k_is); (case i21 => k_is); (case l21 => k_is); (case c21 => k_is); (case k21 => k_is)
    (case a22 => k_is); (case l22 => k_is); (case c22 => k_is); (case k22 => k_is)
    (case a23 => k_is); (case l23 => k_is); (case c23 => k_is); (case k23 => k_is)
    (case a24_0 => k_is); (case i24 => k_is); (case l24 => k_is); (case c24 => k_is); (case k24 => k_is)
    (case a25 => k_is); (case l25 => k_is); (case c25 => k_is); (case k25 => k_is)
    (case a26 => k_is); (case l26 => k_is); (case c26 => k_is); (case k26 => k_is)
    (case a27 => k_is); (case l27 => k_is); (case c27 => k_is); (case k27 => k_is)
    (case a28 => k_is); (case l28 => k_is); (case c28 => k_is); (case k28 => k_is)
    (case a29 => k_is); (case l29 => k_is); (case c29 => k_is); (case k29 => k_is)
    (case a30 => k_is); (case l30 => k_is); (case c30 => k_is); (case k30 => k_is)
    (case a31 => k_is); (case l31 => k_is); (case c31 => k_is); (case k31 => k_is)
    (case a32 => k_is); (case l32 => k_is); (case c32 => k_is); (case k32 => k_is)
    (case a33 => k_is); (case l33 => k_is); (case c33 => k_is); (case k33 => k_is)
    (case a34 => k_is); (case l34 => k_is); (case c34 => k_is); (case k34 => k_is)
    (case a35 => k_is); (case l35 => k_is); (case c35 => k_is); (case k35 => k_is)
    (case a36 => k_is); (case l36 => k_is); (case c36 => k_is); (case k36 => k_is)
    (case a37 => k_is); (case l37 => k_is); (case c37 => k_is); (case k37 => k_is)
    (case a38 => k_is); (case l38 => k_is); (case c38 => k_is); (case k38 => k_is)
    (case a39 => k_is); (case l39 => k_is); (case c39 => k_is); (case k39 => k_is)
    (case v_NOUGHT => k_is)
    (case lL => k_is)
    (case lO => k_is)
    (case x1_OhmError => k_exc)
    (case tyL => k_is)
    (case ci1 => k_is)
    (case ci2 => k_is)
    (case ci3 => k_is)
    (case sa_F => k_is)
    (case no_F => k_is)
    (case hd_F => k_is)
    (case xm_F => kts_exm)
    (case xn_F => kts_exm)
    (case xp_F => kts_exm)
    (case x1_NoPoint => k_exc)
    (case lN => k_is)
    (case x2_Floats => k_is)
    (case x3_Floats => k_is)
    (case x4_Floats => k_is)
    (case x5_Floats => k_is)
    (case x6_Floats => k_is)
    (case x7_Floats => k_is)
    (case x8_Floats => k_is)
    (case x9_Floats => first | k_is | rfl | decide)
    (case pg_Table => k_is)
    (case hd_Table => k_is)
    (case po_Table => k_is)
    (case sa_Table => k_is)
    (case mk_Table => k_is)
    (case kc_Table => k_is)
    (case t1_Table => k_is)
    (case t4_Table => k_is)
    (case na_Table_places => k_is)
    (case na_Table_lines => k_is)
    (case na_Table_arrivals => k_is)
    (case z1 => k_is)
    (case z2 => k_is)
    (case z3 => k_is)
    (case z4 => k_is)
    (case z5 => k_is)
    (case z6 => k_is)
    (case z7 => k_is)
    (case z8 => k_is)
    (case z9 => k_is)
    (case z10 => k_is)
    (case z11 => k_is)
